import PyProof.Rows.All
import Wide.All
import OpenK.AllK
import Wide.FinOn
import PyProof.EqAt
import PyProof.EqKinds
import PyProof.TupleCall
import KE.BitLaws
import KE.KSortTupG
import KE.KSortKey
import KE.KDictSum
import PyProof.Rows.SortStr
import PyProof.Rows.SortKeyStr
import PySem.Challenge.RW_whatindex_k15_heaps
-- CHANGE: your row's module here, as the last of these rows
set_option Elab.async false
set_option linter.all false
set_option maxRecDepth 100000

namespace L2
open PySem PySem.Spec PyProof.Rows


abbrev Key := Sum Int Str
def keyIs : Key → Value → Bool
  | .inl k, v => Value.isInt k v
  | .inr x, v => Value.isStrOf x v
def keyH (w : World) : Key → Int
  | .inl k => hashInt k
  | .inr x => hashStr w x
theorem keyIs_shape : ∀ {k : Key} {v : Value}, keyIs k v = true → (∃ i t, k = Sum.inl i ∧ v = Value.int i t) ∨ (∃ x t, k = Sum.inr x ∧ v = Value.str x t)
  | .inl i, v, h => by
    obtain ⟨t, e⟩ := Value.isInt_shape (k := i) (v := v) h
    exact .inl ⟨i, t, rfl, e⟩
  | .inr x, v, h => by
    obtain ⟨t, e⟩ := Value.isStrOf_shape (x := x) (v := v) h
    exact .inr ⟨x, t, rfl, e⟩
theorem keyIs_int (i : Int) (t : Tok) : keyIs (.inl i) (.int i t) = true := by simp [keyIs, Value.isInt]
theorem keyIs_str (x : Str) (t : Tok) : keyIs (.inr x) (.str x t) = true := by simp [keyIs, Value.isStrOf]
theorem key_ll (a b : Int) : decide ((Sum.inl a : Key) = Sum.inl b) = (a == b) := by
  by_cases e : a = b
  · subst e; simp
  · have h : ¬ (Sum.inl a : Key) = Sum.inl b := fun q => e (Sum.inl.inj q)
    rw [decide_eq_false h]
    exact (beq_eq_false_iff_ne.mpr e).symm
theorem key_rr (a b : Str) : decide ((Sum.inr a : Key) = Sum.inr b) = decide (a = b) := by
  by_cases e : a = b
  · subst e; simp
  · have h : ¬ (Sum.inr a : Key) = Sum.inr b := fun q => e (Sum.inr.inj q)
    rw [decide_eq_false h, decide_eq_false e]
theorem key_lr (a : Int) (b : Str) : decide ((Sum.inl a : Key) = Sum.inr b) = false := decide_eq_false (fun q => nomatch q)
theorem key_rl (a : Str) (b : Int) : decide ((Sum.inr a : Key) = Sum.inl b) = false := decide_eq_false (fun q => nomatch q)

def mixKind (prog : Program) (w : World) : PySem.KeyKind prog w Key where
  is := keyIs
  hash := keyH w
  inj := fun v a b ha hb => by
    rcases keyIs_shape ha with ⟨i, t, rfl, rfl⟩ | ⟨x, t, rfl, rfl⟩
    · rcases keyIs_shape hb with ⟨j, u, rfl, e⟩ | ⟨y, u, rfl, e⟩
      · injection e with e1 _; rw [e1]
      · exact nomatch e
    · rcases keyIs_shape hb with ⟨j, u, rfl, e⟩ | ⟨y, u, rfl, e⟩
      · exact nomatch e
      · injection e with e1 _; rw [e1]
  byValue := fun k v h => by
    rcases keyIs_shape h with ⟨i, t, rfl, rfl⟩ | ⟨x, t, rfl, rfl⟩ <;> rfl
  pyHash := fun hv h => by
    rcases keyIs_shape hv with ⟨i, t, rfl, rfl⟩ | ⟨x, t, rfl, rfl⟩
    · exact wpAny_pyHash_int h
    · exact wpAny_pyHash_str h
  eqBool := fun hu hv h => by
    rcases keyIs_shape hu with ⟨i, t, rfl, rfl⟩ | ⟨x, t, rfl, rfl⟩
    · rcases keyIs_shape hv with ⟨j, u, rfl, rfl⟩ | ⟨y, u, rfl, rfl⟩
      · rw [key_ll] at h; exact wpAny_eqBool_int h
      · rw [key_lr] at h; exact SeqAt.EqAt.int_str i t y u _ _ _ _ h
    · rcases keyIs_shape hv with ⟨j, u, rfl, rfl⟩ | ⟨y, u, rfl, rfl⟩
      · rw [key_rl] at h; exact SeqAt.EqAt.str_int x t j u _ _ _ _ h
      · rw [key_rr] at h; exact wpAny_eqBool_str h
  «strs» := fun k x t v h => by
    rcases keyIs_shape h with ⟨i, u, rfl, e⟩ | ⟨y, u, rfl, e⟩
    · exact nomatch e
    · injection e with e1 _
      subst e1
      cases v <;> rfl

theorem mixKind_int (prog : Program) (w : World) (i : Int) (t : Tok) : (mixKind prog w).is (.inl i) (.int i t) = true := keyIs_int i t
theorem mixKind_str (prog : Program) (w : World) (x : Str) (t : Tok) : (mixKind prog w).is (.inr x) (.str x t) = true := keyIs_str x t
end L2

namespace L2
open PySem PySem.Spec PyProof.Rows


inductive V where
  | non | bl (b : Bool) | int (i : Int) | str (x : Str) | byt (b : Array UInt8) | flt (b : UInt64) | ref (a : Addr) | ty (n : String)
  deriving DecidableEq

def RelV : V → Value → Prop
  | .non, u => u = Value.none
  | .bl b, u => u = Value.bool b
  | .int i, u => ∃ t, u = Value.int i t
  | .str x, u => ∃ t, u = Value.str x t
  | .byt b, u => ∃ t, u = Value.bytes b t
  | .flt b, u => ∃ t, u = Value.float b t
  | .ref a, u => u = Value.ref a
  | .ty n, u => u = Value.type n

abbrev Vals : List V → List Value → Prop := Paired RelV
theorem Vals.length {xs : List V} {us : List Value} (r : Vals xs us) : xs.length = us.length := Paired.length r
theorem Vals.get : ∀ {xs : List V} {us : List Value} {i : Nat} {x : V}, Vals xs us → xs[i]? = some x → ∃ u, us[i]? = some u ∧ RelV x u
  | _, _, _, _, .nil, e => by simp at e
  | _, _, 0, _, .cons r _, e => by simp at e; subst e; exact ⟨_, rfl, r⟩
  | _, _, i + 1, x, .cons _ t, e => by
    obtain ⟨u, h1, h2⟩ := Vals.get (i := i) (x := x) t (by simpa using e)
    exact ⟨u, by simpa using h1, h2⟩
theorem Vals.set {x : V} {u : Value} (r : RelV x u) : ∀ {xs : List V} {us : List Value} (i : Nat), Vals xs us → Vals (xs.set i x) (us.set i u)
  | _, _, _, .nil => .nil
  | _, _, 0, .cons _ t => .cons r t
  | _, _, i + 1, .cons q t => .cons q (Vals.set r i t)
theorem Vals.append : ∀ {xs ys : List V} {us ws : List Value}, Vals xs us → Vals ys ws → Vals (xs ++ ys) (us ++ ws)
  | _, _, _, _, .nil, s => s
  | _, _, _, _, .cons r t, s => .cons r (Vals.append t s)
theorem Vals.take : ∀ {xs : List V} {us : List Value} (n : Nat), Vals xs us → Vals (xs.take n) (us.take n)
  | _, _, 0, _ => .nil
  | _, _, _ + 1, .nil => .nil
  | _, _, n + 1, .cons r t => .cons r (Vals.take n t)
theorem Vals.drop : ∀ {xs : List V} {us : List Value} (n : Nat), Vals xs us → Vals (xs.drop n) (us.drop n)
  | _, _, 0, r => r
  | _, _, _ + 1, .nil => .nil
  | _, _, n + 1, .cons _ t => Vals.drop n t
def RelO : Option V → Option Value → Prop
  | some v, some u => RelV v u
  | none, none => True
  | _, _ => False
def KV {κ : Type} : List (κ × V) → List (κ × Value) → Prop := Paired fun (p : κ × V) (q : κ × Value) => p.1 = q.1 ∧ RelV p.2 q.2


def kV : Key → V
  | .inl i => .int i
  | .inr x => .str x


inductive HO where
  
  | lst (xs : List V)
  
  | tup (xs : List V)
  
  | dK (kvs : List (Key × V)) | dT (kvs : List (List Key × V))
  
  | set (S : Int → Bool) (n : Nat)
  
  | ins (C dx : Addr) (fs : List (Str × V))
  
  | own (x : Addr)
  
  | xd (fs : List (Str × V))
  
  | met (f x : Addr)
  
  | rng (lo hi : Int)
  
  | frz (o : Obj) (u : HO)
  
  | tbl (ps : Array Value)
  
  | ext (φ : Heap → Prop)

abbrev Hp := Addr → Option HO
def upd (H : Hp) (a : Addr) (o : HO) : Hp := fun b => if b = a then some o else H b
theorem upd_same {H : Hp} {a : Addr} {o : HO} : upd H a o a = some o := by unfold upd; rw [if_pos rfl]
theorem upd_ne {H : Hp} {a b : Addr} {o : HO} (h : b ≠ a) : upd H a o b = H b := by unfold upd; rw [if_neg h]
theorem upd_upd {H : Hp} {a : Addr} {o u : HO} : upd (upd H a o) a u = upd H a u := by
  funext b; unfold upd; split <;> rfl

theorem ne_of {H : Hp} {a b : Addr} {o u : HO} (h : H a = some o) (h' : H b = some u) (d : o ≠ u) : a ≠ b := by
  intro e; subst e; rw [h] at h'; exact d (Option.some.inj h')
theorem ne_of_none {H : Hp} {a b : Addr} {o : HO} (h : H a = some o) (h' : H b = none) : a ≠ b := by
  intro e; subst e; rw [h] at h'; cases h'


def TupN (h : Heap) (a : Addr) (items : Array Value) : Prop := ∃ o, h.get? a = some o ∧ o.cls = .type "tuple" ∧ (∃ n, o.data = .seq items n) ∧ o.dict = none
theorem TupN.is {h : Heap} {a : Addr} {items : Array Value} (x : TupN h a items) : IsTup h a items := let ⟨o, h1, h2, h3, _⟩ := x; ⟨o, h1, h2, h3⟩
theorem TupN.new (h : Heap) (items : Array Value) : TupN (h.push { cls := .type "tuple", data := .seq items }) h.objs.size items := ⟨_, Heap.get?_push_size _ rfl, rfl, ⟨_, rfl⟩, rfl⟩
section
variable (P : Program) (w : World)
def ObjOk (H : Hp) (h : Heap) (a : Addr) : HO → Prop
  | .lst xs => xs.length ≤ sizeLine ∧ ∃ (its : List Value) (n : Nat), Vals xs its ∧ h.get? a = some { cls := .type "list", data := .seq its.toArray n }
  | .tup xs => xs.length ≤ sizeLine ∧ ∃ its : List Value, Vals xs its ∧ TupN h a its.toArray
  | .dK kvs => kvs.length ≤ sizeLine ∧ (a == sysModules) = false ∧ ∃ vs, KV kvs vs ∧ h.DictOf (mixKind P w) a vs
  | .dT kvs => kvs.length ≤ sizeLine ∧ (a == sysModules) = false ∧ ∃ xs : List (List Key × Addr × Value),
      Paired (fun (p : List Key × V) (q : List Key × Addr × Value) => p.1 = q.1 ∧ H q.2.1 = some (.tup (p.1.map kV)) ∧ RelV p.2 q.2.2) kvs xs ∧
      ∃ o es ep, h.get? a = some o ∧ o.ExactDict ∧ o.data = .dict es ep ∧ es.toList = xs.map (entryOfKey (tupleKind (mixKind P w))) ∧ (xs.map (·.1)).Nodup
  | .set S n => h.SetOf (intKind P w) a S n
  | .ins C dx fs => H dx = some (.own a) ∧ fs.length ≤ 1000 ∧ dx ≠ a ∧ h.get? a = some (PySem.W.instObj C dx) ∧
      ∃ mA, h.Ns1 dx mA ∧ (∀ f, RelO (fs.lookup f) (mA f)) ∧ PySem.Within mA (fs.map (·.1))
  | .own _ => ∃ o, h.get? a = some o
  | .xd fs => ∃ mA, h.Ns1 a mA ∧ ∀ f, RelO (fs.lookup f) (mA f)
  | .rng lo hi => ∃ t u v, h.get? a = some { cls := .type "range", data := .fields #[.int lo t, .int hi u, .int 1 v] }
  | .frz o u => h.get? a = some o ∧ ObjOk H h a u
  | .tbl ps => h.get? a = some { cls := .none, data := .fields ps }
  | .met f x => h.get? a = some (PySem.W.methodObj (.ref f) (.ref x))
  | .ext φ => φ h ∧ (∃ o, h.get? a = some o) ∧ ∀ h1 h2 : Heap, φ h1 → (∀ o, h1.get? a = some o → h2.get? a = some o) → φ h2

def HOk (H : Hp) (h : Heap) : Prop := ∀ a o, H a = some o → ObjOk P w H h a o
end

section
variable {P : Program} {w : World} {H H' : Hp} {h h' : Heap} {a : Addr} {o : HO}
theorem ObjOk.lt (x : ObjOk P w H h a o) : a < h.objs.size := by
  cases o with
  | lst xs => obtain ⟨_, _, _, _, e⟩ := x; exact Heap.lt_size e
  | tup xs => obtain ⟨_, _, _, p⟩ := x; exact p.is.lt
  | dK kvs => obtain ⟨_, _, _, _, o, _, _, e, _⟩ := x; exact Heap.lt_size e
  | dT kvs => obtain ⟨_, _, _, _, o, _, _, e, _⟩ := x; exact Heap.lt_size e
  | set S n => obtain ⟨o, _, _, _, e, _⟩ := x; exact Heap.lt_size e
  | ins C dx fs => obtain ⟨_, _, _, e, _⟩ := x; exact Heap.lt_size e
  | own y => obtain ⟨_, e⟩ := x; exact Heap.lt_size e
  | xd fs => obtain ⟨_, ⟨_, _, _, e, _⟩, _⟩ := x; exact Heap.lt_size e
  | rng lo hi => obtain ⟨_, _, _, e⟩ := x; exact Heap.lt_size e
  | frz ob u => obtain ⟨e, _⟩ := x; exact Heap.lt_size e
  | tbl ps => exact Heap.lt_size (show h.get? a = some _ from x)
  | met f y => exact Heap.lt_size (show h.get? a = some _ from x)
  | ext φ => obtain ⟨_, ⟨_, e⟩, _⟩ := x; exact Heap.lt_size e
theorem Paired.mapP {α β : Type} {F G : α → β → Prop} : ∀ {l₁ : List α} {l₂ : List β}, Paired F l₁ l₂ → (∀ a b, F a b → G a b) → Paired G l₁ l₂
  | _, _, .nil, _ => .nil
  | _, _, .cons r t, f => .cons (f _ _ r) (Paired.mapP t f)
theorem ObjOk.stay (x : ObjOk P w H h a o) (k : ∀ b u, (b = a ∨ H b = some (.own a)) → h.get? b = some u → h'.get? b = some u)
    (ho : ∀ b, H b = some (.own a) → H' b = some (.own a)) (ht : ∀ b xs, H b = some (.tup xs) → H' b = some (.tup xs)) : ObjOk P w H' h' a o := by
  induction o with
  | lst xs => obtain ⟨z, its, n, r, e⟩ := x; exact ⟨z, its, n, r, k _ _ (.inl rfl) e⟩
  | tup xs => obtain ⟨z, its, r, ob, e, c⟩ := x; exact ⟨z, its, r, ob, k _ _ (.inl rfl) e, c⟩
  | dK kvs => obtain ⟨z, y, vs, r, ob, es, ep, e, c⟩ := x; exact ⟨z, y, vs, r, ob, es, ep, k _ _ (.inl rfl) e, c⟩
  | dT kvs =>
    obtain ⟨z, y, xs, r, ob, es, ep, e, c⟩ := x
    exact ⟨z, y, xs, Paired.mapP r fun p q z => ⟨z.1, ht _ _ z.2.1, z.2.2⟩, ob, es, ep, k _ _ (.inl rfl) e, c⟩
  | set S n => obtain ⟨ob, es, ep, t, e, c⟩ := x; exact ⟨ob, es, ep, t, k _ _ (.inl rfl) e, c⟩
  | ins C dx fs =>
    obtain ⟨d, z, ne, e, mA, ⟨od, es, ep, e2, c⟩, r⟩ := x
    exact ⟨ho _ d, z, ne, k _ _ (.inl rfl) e, mA, ⟨od, es, ep, k _ _ (.inr d) e2, c⟩, r⟩
  | own y => obtain ⟨ob, e⟩ := x; exact ⟨ob, k _ _ (.inl rfl) e⟩
  | xd fs => obtain ⟨mA, ⟨od, es, ep, e, c⟩, r⟩ := x; exact ⟨mA, ⟨od, es, ep, k _ _ (.inl rfl) e, c⟩, r⟩
  | rng lo hi => obtain ⟨t, u, v, e⟩ := x; exact ⟨t, u, v, k _ _ (.inl rfl) e⟩
  | frz ob u ih => obtain ⟨e, q⟩ := x; exact ⟨k _ _ (.inl rfl) e, ih q⟩
  | tbl ps =>
    have e : h.get? a = some { cls := .none, data := .fields ps } := x
    show h'.get? a = some { cls := .none, data := .fields ps }
    exact k a _ (.inl rfl) e
  | met f y =>
    have e : h.get? a = some (PySem.W.methodObj (.ref f) (.ref y)) := x
    show h'.get? a = some (PySem.W.methodObj (.ref f) (.ref y))
    exact k a _ (.inl rfl) e
  | ext φ => obtain ⟨p, ⟨o, e⟩, st⟩ := x; exact ⟨st _ _ p fun o q => k _ _ (.inl rfl) q, ⟨o, k _ _ (.inl rfl) e⟩, st⟩
theorem HOk.lt (x : HOk P w H h) (e : H a = some o) : a < h.objs.size := (x a o e).lt
theorem HOk.fresh (x : HOk P w H h) (e : h.objs.size ≤ a) : H a = none := by
  cases q : H a with
  | none => rfl
  | some u => exact absurd (Nat.lt_of_lt_of_le (x.lt q) e) (Nat.lt_irrefl _)

theorem HOk.kept (x : HOk P w H h) (k : ∀ b u, h.get? b = some u → h'.get? b = some u) : HOk P w H h' := fun a o e =>
  (x a o e).stay (fun b u _ q => k b u q) (fun _ q => q) fun _ _ q => q

theorem HOk.laid (x : HOk P w H h) (k : ∀ b u, h.get? b = some u → h'.get? b = some u) (hp : h.objs.size ≤ a) (new : ObjOk P w (upd H a o) h' a o) : HOk P w (upd H a o) h' := fun b u e => by
  have hn := x.fresh hp
  by_cases hb : b = a
  · subst hb; rw [upd_same] at e; cases e; exact new
  · rw [upd_ne hb] at e
    exact (x b u e).stay (fun c v _ q => k c v q) (fun c q => by rw [upd_ne (ne_of_none q hn)]; exact q) fun c xs q => by rw [upd_ne (ne_of_none q hn)]; exact q
end


def Rd (H : Hp) (a : Addr) (u : HO) : Prop := H a = some u ∨ ∃ o, H a = some (.frz o u)
theorem Rd.ok {P : Program} {w : World} {H : Hp} {h : Heap} {a : Addr} {u : HO} (r : Rd H a u) (x : HOk P w H h) : ObjOk P w H h a u := by
  rcases r with r | ⟨o, r⟩
  · exact x a u r
  · obtain ⟨_, q⟩ := x a _ r
    exact q

def Mut : Option HO → Prop
  | some (.lst _) => True
  | some (.dK _) => True
  | some (.dT _) => True
  | some (.set _ _) => True
  | some (.ins _ _ _) => True
  | some (.ext _) => True
  | _ => False
section
variable {P : Program} {w : World} {H : Hp} {h h' : Heap} {x e : Addr} {o' : HO}

theorem HOk.write (ok : HOk P w H h) (mu : Mut (H x)) (he : e = x ∨ H e = some (.own x)) (k : ∀ b u, b ≠ e → h.get? b = some u → h'.get? b = some u) (heo : ∃ u, h'.get? e = some u)
    (new : ObjOk P w (upd H x o') h' x o') : HOk P w (upd H x o') h' := fun b u q => by
  have nown : ∀ c y, H c = some (.own y) → c ≠ x := fun c y r z => by subst z; rw [r] at mu; exact mu
  have ntup : ∀ c xs, H c = some (.tup xs) → c ≠ x := fun c xs r z => by subst z; rw [r] at mu; exact mu
  by_cases hb : b = x
  · subst hb; rw [upd_same] at q; cases q; exact new
  · rw [upd_ne hb] at q
    by_cases hbe : b = e
    · have q' : H b = some (.own x) := by
        rcases he with z | z
        · exact absurd (hbe.trans z) hb
        · rw [hbe]; exact z
      rw [q] at q'; cases q'
      obtain ⟨v, hv⟩ := heo
      exact ⟨v, by rw [hbe]; exact hv⟩
    · refine (ok b u q).stay (fun c v hc r => k c v ?_ r) (fun c r => by rw [upd_ne (nown c b r)]; exact r) fun c xs r => by rw [upd_ne (ntup c xs r)]; exact r
      rcases hc with rfl | hc
      · exact hbe
      · rintro rfl
        rcases he with z | z
        · exact nown c b hc z
        · rw [hc] at z; cases z; exact hb rfl
end


structure Un (fs ex : List Addr) (H H' : Hp) (h h' : Heap) : Prop where
  keep : ∀ b o, h.get? b = some o → H b = none → b ∉ fs → b ∉ ex → h'.get? b = some o
  slot : ∀ b o, h.get? b = some o → H b = none → b ∈ fs → b ∉ ex → ∃ sl, h'.get? b = some { o with slots := sl }
  free : ∀ b o, h.get? b = some o → H b = none → b ∉ ex → H' b = none
  there : ∀ b o, h.get? b = some o → b ∉ ex → ∃ o', h'.get? b = some o'
  tups : ∀ b xs, H b = some (.tup xs) → H' b = some (.tup xs)
  frzs : ∀ b o u, H b = some (.frz o u) → H' b = some (.frz o u)
  tbls : ∀ b ps, H b = some (.tbl ps) → ∃ more, H' b = some (.tbl (ps ++ more))
section
variable {fs fs' ex ex' : List Addr} {H H1 H2 : Hp} {h h1 h2 h' : Heap} {a x e : Addr} {o : HO}
theorem Un.any (u : Un fs ex H H1 h h1) {b : Addr} {ob : Obj} (q : h.get? b = some ob) (n : H b = none) (hx : b ∉ ex) : ∃ sl, h1.get? b = some { ob with slots := sl } := by
  by_cases hb : b ∈ fs
  · exact u.slot b ob q n hb hx
  · exact ⟨ob.slots, u.keep b ob q n hb hx⟩
theorem Un.kept (k : ∀ b u, h.get? b = some u → h'.get? b = some u) : Un fs ex H H h h' :=
  ⟨fun b ob q _ _ _ => k b ob q, fun b ob q _ _ _ => ⟨ob.slots, k b ob q⟩, fun _ _ _ n _ => n, fun b ob q _ => ⟨ob, k b ob q⟩, fun _ _ q => q, fun _ _ _ q => q, fun _ ps q => ⟨#[], by rw [q]; simp⟩⟩
theorem Un.refl : Un fs ex H H h h := Un.kept fun _ _ q => q
theorem Un.laid (k : ∀ b u, h.get? b = some u → h'.get? b = some u) (hp : h.objs.size ≤ a) (hn : H a = none) : Un fs ex H (upd H a o) h h' where
  keep := fun b u q _ _ _ => k b u q
  slot := fun b u q _ _ _ => ⟨u.slots, k b u q⟩
  free := fun b u q n _ => by rw [upd_ne (Nat.ne_of_lt (Nat.lt_of_lt_of_le (Heap.lt_size q) hp))]; exact n
  there := fun b u q _ => ⟨u, k b u q⟩
  tups := fun b xs q => by rw [upd_ne (ne_of_none q hn)]; exact q
  frzs := fun b u xs q => by rw [upd_ne (ne_of_none q hn)]; exact q
  tbls := fun b ps q => ⟨#[], by rw [upd_ne (ne_of_none q hn), q]; simp⟩
theorem Un.write (mu : Mut (H x)) (he : e = x ∨ H e = some (.own x)) (k : ∀ b u, b ≠ e → h.get? b = some u → h'.get? b = some u) (heo : ∃ u, h'.get? e = some u) : Un fs ex H (upd H x o) h h' := by
  have hx : ∀ b, H b = none → b ≠ x := fun b n z => by subst z; rw [n] at mu; exact mu
  have hb : ∀ b, H b = none → b ≠ e := fun b n z => by
    subst z
    rcases he with r | r
    · exact hx b n r
    · rw [n] at r; cases r
  have hm : ∀ b u, H b = some u → ¬ Mut (some u) → b ≠ x := fun b u q nm z => by subst z; rw [q] at mu; exact nm mu
  refine ⟨fun b u q n _ _ => k b u (hb b n) q, fun b u q n _ _ => ⟨u.slots, k b u (hb b n) q⟩, fun b u q n _ => by rw [upd_ne (hx b n)]; exact n, fun b u q _ => ?_,
    fun b xs q => by rw [upd_ne (hm b _ q fun z => z)]; exact q, fun b u xs q => by rw [upd_ne (hm b _ q fun z => z)]; exact q, fun b ps q => ⟨#[], by rw [upd_ne (hm b _ q fun z => z), q]; simp⟩⟩
  by_cases hbe : b = e
  · subst hbe; exact heo
  · exact ⟨u, k b u hbe q⟩
end


def trk (h : Heap) (H : Hp) : List Addr := (List.range h.objs.size).filter fun a => (H a).isSome
def hidT (h : Heap) (H : Hp) : Heap := PySem.W.hideAll h (trk h H)
theorem hidT_size (h : Heap) (H : Hp) : (hidT h H).objs.size = h.objs.size := PySem.W.hideAll_size _ _
theorem hidT_get {h : Heap} {H : Hp} {b : Addr} {o : Obj} (e : h.get? b = some o) (n : H b = none) : (hidT h H).get? b = some o :=
  PySem.W.hideAll_get _ e fun hm => by
    have q : (H b).isSome = true := (List.mem_filter.mp hm).2
    rw [n] at q; simp at q
theorem of_hidT {h : Heap} {H : Hp} {b : Addr} {o : Obj} (e : (hidT h H).get? b = some o) : h.get? b = some o ∧ H b = none := by
  have e' : h.get? b = some o := PySem.W.of_hideAll (trk h H) e
  refine ⟨e', ?_⟩
  cases q : H b with
  | none => rfl
  | some x =>
    have hm : b ∈ trk h H := List.mem_filter.mpr ⟨List.mem_range.mpr (Heap.lt_size e'), by simp [q]⟩
    have z : (hidT h H).get? b = none := PySem.W.hideAll_none (trk h H) hm
    rw [z] at e; cases e


def allNews (g h : Heap) (L : Addr) : List (Addr × Obj) := (List.range h.objs.size).filterMap fun a => if a = L ∨ (g.get? a).isSome = true then none else (h.get? a).map fun o => (a, o)
def rest (g h : Heap) (L d : Addr) : List (Addr × Obj) := (allNews g h L).filter fun p => decide (p.1 ≠ d)
end L2

namespace L2
open PySem PySem.Spec PyProof.Rows


structure Mod (K : PySem.W.Frag) (mg : Str → Option Value) (base : Heap) : Prop where
  kin : K.In base
  glob : base.Ns mainGlobals mg
  blt : ∃ mb, base.Ns builtinsNs mb ∧ ∀ x : Str, x ≠ "__name__" → mb x = bootBuiltins x
  nolimit : base.NoLimit


structure Cx where
  prog : Program
  w : World
  K : PySem.W.Frag
  mg : Str → Option Value
  base : Heap
  A : Around
  N : List Str
  s_0 : Shared
  H_0 : Hp
  env : Env
  outer : List Env
  stack : List Env
  ex : List Addr
  fn : Str → Bool
  calm : Bool
  pn : List (Addr × Obj)
  xe : Value → Shared → Prop

def frs (l : List Env) : List Addr := l.filterMap (·.frame)
abbrev Cx.fs (X : Cx) : List Addr := frs X.outer

def Vis (sc : Scope) (x : Str) : Prop := sc.names.lookup x = some .local ∨ sc.names.lookup x = some .cell ∨ sc.names.lookup x = some .free
def Loc (sc : Scope) (x : Str) : Prop := sc.names.lookup x = some .local ∨ sc.names.lookup x = some .cell
def Look (env : Env) (h : Heap) (m : Str → Option Value) (x : Str) (u : Value) : Prop :=
  (env.kindOf x = some .local ∧ m x = some u) ∨ ((env.kindOf x = some .cell ∨ env.kindOf x = some .free) ∧ ∃ c, env.cells.lookup x = some c ∧ h.IsCell c (some u))

structure Cx.Ok (X : Cx) : Prop where
  mod : Mod X.K X.mg X.base
  kind : X.env.scope.kind = .function
  glob : X.env.globals = mainGlobals
  blt : X.env.builtins = builtinsNs
  above : X.s_0.heap.objs.size ≤ X.env.locals
  inj : ∀ x y c, X.env.cells.lookup x = some c → X.env.cells.lookup y = some c → x = y
  has : ∀ x, (X.env.kindOf x = some .cell ∨ X.env.kindOf x = some .free) → ∃ c, X.env.cells.lookup x = some c
  cab : ∀ x c, X.fn x = true → X.env.cells.lookup x = some c → X.s_0.heap.objs.size ≤ c
  hd : X.calm = true → X.A.handled = none
  frames : X.A.frames = some X.stack
  stk : X.stack = X.outer ∨ (X.stack = X.env :: X.outer ∧ X.env.frame = some X.env.locals)
  exf : ∀ b ∈ X.ex, b ≠ X.env.locals ∧ ∀ x c, X.env.cells.lookup x = some c → c ≠ b
  bs : ∀ b o, X.base.get? b = some o → X.s_0.heap.get? b = some o ∧ X.H_0 b = none
  bsz : X.base.objs.size ≤ X.s_0.heap.objs.size
  noex : ∀ b o, X.base.get? b = some o → b ∉ X.ex
  exfs : ∀ b ∈ X.ex, b ∉ X.fs
  funs : X.s_0.heap.FunFrames X.base X.outer
  frf : ∀ b ∈ X.fs, X.H_0 b = none

structure Inv (X : Cx) (pins : List (Addr × Obj)) (σ : List (Option V)) (H : Hp) (s : Shared) : Prop where
  ok : X.Ok
  os : s.os = X.s_0.os
  bare : AllBare s.gens
  base : Un X.fs X.ex X.H_0 H X.s_0.heap s.heap
  loc : ∃ m, s.heap.Ns X.env.locals m ∧ ∀ (i : Nat) (x : Str) (v : V), X.N[i]? = some x → σ[i]? = some (some v) → Vis X.env.scope x → ∃ u, RelV v u ∧ Look X.env s.heap m x u
  cell : ∀ x c, X.env.cells.lookup x = some c → ∃ v, s.heap.IsCell c v
  free : H X.env.locals = none
  freeC : ∀ x c, X.env.cells.lookup x = some c → H c = none
  pin : ∀ p ∈ X.pn ++ pins, s.heap.get? p.1 = some p.2 ∧ H p.1 = none ∧ p.1 ≠ X.env.locals ∧ p.1 ∉ X.fs ∧ ∀ v, p.2.data ≠ .cell v
  hok : HOk X.prog X.w H s.heap
  len : σ.length = X.N.length

section
variable {X : Cx} {pins : List (Addr × Obj)} {σ : List (Option V)} {H H' : Hp} {s : Shared} {h' : Heap}

theorem Cx.Ok.nofr (ok : X.Ok) {b : Addr} {o : Obj} (e : X.base.get? b = some o) : b ∉ X.fs := fun hb => by
  have := (ok.funs.mem hb).1
  rw [e] at this; cases this
theorem Inv.bs (I : Inv X pins σ H s) : ∀ b o, X.base.get? b = some o → s.heap.get? b = some o ∧ H b = none := fun b o e =>
  ⟨I.base.keep b o (I.ok.bs b o e).1 (I.ok.bs b o e).2 (I.ok.nofr e) (I.ok.noex b o e), I.base.free b o (I.ok.bs b o e).1 (I.ok.bs b o e).2 (I.ok.noex b o e)⟩
theorem Inv.bk (I : Inv X pins σ H s) : ∀ b o, X.base.get? b = some o → s.heap.get? b = some o := fun b o e => (I.bs b o e).1
theorem Inv.mod (I : Inv X pins σ H s) : Mod X.K X.mg X.base := I.ok.mod
theorem Inv.kIn (I : Inv X pins σ H s) : X.K.In s.heap := I.ok.mod.kin.keeps I.bk
theorem Inv.lt (I : Inv X pins σ H s) : X.env.locals < s.heap.objs.size := let ⟨_, hn, _⟩ := I.loc; hn.lt
theorem Inv.sz (I : Inv X pins σ H s) : X.s_0.heap.objs.size ≤ s.heap.objs.size := Nat.le_trans I.ok.above (Nat.le_of_lt I.lt)
theorem Inv.nofs (I : Inv X pins σ H s) {a : Addr} (h : s.heap.objs.size ≤ a) : a ∉ X.fs := fun hb => by
  obtain ⟨_, o, ho, _⟩ := I.ok.funs.mem hb
  exact absurd (Nat.lt_of_lt_of_le (Heap.lt_size ho) (Nat.le_trans I.sz h)) (Nat.lt_irrefl _)
theorem Inv.cne (I : Inv X pins σ H s) : ∀ x c, X.env.cells.lookup x = some c → c ≠ X.env.locals := fun x c e z => by
  obtain ⟨v, o, ho, hd⟩ := I.cell x c e
  obtain ⟨m, ⟨o', es, ep, ho', hd', _⟩, _⟩ := I.loc
  rw [z, ho'] at ho; cases ho; rw [hd'] at hd; cases hd
theorem Inv.funs (I : Inv X pins σ H s) : s.heap.FunFrames X.base X.outer := by
  have all : ∀ (l : List Env), (∀ b ∈ frs l, b ∈ X.fs) → X.s_0.heap.FunFrames X.base l → s.heap.FunFrames X.base l := by
    intro l
    induction l with
    | nil => intro _ _; trivial
    | cons env r ih =>
      intro hs hl
      obtain ⟨hk, ⟨L, o, hf, hn, ho, hd⟩, hr⟩ := hl
      have hL : L ∈ X.fs := hs L (by unfold frs; rw [List.filterMap_cons, hf]; exact List.mem_cons_self)
      obtain ⟨sl, e⟩ := I.base.slot L o ho (I.ok.frf L hL) hL fun z => I.ok.exfs L z hL
      exact ⟨hk, ⟨L, _, hf, hn, e, hd⟩, ih (fun b hb => hs b (by unfold frs; rw [List.filterMap_cons, hf]; exact List.mem_cons_of_mem _ hb)) hr⟩
  exact all X.outer (fun _ hb => hb) I.ok.funs


theorem Inv.stack (I : Inv X pins σ H s) : s.heap.FunFrames X.base X.stack := by
  rcases I.ok.stk with e | ⟨e, hf⟩
  · rw [e]; exact I.funs
  · rw [e]
    obtain ⟨m, hn, _⟩ := I.loc
    refine .cons (by rw [I.ok.kind]; decide) hf hn ?_ I.funs
    exact Heap.get?_none_of_le (Nat.le_trans I.ok.bsz I.ok.above)
theorem Inv.stkSub (I : Inv X pins σ H s) : ∀ b ∈ frs X.stack, b ∈ X.env.locals :: X.fs := fun b hb => by
  rcases I.ok.stk with e | ⟨e, hf⟩
  · rw [e] at hb; exact List.mem_cons_of_mem _ hb
  · rw [e] at hb
    unfold frs at hb
    rw [List.filterMap_cons, hf] at hb
    exact hb
theorem Inv.stkFree (I : Inv X pins σ H s) : ∀ b ∈ frs X.stack, H b = none := fun b hb => by
  rcases List.mem_cons.mp (I.stkSub b hb) with e | hb
  · rw [e]; exact I.free
  · obtain ⟨_, o, ho, _⟩ := I.ok.funs.mem hb
    exact I.base.free b o ho (I.ok.frf b hb) fun z => I.ok.exfs b z hb


theorem Inv.step {g' : Array GenState} {t' : Nat} {d' : Drawn} {ch : List Addr} (I : Inv X pins σ H s)
    (hch : ∀ b ∈ ch, (b ∈ X.ex ∨ X.s_0.heap.objs.size ≤ b) ∧ b ≠ X.env.locals ∧ (∀ x c, X.env.cells.lookup x = some c → c ≠ b) ∧ ∀ p ∈ X.pn ++ pins, p.1 ≠ b)
    (keep : ∀ b o, b ≠ X.env.locals → b ∉ X.fs → b ∉ ch → s.heap.get? b = some o → H b = none → h'.get? b = some o)
    (slot : ∀ b o, b ≠ X.env.locals → b ∈ X.fs → b ∉ ch → s.heap.get? b = some o → H b = none → ∃ sl, h'.get? b = some { o with slots := sl }) (free : ∀ b o, b ∉ ch → s.heap.get? b = some o → H b = none → H' b = none)
    (there : ∀ b o, b ∉ ch → s.heap.get? b = some o → ∃ o', h'.get? b = some o')
    (tups : ∀ b xs, H b = some (.tup xs) → H' b = some (.tup xs)) (frzs : ∀ b o u, H b = some (.frz o u) → H' b = some (.frz o u)) (tbls : ∀ b ps, H b = some (.tbl ps) → ∃ more, H' b = some (.tbl (ps ++ more)))
    (ns : ∀ m, s.heap.Ns X.env.locals m → h'.Ns X.env.locals m) (hok : HOk X.prog X.w H' h') (hg : AllBare g') :
    Inv X pins σ H' { s with heap := h', gens := g', drawn := d', toks := t' } := by
  have neL : ∀ b o, X.s_0.heap.get? b = some o → b ≠ X.env.locals := fun b o e => Nat.ne_of_lt (Nat.lt_of_lt_of_le (Heap.lt_size e) I.ok.above)
  have neC : ∀ b o, X.s_0.heap.get? b = some o → b ∉ X.ex → b ∉ ch := fun b o e hx hb => by
    rcases (hch b hb).1 with z | z
    · exact hx z
    · exact absurd (Nat.lt_of_lt_of_le (Heap.lt_size e) z) (Nat.lt_irrefl _)
  have cellK : ∀ x c, X.env.cells.lookup x = some c → ∀ v, s.heap.IsCell c v → h'.IsCell c v := fun x c e v ⟨o, ho, hd⟩ => by
    have nch : c ∉ ch := fun z => (hch c z).2.2.1 x c e rfl
    by_cases hc : c ∈ X.fs
    · obtain ⟨sl, q⟩ := slot c o (I.cne x c e) hc nch ho (I.freeC x c e)
      exact ⟨_, q, hd⟩
    · exact ⟨o, keep c o (I.cne x c e) hc nch ho (I.freeC x c e), hd⟩
  refine ⟨I.ok, I.os, hg, ⟨fun b o e n hb hx => ?_, fun b o e n hb hx => ?_, fun b o e n hx => ?_, fun b o e hx => ?_, fun b xs e => tups b xs (I.base.tups b xs e), fun b o xs e => frzs b o xs (I.base.frzs b o xs e), fun b ps e => ?_⟩, ?_, fun x c e => ?_, ?_, fun x c e => ?_, fun p hp => ?_, hok, I.len⟩
  · exact keep b o (neL b o e) hb (neC b o e hx) (I.base.keep b o e n hb hx) (I.base.free b o e n hx)
  · obtain ⟨sl, e1⟩ := I.base.slot b o e n hb hx
    obtain ⟨sl', e2⟩ := slot b _ (neL b o e) hb (neC b o e hx) e1 (I.base.free b o e n hx)
    exact ⟨sl', e2⟩
  · obtain ⟨o', e1⟩ := I.base.there b o e hx
    exact free b o' (neC b o e hx) e1 (I.base.free b o e n hx)
  · obtain ⟨o', e1⟩ := I.base.there b o e hx
    exact there b o' (neC b o e hx) e1
  · obtain ⟨m1, e1⟩ := I.base.tbls b ps e
    obtain ⟨m2, e2⟩ := tbls b _ e1
    exact ⟨m1 ++ m2, by rw [e2, Array.append_assoc]⟩
  · obtain ⟨m, hn, hl⟩ := I.loc
    refine ⟨m, ns m hn, fun i x v e1 e2 e3 => ?_⟩
    obtain ⟨u, r, l⟩ := hl i x v e1 e2 e3
    refine ⟨u, r, ?_⟩
    rcases l with l | ⟨k, c, e, z⟩
    · exact .inl l
    · exact .inr ⟨k, c, e, cellK x c e _ z⟩
  · obtain ⟨v, z⟩ := I.cell x c e
    exact ⟨v, cellK x c e v z⟩
  · obtain ⟨m, ⟨o, _, _, ho, _⟩, _⟩ := I.loc
    exact free _ o (fun z => (hch _ z).2.1 rfl) ho I.free
  · obtain ⟨v, o, ho, hd⟩ := I.cell x c e
    exact free c o (fun z => (hch c z).2.2.1 x c e rfl) ho (I.freeC x c e)
  · obtain ⟨e, n, ne, nf, d⟩ := I.pin p hp
    have nch : p.1 ∉ ch := fun z => (hch p.1 z).2.2.2 p hp rfl
    exact ⟨keep p.1 p.2 ne nf nch e n, free p.1 p.2 nch e n, ne, nf, d⟩

theorem Inv.un {t' : Nat} (I : Inv X pins σ H s) (u : Un X.fs [] H H' s.heap h') (hok : HOk X.prog X.w H' h') : Inv X pins σ H' { s with heap := h', toks := t' } := by
  obtain ⟨m, ⟨o, es, ep, ho, r⟩, _⟩ := id I.loc
  obtain ⟨sl, hL⟩ := u.any ho I.free (by simp)
  exact I.step (g' := s.gens) (d' := s.drawn) (ch := []) (fun _ z => nomatch z) (fun b o _ hb _ e n => u.keep b o e n hb (by simp)) (fun b o _ hb _ e n => u.slot b o e n hb (by simp)) (fun b o _ e n => u.free b o e n (by simp)) (fun b o _ e => u.there b o e (by simp)) u.tups u.frzs u.tbls (fun m' hm => by
    obtain ⟨o', es', ep', ho', r'⟩ := hm
    rw [ho] at ho'; cases ho'
    exact ⟨_, es', ep', hL, r'⟩) hok I.bare

theorem Inv.call {g' : Array GenState} {t' : Nat} {d' : Drawn} {ch : List Addr} (I : Inv X pins σ H s) (u : Un (frs X.stack) ch H H' s.heap h') (hok : HOk X.prog X.w H' h') (hg : AllBare g')
    (hch : ∀ b ∈ ch, (b ∈ X.ex ∨ X.s_0.heap.objs.size ≤ b) ∧ b ≠ X.env.locals ∧ (∀ x c, X.env.cells.lookup x = some c → c ≠ b) ∧ ∀ p ∈ X.pn ++ pins, p.1 ≠ b) :
    Inv X pins σ H' { s with heap := h', gens := g', drawn := d', toks := t' } := by
  obtain ⟨m, ⟨o, es, ep, ho, r⟩, _⟩ := id I.loc
  obtain ⟨sl, hL⟩ := u.any ho I.free fun z => (hch _ z).2.1 rfl
  exact I.step (ch := ch) hch (fun b o hL hb hc e n => u.keep b o e n (fun z => (List.mem_cons.mp (I.stkSub b z)).elim hL hb) hc) (fun b o _ _ hc e n => u.any e n hc) (fun b o hc e n => u.free b o e n hc) (fun b o hc e => u.there b o e hc) u.tups u.frzs u.tbls (fun m' hm => by
    obtain ⟨o', es', ep', ho', r'⟩ := hm
    rw [ho] at ho'; cases ho'
    exact ⟨_, es', ep', hL, r'⟩) hok hg

theorem Inv.turned {t' : Nat} {it : Addr} (I : Inv X pins σ H s) (k : ∀ b o, b ≠ it → s.heap.get? b = some o → h'.get? b = some o) (hn : H it = none) (hL : it ≠ X.env.locals)
    (h1 : it ∈ X.ex ∨ X.s_0.heap.objs.size ≤ it) (h2 : ∀ x c, X.env.cells.lookup x = some c → c ≠ it) (h3 : ∀ p ∈ X.pn ++ pins, p.1 ≠ it) : Inv X pins σ H { s with heap := h', toks := t' } := by
  have nit : ∀ b u, H b = some u → b ≠ it := fun b u e z => by rw [z, hn] at e; cases e
  refine I.step (g' := s.gens) (d' := s.drawn) (ch := [it]) (fun b hb => ?_) (fun b o _ _ hc e _ => k b o (fun z => hc (by simp [z])) e) (fun b o _ _ hc e _ => ⟨o.slots, k b o (fun z => hc (by simp [z])) e⟩) (fun _ _ _ _ n => n)
    (fun b o hc e => ⟨o, k b o (fun z => hc (by simp [z])) e⟩) (fun _ _ e => e) (fun _ _ _ e => e) (fun b ps e => ⟨#[], by rw [e]; simp⟩) (fun m hm => ?_) (fun b u e => ?_) I.bare
  · have e : b = it := by simpa using hb
    subst e
    exact ⟨h1, hL, h2, h3⟩
  · obtain ⟨o, es, ep, ho, r⟩ := hm
    exact ⟨o, es, ep, k _ o (Ne.symm hL) ho, r⟩
  · refine (I.hok b u e).stay (fun c v hc q => k c v ?_ q) (fun _ q => q) fun _ _ q => q
    rcases hc with z | z
    · rw [z]; exact nit b u e
    · exact nit c _ z
theorem Inv.tok (I : Inv X pins σ H s) (t : Nat) : Inv X pins σ H { s with toks := t } := I.un (h' := s.heap) (t' := t) Un.refl I.hok

theorem Inv.kept {t' : Nat} (I : Inv X pins σ H s) (k : ∀ b u, s.heap.get? b = some u → h'.get? b = some u) : Inv X pins σ H { s with heap := h', toks := t' } := I.un (Un.kept k) (I.hok.kept k)

theorem Inv.laid {a : Addr} {o : HO} {t' : Nat} (I : Inv X pins σ H s) (k : ∀ b u, s.heap.get? b = some u → h'.get? b = some u) (hp : s.heap.objs.size ≤ a) (new : ObjOk X.prog X.w (upd H a o) h' a o) :
    Inv X pins σ (upd H a o) { s with heap := h', toks := t' } := I.un (Un.laid k hp (I.hok.fresh hp)) (I.hok.laid k hp new)

theorem Inv.write {x e : Addr} {o : HO} {t' : Nat} (I : Inv X pins σ H s) (mu : Mut (H x)) (he : e = x ∨ H e = some (.own x)) (k : ∀ b u, b ≠ e → s.heap.get? b = some u → h'.get? b = some u) (heo : ∃ u, h'.get? e = some u)
    (new : ObjOk X.prog X.w (upd H x o) h' x o) : Inv X pins σ (upd H x o) { s with heap := h', toks := t' } := I.un (Un.write mu he k heo) (I.hok.write mu he k heo new)

theorem Inv.weak {σ' : List (Option V)} (I : Inv X pins σ H s) (hl : σ'.length = σ.length) (w : ∀ (i : Nat) v, σ'[i]? = some (some v) → σ[i]? = some (some v)) : Inv X pins σ' H s :=
  ⟨I.ok, I.os, I.bare, I.base, let ⟨m, hn, hl'⟩ := I.loc; ⟨m, hn, fun i x v e1 e2 e3 => hl' i x v e1 (w i v e2) e3⟩, I.cell, I.free, I.freeC, I.pin, I.hok, hl.trans I.len⟩
theorem Inv.pins_of {pins' : List (Addr × Obj)} (I : Inv X pins σ H s) (h : ∀ p ∈ pins', s.heap.get? p.1 = some p.2 ∧ H p.1 = none ∧ p.1 ≠ X.env.locals ∧ p.1 ∉ X.fs ∧ ∀ v, p.2.data ≠ .cell v) : Inv X pins' σ H s :=
  ⟨I.ok, I.os, I.bare, I.base, I.loc, I.cell, I.free, I.freeC, fun p hp => (List.mem_append.mp hp).elim (fun z => I.pin p (List.mem_append_left _ z)) (h p), I.hok, I.len⟩

theorem nodup_ix {N : List Str} (hN : N.Nodup) {i j : Nat} {x : Str} (a : N[i]? = some x) (b : N[j]? = some x) : i = j := by
  obtain ⟨h1, e1⟩ := List.getElem?_eq_some_iff.mp a
  obtain ⟨h2, e2⟩ := List.getElem?_eq_some_iff.mp b
  exact (List.getElem_inj hN).mp (e1.trans e2.symm)


theorem store_ok2 {M : Model} {A : Around} {E : Value → Shared → Prop} {i : Nat} {x : Str} {v : V} {u : Value} {Q : Unit → Shared → Prop} (I : Inv X pins σ H s) (hN : X.N.Nodup) (hi : X.N[i]? = some x) (hx : Loc X.env.scope x) (r : RelV v u)
    (h : ∀ s', Inv X pins (σ.set i (some v)) H s' → (∃ a, Heap.SameBut a s.heap s'.heap ∧ (a = X.env.locals ∨ X.env.cells.lookup x = some a)) → Q () s') (hf : X.fn x = true ∨ X.env.scope.names.lookup x = some .local := by first | exact .inl rfl | exact .inr rfl | assumption) : wpAny M A (storeName X.env x u) Q E s := by
  obtain ⟨m, hn, hl⟩ := id I.loc
  have hcls : (X.env.scope.kind == .class || (X.env.scope.kind == .module && X.env.locals != X.env.globals)) = false := by rw [I.ok.kind]; rfl
  have hiσ : i < σ.length := by rw [I.len]; exact (List.getElem?_eq_some_iff.mp hi).1
  have cne := I.cne
  have tracked : ∀ {a : Addr} {h' : Heap}, (∃ o, s.heap.get? a = some o ∧ H a = none) → Heap.SameBut a s.heap h' → HOk X.prog X.w H h' := fun {a h'} ha hs b ob e => by
    obtain ⟨_, _, hfree⟩ := ha
    refine (I.hok b ob e).stay (fun c w' hc q => (hs.2 c ?_).trans q) (fun _ q => q) fun _ _ q => q
    rintro rfl
    rcases hc with rfl | hc
    · rw [hfree] at e; cases e
    · rw [hfree] at hc; cases hc
  rcases hx with hk | hk
  · refine wpAny_storeName_local hk hn (fun h' hn' hs => ?_) hcls
    obtain ⟨oL, _, _, hoL, _⟩ := id hn
    refine h _ ⟨I.ok, I.os, I.bare, ⟨fun b o e n hb hx => ?_, fun b o e n hb hx => ?_, I.base.free, fun b o e hx => ?_, I.base.tups, I.base.frzs, I.base.tbls⟩, ⟨_, hn', fun j y v' e1 e2 e3 => ?_⟩, fun y c e => ?_, I.free, I.freeC, fun p hp => ?_, tracked ⟨oL, hoL, I.free⟩ hs, by simpa using I.len⟩ ⟨_, hs, .inl rfl⟩
    · exact (hs.2 b (Nat.ne_of_lt (Nat.lt_of_lt_of_le (Heap.lt_size e) I.ok.above))).trans (I.base.keep b o e n hb hx)
    · obtain ⟨sl, e1⟩ := I.base.slot b o e n hb hx
      exact ⟨sl, (hs.2 b (Nat.ne_of_lt (Nat.lt_of_lt_of_le (Heap.lt_size e) I.ok.above))).trans e1⟩
    · obtain ⟨o', e1⟩ := I.base.there b o e hx
      exact ⟨o', (hs.2 b (Nat.ne_of_lt (Nat.lt_of_lt_of_le (Heap.lt_size e) I.ok.above))).trans e1⟩
    · by_cases hj : j = i
      · subst hj
        rw [hi] at e1; cases e1
        rw [List.getElem?_set_self hiσ] at e2
        cases e2
        exact ⟨u, r, .inl ⟨hk, by simp⟩⟩
      · rw [List.getElem?_set_ne (Ne.symm hj)] at e2
        obtain ⟨u', r', q⟩ := hl j y v' e1 e2 e3
        refine ⟨u', r', ?_⟩
        rcases q with ⟨k, e⟩ | ⟨k, c, e, z⟩
        · refine .inl ⟨k, ?_⟩
          have : y ≠ x := fun e => hj (nodup_ix hN e1 (e ▸ hi))
          simp [this, e]
        · exact .inr ⟨k, c, e, z.sameBut hs (cne y c e)⟩
    · obtain ⟨w', z⟩ := I.cell y c e
      exact ⟨w', z.sameBut hs (cne y c e)⟩
    · obtain ⟨e, n, ne, nf, d⟩ := I.pin p hp
      exact ⟨(hs.2 p.1 ne).trans e, n, ne, nf, d⟩
  · have hfn : X.fn x = true := by
      rcases hf with z | z
      · exact z
      · rw [z] at hk; cases hk
    obtain ⟨c, hc⟩ := I.ok.has x (.inl hk)
    obtain ⟨w', z⟩ := I.cell x c hc
    refine wpAny_storeName_cell I.ok.kind hk hc z (fun h' hc' hs => ?_)
    obtain ⟨oc, hoc, hocd⟩ := id z
    refine h { s with heap := h' } ⟨I.ok, I.os, I.bare, ⟨fun b o e n hb hx => ?_, fun b o e n hb hx => ?_, I.base.free, fun b o e hx => ?_, I.base.tups, I.base.frzs, I.base.tbls⟩, ⟨m, hn.sameBut hs (Ne.symm (cne x c hc)), fun j y v' e1 e2 e3 => ?_⟩, fun y c' e => ?_, I.free, I.freeC, fun p hp => ?_, tracked ⟨oc, hoc, I.freeC x c hc⟩ hs, by simpa using I.len⟩ ⟨c, hs, .inr hc⟩
    · exact (hs.2 b (Nat.ne_of_lt (Nat.lt_of_lt_of_le (Heap.lt_size e) (I.ok.cab x c hfn hc)))).trans (I.base.keep b o e n hb hx)
    · obtain ⟨sl, e1⟩ := I.base.slot b o e n hb hx
      exact ⟨sl, (hs.2 b (Nat.ne_of_lt (Nat.lt_of_lt_of_le (Heap.lt_size e) (I.ok.cab x c hfn hc)))).trans e1⟩
    · obtain ⟨o', e1⟩ := I.base.there b o e hx
      exact ⟨o', (hs.2 b (Nat.ne_of_lt (Nat.lt_of_lt_of_le (Heap.lt_size e) (I.ok.cab x c hfn hc)))).trans e1⟩
    · by_cases hj : j = i
      · subst hj
        rw [hi] at e1; cases e1
        rw [List.getElem?_set_self hiσ] at e2
        cases e2
        exact ⟨u, r, .inr ⟨.inl hk, c, hc, hc'⟩⟩
      · rw [List.getElem?_set_ne (Ne.symm hj)] at e2
        obtain ⟨u', r', q⟩ := hl j y v' e1 e2 e3
        refine ⟨u', r', ?_⟩
        rcases q with q | ⟨k, c', e, z'⟩
        · exact .inl q
        · refine .inr ⟨k, c', e, z'.sameBut hs ?_⟩
          rintro rfl
          exact hj (nodup_ix hN e1 (I.ok.inj _ _ _ e hc ▸ hi))
    · by_cases hcc : c' = c
      · subst hcc; exact ⟨_, hc'⟩
      · obtain ⟨w2, z2⟩ := I.cell y c' e
        exact ⟨w2, z2.sameBut hs hcc⟩
    · obtain ⟨e, n, ne, nf, d⟩ := I.pin p hp
      refine ⟨(hs.2 p.1 ?_).trans e, n, ne, nf, d⟩
      intro q
      rw [q, hoc] at e
      have q' : oc = p.2 := Option.some.inj e
      exact d w' (by rw [← q']; exact hocd)
theorem store_ok {M : Model} {A : Around} {E : Value → Shared → Prop} {i : Nat} {x : Str} {v : V} {u : Value} {Q : Unit → Shared → Prop} (I : Inv X pins σ H s) (hN : X.N.Nodup) (hi : X.N[i]? = some x) (hx : Loc X.env.scope x) (r : RelV v u)
    (h : ∀ s', Inv X pins (σ.set i (some v)) H s' → Q () s') (hf : X.fn x = true ∨ X.env.scope.names.lookup x = some .local := by first | exact .inl rfl | exact .inr rfl | assumption) : wpAny M A (storeName X.env x u) Q E s :=
  store_ok2 I hN hi hx r (fun s' I' _ => h s' I') hf

theorem Inv.call' {s' : Shared} {ch : List Addr} (I : Inv X pins σ H s) (ho : s'.os = s.os) (u : Un (frs X.stack) ch H H' s.heap s'.heap) (hok : HOk X.prog X.w H' s'.heap) (hg : AllBare s'.gens)
    (hch : ∀ b ∈ ch, (b ∈ X.ex ∨ X.s_0.heap.objs.size ≤ b) ∧ b ≠ X.env.locals ∧ (∀ x c, X.env.cells.lookup x = some c → c ≠ b) ∧ ∀ p ∈ X.pn ++ pins, p.1 ≠ b) : Inv X pins σ H' s' := by
  obtain ⟨h', g', d', t', o'⟩ := s'
  have e : o' = s.os := ho
  subst e
  exact I.call (g' := g') (t' := t') (d' := d') u hok hg hch
end



abbrev XK := Value → Option Addr → Hp → Prop
abbrev St := List (Option V)
abbrev VK := V → Hp → Prop

abbrev TE := St → Hp → VK → Prop
abbrev TT := St → Hp → (Bool → Hp → Prop) → Prop
abbrev TA := St → Hp → (List V → Hp → Prop) → Prop

structure Ends where
  nx : St → Hp → Prop
  rt : VK
  bk : St → Hp → Prop := fun _ _ => False
  ct : St → Hp → Prop := fun _ _ => False
abbrev TS := Ends → St → Hp → Prop

def EP (X : Cx) (pins : List (Addr × Obj)) (σ : St) (Q : VK) (u : Value) (s' : Shared) : Prop := ∃ v H', Inv X pins σ H' s' ∧ RelV v u ∧ Q v H'
def TP (X : Cx) (pins : List (Addr × Obj)) (σ : St) (Q : Bool → Hp → Prop) (b : Bool) (s' : Shared) : Prop := ∃ H', Inv X pins σ H' s' ∧ Q b H'
def AP (X : Cx) (pins : List (Addr × Obj)) (σ : St) (Q : List V → Hp → Prop) (us : List Value) (s' : Shared) : Prop := ∃ vs H', Inv X pins σ H' s' ∧ Vals vs us ∧ Q vs H'
def SP (X : Cx) (pins : List (Addr × Obj)) (D : Ends) (f : Flow) (s' : Shared) : Prop :=
  match f with
  | .next => ∃ σ' H', Inv X pins σ' H' s' ∧ D.nx σ' H'
  | .brk => ∃ σ' H', Inv X pins σ' H' s' ∧ D.bk σ' H'
  | .cont => ∃ σ' H', Inv X pins σ' H' s' ∧ D.ct σ' H'
  | .ret u => ∃ v σ' H', Inv X pins σ' H' s' ∧ RelV v u ∧ D.rt v H'

structure PE (X : Cx) (e : Expr) (t : TE) : Prop where
  run :
    ∀ (pins : List (Addr × Obj)) (s : Shared) (σ : St) (H : Hp) (Q : VK), Inv X pins σ H s → t σ H Q → wpAny (model X.prog X.w) X.A (eval e X.env) (EP X pins σ Q) X.xe s
instance {X : Cx} {e : Expr} {t : TE} : CoeFun (PE X e t) (fun _ =>
  ∀ (pins : List (Addr × Obj)) (s : Shared) (σ : St) (H : Hp) (Q : VK), Inv X pins σ H s → t σ H Q → wpAny (model X.prog X.w) X.A (eval e X.env) (EP X pins σ Q) X.xe s) := ⟨PE.run⟩
structure PT (X : Cx) (e : Expr) (t : TT) : Prop where
  run :
    ∀ (pins : List (Addr × Obj)) (s : Shared) (σ : St) (H : Hp) (Q : Bool → Hp → Prop), Inv X pins σ H s → t σ H Q → wpAny (model X.prog X.w) X.A (isTrue e X.env (eval e X.env)) (TP X pins σ Q) X.xe s
instance {X : Cx} {e : Expr} {t : TT} : CoeFun (PT X e t) (fun _ =>
  ∀ (pins : List (Addr × Obj)) (s : Shared) (σ : St) (H : Hp) (Q : Bool → Hp → Prop), Inv X pins σ H s → t σ H Q → wpAny (model X.prog X.w) X.A (isTrue e X.env (eval e X.env)) (TP X pins σ Q) X.xe s) := ⟨PT.run⟩

structure PW (X : Cx) (e : Expr) (t : TT) : Prop where
  run :
    ∀ (whole : Sem Value) (pins : List (Addr × Obj)) (s : Shared) (σ : St) (H : Hp) (Q : Bool → Hp → Prop), Inv X pins σ H s → t σ H Q → wpAny (model X.prog X.w) X.A (isTrue e X.env whole) (TP X pins σ Q) X.xe s
instance {X : Cx} {e : Expr} {t : TT} : CoeFun (PW X e t) (fun _ =>
  ∀ (whole : Sem Value) (pins : List (Addr × Obj)) (s : Shared) (σ : St) (H : Hp) (Q : Bool → Hp → Prop), Inv X pins σ H s → t σ H Q → wpAny (model X.prog X.w) X.A (isTrue e X.env whole) (TP X pins σ Q) X.xe s) := ⟨PW.run⟩
theorem PW.pt {X : Cx} {e : Expr} {t : TT} (h : PW X e t) : PT X e t := ⟨h.run _⟩

structure PA (X : Cx) (es : List Expr) (t : TA) : Prop where
  run :
    ∀ (pos : Pos) (pins : List (Addr × Obj)) (s : Shared) (σ : St) (H : Hp) (Q : List V → Hp → Prop), Inv X pins σ H s → t σ H Q → wpAny (model X.prog X.w) X.A (spliced (backTo pos (starEach es X.env))) (AP X pins σ Q) X.xe s
instance {X : Cx} {es : List Expr} {t : TA} : CoeFun (PA X es t) (fun _ =>
  ∀ (pos : Pos) (pins : List (Addr × Obj)) (s : Shared) (σ : St) (H : Hp) (Q : List V → Hp → Prop), Inv X pins σ H s → t σ H Q → wpAny (model X.prog X.w) X.A (spliced (backTo pos (starEach es X.env))) (AP X pins σ Q) X.xe s) := ⟨PA.run⟩
structure PS (X : Cx) (st : Stmt) (t : TS) : Prop where
  run :
    ∀ (pins : List (Addr × Obj)) (s : Shared) (σ : St) (H : Hp) (D : Ends), Inv X pins σ H s → t D σ H → wpAny (model X.prog X.w) X.A (exec st X.env) (SP X pins D) X.xe s
instance {X : Cx} {st : Stmt} {t : TS} : CoeFun (PS X st t) (fun _ =>
  ∀ (pins : List (Addr × Obj)) (s : Shared) (σ : St) (H : Hp) (D : Ends), Inv X pins σ H s → t D σ H → wpAny (model X.prog X.w) X.A (exec st X.env) (SP X pins D) X.xe s) := ⟨PS.run⟩
structure PSs (X : Cx) (st : List Stmt) (t : TS) : Prop where
  run :
    ∀ (pins : List (Addr × Obj)) (s : Shared) (σ : St) (H : Hp) (D : Ends), Inv X pins σ H s → t D σ H → wpAny (model X.prog X.w) X.A (execs st X.env) (SP X pins D) X.xe s
instance {X : Cx} {st : List Stmt} {t : TS} : CoeFun (PSs X st t) (fun _ =>
  ∀ (pins : List (Addr × Obj)) (s : Shared) (σ : St) (H : Hp) (D : Ends), Inv X pins σ H s → t D σ H → wpAny (model X.prog X.w) X.A (execs st X.env) (SP X pins D) X.xe s) := ⟨PSs.run⟩

theorem thn {α : Type} {t : Sem α} {Q Q' : α → Shared → Prop} {M : Model} {A : Around} {E : Value → Shared → Prop} {s : Shared} (h : wpAny M A t Q E s) (hQ : ∀ a s, Q a s → Q' a s) : wpAny M A t Q' E s := wpAny_mono h hQ fun _ _ x => x
end L2

namespace L2
open PySem PySem.Spec PyProof.Rows
section
variable {X : Cx}


def tVar (i : Nat) : TE := fun σ H Q => ∃ v, σ[i]? = some (some v) ∧ Q v H
def tC (v : V) : TE := fun _ H Q => Q v H
theorem pe_var {i : Nat} {x : Str} {pos : Pos} (hN : X.N[i]? = some x) (hv : Vis X.env.scope x) (hd : (x == ("__debug__" : Str)) = false := by decide) (hcd : (x == ("__classdict__" : Str)) = false := by decide) : PE X (.Name x pos) (tVar i) := by
  constructor
  intro pins s σ H Q I h
  obtain ⟨v, e, h⟩ := h
  obtain ⟨m, hn, hl⟩ := I.loc
  obtain ⟨u, r, l⟩ := hl i x v hN e hv
  have fin : EP X pins σ Q u s := ⟨v, H, I, r, h⟩
  rcases l with ⟨hk, hm⟩ | ⟨hk, c, hc, hcell⟩
  · exact wpAny_Name (wpAny_loadName_local I.ok.kind hk hn hm fin) hd
  · rcases hk with hk | hk
    · exact wpAny_Name (wpAny_loadName_cell I.ok.kind hk hc hcell fin) hd
    · exact wpAny_Name (wpAny_loadName_free I.ok.kind hk hc hcell fin hcd) hd
theorem pe_int {i j pos} : PE X (.Constant (.int i) j pos) (tC (.int i)) := ⟨fun _ _ _ H _ I h => wpAny_Constant_int ⟨.int i, H, I.tok _, ⟨_, rfl⟩, h⟩⟩
theorem pe_bl {b j pos} : PE X (.Constant (.bool b) j pos) (tC (.bl b)) := ⟨fun _ _ _ H _ I h => Constant_bool ⟨.bl b, H, I, rfl, h⟩⟩
theorem pe_non {j pos} : PE X (.Constant .none j pos) (tC .non) := ⟨fun _ _ _ H _ I h => Constant_none ⟨.non, H, I, rfl, h⟩⟩
theorem pe_str {x j pos} : PE X (.Constant (.str x) j pos) (tC (.str x)) := ⟨fun _ _ _ H _ I h => Calls.Constant_str ⟨.str x, H, I.tok _, ⟨_, rfl⟩, h⟩⟩


def Gl (X : Cx) (x : Str) : Prop := X.env.kindOf x = some .globalImplicit
theorem ld_glob {E : Value → Shared → Prop} {pins : List (Addr × Obj)} {s : Shared} {σ : St} {H : Hp} {x : Str} {u : Value} {pos : Pos} {Q : Value → Shared → Prop} (I : Inv X pins σ H s) (hg : Gl X x) (hm : X.mg x = some u) (h : Q u s)
    (hd : (x == ("__debug__" : Str)) = false := by decide) : wpAny (model X.prog X.w) X.A (eval (.Name x pos) X.env) Q E s :=
  Calls.Name_function_global I.ok.kind hg (Calls.loadGlobal_global (by rw [I.ok.glob]; exact I.mod.glob.keeps I.bk) hm h) hd
theorem ld_blt {E : Value → Shared → Prop} {pins : List (Addr × Obj)} {s : Shared} {σ : St} {H : Hp} {x : Str} {u : Value} {pos : Pos} {Q : Value → Shared → Prop} (I : Inv X pins σ H s) (hg : Gl X x) (hm : X.mg x = none) (hv : bootBuiltins x = some u) (h : Q u s)
    (hn : x ≠ "__name__" := by decide) (hd : (x == ("__debug__" : Str)) = false := by decide) : wpAny (model X.prog X.w) X.A (eval (.Name x pos) X.env) Q E s := by
  obtain ⟨mb, h1, h2⟩ := I.mod.blt
  exact Calls.Name_function_global I.ok.kind hg (Calls.loadGlobal_builtin (by rw [I.ok.glob]; exact I.mod.glob.keeps I.bk) hm (by rw [I.ok.blt]; exact h1.keeps I.bk) ((h2 x hn).trans hv) h) hd

theorem pe_glob {x : Str} {v : V} {u : Value} {pos : Pos} (hg : Gl X x) (hm : X.mg x = some u) (r : RelV v u) (hd : (x == ("__debug__" : Str)) = false := by decide) : PE X (.Name x pos) (tC v) :=
  ⟨fun _ _ _ H _ I h => ld_glob I hg hm ⟨v, H, I, r, h⟩ hd⟩
theorem pe_bltn {x : Str} {v : V} {u : Value} {pos : Pos} (hg : Gl X x) (hm : X.mg x = none) (hv : bootBuiltins x = some u) (r : RelV v u) (hn : x ≠ "__name__" := by decide) (hd : (x == ("__debug__" : Str)) = false := by decide) : PE X (.Name x pos) (tC v) :=
  ⟨fun _ _ _ H _ I h => ld_blt I hg hm hv ⟨v, H, I, r, h⟩ hn hd⟩



def t2I (ta tb : TE) (k : Int → Int → Hp → Prop) : St → Hp → Prop := fun σ H => ta σ H fun x H1 => tb σ H1 fun y H2 => ∃ i j, x = .int i ∧ y = .int j ∧ k i j H2
def tAdd (ta tb : TE) : TE := fun σ H Q => t2I ta tb (fun i j H2 => Q (.int (i + j)) H2) σ H
def tSub (ta tb : TE) : TE := fun σ H Q => t2I ta tb (fun i j H2 => Q (.int (i - j)) H2) σ H

def tMul (ta tb : TE) : TE := fun σ H Q => t2I ta tb (fun i j H2 => (-(2 ^ 64) < i ∧ i < 2 ^ 64) ∧ Q (.int (i * j)) H2) σ H
variable {a b : Expr} {ta tb : TE} {pos : Pos}
structure PC (X : Cx) (op : CmpOp) (a b : Expr) (t : TE) : Prop where
  run :
    ∀ (pins : List (Addr × Obj)) (s : Shared) (σ : St) (H : Hp) (Q : VK), Inv X pins σ H s → t σ H Q →
      wpAny (model X.prog X.w) X.A (eval a X.env) (fun v s₁ => wpAny (model X.prog X.w) X.A (eval b X.env) (fun u s₂ => wpAny (model X.prog X.w) X.A (compareOp op v u) (EP X pins σ Q) X.xe s₂) X.xe s₁) X.xe s
instance {X : Cx} {op : CmpOp} {a b : Expr} {t : TE} : CoeFun (PC X op a b t) (fun _ =>
  ∀ (pins : List (Addr × Obj)) (s : Shared) (σ : St) (H : Hp) (Q : VK), Inv X pins σ H s → t σ H Q →
    wpAny (model X.prog X.w) X.A (eval a X.env) (fun v s₁ => wpAny (model X.prog X.w) X.A (eval b X.env) (fun u s₂ => wpAny (model X.prog X.w) X.A (compareOp op v u) (EP X pins σ Q) X.xe s₂) X.xe s₁) X.xe s) := ⟨PC.run⟩
def tCmp (p : Int → Int → Bool) (ta tb : TE) : TE := fun σ H Q => t2I ta tb (fun i j H2 => Q (.bl (p i j)) H2) σ H
abbrev tLt : TE → TE → TE := tCmp fun i j => decide (i < j)
abbrev tLe : TE → TE → TE := tCmp fun i j => decide (i ≤ j)
abbrev tGt : TE → TE → TE := tCmp fun i j => decide (j < i)
abbrev tGe : TE → TE → TE := tCmp fun i j => decide (j ≤ i)
abbrev tEqI : TE → TE → TE := tCmp fun i j => decide (i = j)
abbrev tNeI : TE → TE → TE := tCmp fun i j => !decide (i = j)

def tIsN (ta : TE) : TE := fun σ H Q => ta σ H fun x H1 => Q (.bl (decide (x = .non))) H1
def tNotN (ta : TE) : TE := fun σ H Q => ta σ H fun x H1 => Q (.bl (!decide (x = .non))) H1
def tB (t : TE) : TT := fun σ H Q => t σ H fun x H1 => ∃ c, x = .bl c ∧ Q c H1
theorem pt_cmp {op : CmpOp} {t : TE} (h : PC X op a b t) (h1 : behindInMarks op b = false := by first | exact nobehind _ (by decide) (by decide) | rfl) : PT X (.Compare a [op] [b] pos) (tB t) := by
  constructor
  intro pins s σ H Q I hw
  refine wpAny_isTrue_Compare1 (thn (h pins s σ H _ I hw) fun v s1 h1 => thn h1 fun u s2 h2 => thn h2 fun c s3 ⟨x, H1, I1, r1, q1⟩ => ?_) h1
  obtain ⟨d, rfl, q⟩ := q1
  cases r1
  exact wpAny_truthy_bool ⟨H1, I1, q⟩

theorem pt_val {e : Expr} {t : TE} (h : PE X e t) (he : ∀ whole, isTrue e X.env whole = (do let v ← whole; standAt e.pos; holding [v] (truthy v)) := by intro _; rfl) : PT X e (tB t) := by
  constructor
  intro pins s σ H Q I hw
  refine isTrue_plain (thn (h pins s σ H _ I hw) fun v s1 ⟨x, H1, I1, r1, q1⟩ => ?_) (he _)
  obtain ⟨d, rfl, q⟩ := q1
  cases r1
  exact wpAny_truthy_bool ⟨H1, I1, q⟩


variable {tA tB' : TT} {rest : List Expr}
def tAnd (t u : TT) : TT := fun σ H Q => t σ H fun c H1 => if c = true then u σ H1 Q else Q false H1
def tOr (t u : TT) : TT := fun σ H Q => t σ H fun c H1 => if c = true then Q true H1 else u σ H1 Q
def tNot (t : TT) : TT := fun σ H Q => t σ H fun c H1 => Q (!c) H1
theorem pw_and1 (ha : PT X a tA) : PW X (.BoolOp .And [a] pos) tA := by
  constructor
  intro wh pins s σ H Q I h
  refine isTrue_and (thn (ha pins s σ H Q I h) fun c s1 e => ?_)
  cases c with
  | true => exact isTrue_and_nil e
  | false => exact e
theorem pw_or1 (ha : PT X a tA) : PW X (.BoolOp .Or [a] pos) tA := by
  constructor
  intro wh pins s σ H Q I h
  refine isTrue_or (thn (ha pins s σ H Q I h) fun c s1 e => ?_)
  cases c with
  | false => exact isTrue_or_nil e
  | true => exact e
theorem pw_and (ha : PT X a tA) (hb : PW X (.BoolOp .And (b :: rest) pos) tB') : PW X (.BoolOp .And (a :: b :: rest) pos) (tAnd tA tB') := by
  constructor
  intro wh pins s σ H Q I h
  refine isTrue_and (thn (ha pins s σ H _ I h) fun c s1 ⟨H1, I1, q1⟩ => ?_)
  cases c with
  | true => exact hb wh pins s1 σ H1 Q I1 q1
  | false => exact ⟨H1, I1, q1⟩
theorem pw_or (ha : PT X a tA) (hb : PW X (.BoolOp .Or (b :: rest) pos) tB') : PW X (.BoolOp .Or (a :: b :: rest) pos) (tOr tA tB') := by
  constructor
  intro wh pins s σ H Q I h
  refine isTrue_or (thn (ha pins s σ H _ I h) fun c s1 ⟨H1, I1, q1⟩ => ?_)
  cases c with
  | true => exact ⟨H1, I1, q1⟩
  | false => exact hb wh pins s1 σ H1 Q I1 q1
theorem pt_not (ha : PT X a tA) : PT X (.UnaryOp .Not a pos) (tNot tA) := by
  constructor
  intro pins s σ H Q I h
  exact isTrue_not (ha pins s σ H (fun c H1 => Q (!c) H1) I h)

def tAndV (ta tb : TE) : TE := fun σ H Q => ta σ H fun x H1 => ∃ c, x = .bl c ∧ if c = true then tb σ H1 Q else Q (.bl false) H1
def tOrV (ta tb : TE) : TE := fun σ H Q => ta σ H fun x H1 => ∃ c, x = .bl c ∧ if c = true then Q (.bl true) H1 else tb σ H1 Q
def tNotV (ta : TE) : TE := fun σ H Q => ta σ H fun x H1 => ∃ c, x = .bl c ∧ Q (.bl (!c)) H1
theorem pe_one {op} {t : TE} (h : PE X a t) : PE X (.BoolOp op [a] pos) t := ⟨fun pins s σ H Q I hw => BoolOp_one (h pins s σ H Q I hw)⟩
theorem pe_and (ha : PE X a ta) (hb : PE X (.BoolOp .And (b :: rest) pos) tb) : PE X (.BoolOp .And (a :: b :: rest) pos) (tAndV ta tb) := by
  constructor
  intro pins s σ H Q I h
  refine BoolOp_and (thn (ha pins s σ H _ I h) fun v s1 ⟨x, H1, I1, r1, q1⟩ => ?_)
  obtain ⟨c, rfl, q1⟩ := q1
  cases r1
  refine wpAny_truthy_bool ?_
  cases c with
  | true => exact hb pins s1 σ H1 Q I1 q1
  | false => exact ⟨.bl false, H1, I1, rfl, q1⟩
theorem pe_not (ha : PE X a ta) : PE X (.UnaryOp .Not a pos) (tNotV ta) := by
  constructor
  intro pins s σ H Q I h
  refine UnaryOp_ (thn (ha pins s σ H _ I h) fun v s1 ⟨x, H1, I1, r1, q1⟩ => ?_)
  obtain ⟨c, rfl, q1⟩ := q1
  cases r1
  exact not_of (wpAny_truthy_bool ⟨.bl (!c), H1, I1, rfl, q1⟩)

def tIf (t : TT) (ta tb : TE) : TE := fun σ H Q => t σ H fun c H1 => if c = true then ta σ H1 Q else tb σ H1 Q
theorem pe_ifExp {c : Expr} (hc : PT X c tA) (ha : PE X a ta) (hb : PE X b tb) : PE X (.IfExp c a b pos) (tIf tA ta tb) := by
  constructor
  intro pins s σ H Q I h
  refine wpAny_IfExp (thn (hc pins s σ H _ I h) fun d s1 ⟨H1, I1, q1⟩ => ?_)
  cases d with
  | true => exact ha pins s1 σ H1 Q I1 q1
  | false => exact hb pins s1 σ H1 Q I1 q1
end
end L2

namespace L2
open PySem PySem.Spec PyProof.Rows


def SqL (K : PySem.W.Frag) (H : Hp) (a : Addr) (xs : List V) : Prop :=
  Rd H a (.lst xs) ∨
    ∃ (o : Obj) (its : Array Value) (n : Nat), K.lookup a = some o ∧ o.cls = .type "list" ∧ o.dict = none ∧ o.data = .seq its n ∧ its.size ≤ sizeLine ∧ Vals xs its.toList
def SqT (K : PySem.W.Frag) (H : Hp) (a : Addr) (xs : List V) : Prop :=
  Rd H a (.tup xs) ∨
    ∃ (o : Obj) (its : Array Value) (n : Nat), K.lookup a = some o ∧ o.cls = .type "tuple" ∧ o.data = .seq its n ∧ its.size ≤ sizeLine ∧ Vals xs its.toList
def absV : Value → Option V
  | .none => some .non
  | .bool b => some (.bl b)
  | .int i _ => some (.int i)
  | .str x _ => some (.str x)
  | .bytes b _ => some (.byt b)
  | .float b _ => some (.flt b)
  | .ref a => some (.ref a)
  | .type n => some (.ty n)
  | _ => none
theorem RelV.abs {x : V} {u : Value} (r : RelV x u) : absV u = some x := by
  cases x with
  | non => cases r; rfl
  | bl _ => cases r; rfl
  | int _ => obtain ⟨t, rfl⟩ := r; rfl
  | str _ => obtain ⟨t, rfl⟩ := r; rfl
  | byt _ => obtain ⟨t, rfl⟩ := r; rfl
  | flt _ => obtain ⟨t, rfl⟩ := r; rfl
  | ref _ => cases r; rfl
  | ty _ => cases r; rfl
theorem RelV.inj {x y : V} {u : Value} (r : RelV x u) (q : RelV y u) : x = y := Option.some.inj (r.abs.symm.trans q.abs)
theorem Vals.inj : ∀ {xs ys : List V} {us : List Value}, Vals xs us → Vals ys us → xs = ys
  | _, _, _, .nil, .nil => rfl
  | _, _, _, .cons r t, .cons r' t' => by rw [r.inj r', Vals.inj t t']
section
variable {X : Cx} {pins : List (Addr × Obj)} {σ : St} {H : Hp} {s : Shared} {a : Addr} {xs ys : List V}
theorem SqL.of {K : PySem.W.Frag} (h : H a = some (.lst xs)) : SqL K H a xs := .inl (.inl h)
theorem SqT.of {K : PySem.W.Frag} (h : H a = some (.tup xs)) : SqT K H a xs := .inl (.inl h)
theorem Inv.list (I : Inv X pins σ H s) (h : SqL X.K H a xs) : ∃ its : List Value, Vals xs its ∧ PlainL s.heap a its.toArray ∧ xs.length ≤ sizeLine := by
  rcases h with h | ⟨o, its, n, hk, hc, hd, hs, hz, r⟩
  · obtain ⟨z, its, n, r, e⟩ := h.ok I.hok
    exact ⟨its, r, ⟨_, n, e, rfl, rfl, rfl⟩, z⟩
  · refine ⟨its.toList, r, ⟨o, n, I.kIn a o hk, hc, hd, by simpa using hs⟩, ?_⟩
    have e := r.length
    simp only [Array.length_toList] at e
    omega
theorem Inv.tuple (I : Inv X pins σ H s) (h : SqT X.K H a xs) : ∃ its : List Value, Vals xs its ∧ IsTup s.heap a its.toArray ∧ xs.length ≤ sizeLine := by
  rcases h with h | ⟨o, its, n, hk, hc, hs, hz, r⟩
  · obtain ⟨z, its, r, p⟩ := h.ok I.hok
    exact ⟨its, r, p.is, z⟩
  · refine ⟨its.toList, r, ⟨o, I.kIn a o hk, hc, n, by simpa using hs⟩, ?_⟩
    have e := r.length
    simp only [Array.length_toList] at e
    omega
theorem Inv.list_inj (I : Inv X pins σ H s) (h : SqL X.K H a xs) (h' : SqL X.K H a ys) : xs = ys := by
  obtain ⟨its, r, ⟨o, n, e, _, _, d⟩, _⟩ := I.list h
  obtain ⟨its', r', ⟨o', n', e', _, _, d'⟩, _⟩ := I.list h'
  rw [e] at e'; cases e'
  rw [d] at d'
  injection d' with d1 _
  have : its = its' := by simpa using congrArg Array.toList d1
  subst this
  exact r.inj r'
theorem Inv.tuple_inj (I : Inv X pins σ H s) (h : SqT X.K H a xs) (h' : SqT X.K H a ys) : xs = ys := by
  obtain ⟨its, r, ⟨o, e, _, n, d⟩, _⟩ := I.tuple h
  obtain ⟨its', r', ⟨o', e', _, n', d'⟩, _⟩ := I.tuple h'
  rw [e] at e'; cases e'
  rw [d] at d'
  injection d' with d1 _
  have : its = its' := by simpa using congrArg Array.toList d1
  subst this
  exact r.inj r'
end


abbrev Cx.wish (X : Cx) (E : Value → Shared → Prop) : Cx := { X with xe := E }

abbrev Cx.nox (X : Cx) : Cx := X.wish fun _ _ => False
theorem Cx.Ok.wish {X : Cx} (ok : X.Ok) (E : Value → Shared → Prop) : (X.wish E).Ok :=
  ⟨ok.mod, ok.kind, ok.glob, ok.blt, ok.above, ok.inj, ok.has, ok.cab, ok.hd, ok.frames, ok.stk, ok.exf, ok.bs, ok.bsz, ok.noex, ok.exfs, ok.funs, ok.frf⟩
theorem Cx.Ok.unwish {X : Cx} {E : Value → Shared → Prop} (ok : (X.wish E).Ok) : X.Ok :=
  ⟨ok.mod, ok.kind, ok.glob, ok.blt, ok.above, ok.inj, ok.has, ok.cab, ok.hd, ok.frames, ok.stk, ok.exf, ok.bs, ok.bsz, ok.noex, ok.exfs, ok.funs, ok.frf⟩
section
variable {X : Cx} {pins : List (Addr × Obj)} {σ : St} {H : Hp} {s : Shared} {E : Value → Shared → Prop}
theorem Inv.wish (I : Inv X pins σ H s) (E : Value → Shared → Prop) : Inv (X.wish E) pins σ H s := ⟨I.ok.wish E, I.os, I.bare, I.base, I.loc, I.cell, I.free, I.freeC, I.pin, I.hok, I.len⟩
theorem Inv.unwish (I : Inv (X.wish E) pins σ H s) : Inv X pins σ H s := ⟨I.ok.unwish, I.os, I.bare, I.base, I.loc, I.cell, I.free, I.freeC, I.pin, I.hok, I.len⟩
theorem SP.unwish {D : Ends} {f : Flow} {s' : Shared} (h : SP (X.wish E) pins D f s') : SP X pins D f s' := by
  cases f with
  | next => obtain ⟨σ', H', I, q⟩ := h; exact ⟨σ', H', I.unwish, q⟩
  | brk => obtain ⟨σ', H', I, q⟩ := h; exact ⟨σ', H', I.unwish, q⟩
  | cont => obtain ⟨σ', H', I, q⟩ := h; exact ⟨σ', H', I.unwish, q⟩
  | ret u => obtain ⟨v, σ', H', I, r, q⟩ := h; exact ⟨v, σ', H', I.unwish, r, q⟩
theorem PSs.nox {st : List Stmt} {t : TS} (h : PSs X.nox st t) : PSs X st t := ⟨fun pins s σ H D I hw =>
  wpAny_mono (h pins s σ H D (I.wish _) hw) (fun _ _ q => q.unwish) fun _ _ z => False.elim z⟩
end


section
variable {X : Cx} {st : Stmt} {rest : List Stmt} {t u : TS} {e : Expr} {te : TE} {pos : Pos}
def tNext : TS := fun D σ H => D.nx σ H
def tSeq (t u : TS) : TS := fun D σ H => t { D with nx := u D } σ H
theorem pss_nil : PSs X [] tNext := ⟨fun _ _ σ H _ I h => wpAny_execs_nil ⟨σ, H, I, h⟩⟩
theorem pss_cons (h1 : PS X st t) (h2 : PSs X rest u) : PSs X (st :: rest) (tSeq t u) := by
  constructor
  intro pins s σ H D I h
  refine wpAny_execs_cons (thn (h1 pins s σ H { D with nx := u D } I h) fun f s1 q => ?_)
  cases f with
  | next =>
    obtain ⟨σ', H', I', q⟩ := q
    exact h2 pins s1 σ' H' D I' q
  | ret v => exact q
  | brk => exact q
  | cont => exact q
theorem pss_one (h1 : PS X st t) : PSs X [st] t := by
  constructor
  intro pins s σ H D I h
  refine wpAny_execs_cons (thn (h1 pins s σ H D I h) fun f s1 q => ?_)
  cases f with
  | next => exact wpAny_execs_nil q
  | ret v => exact q
  | brk => exact q
  | cont => exact q
def tBreak : TS := fun D σ H => D.bk σ H
def tCont : TS := fun D σ H => D.ct σ H
theorem Inv.quiet {pins : List (Addr × Obj)} {σ : St} {H : Hp} {s : Shared} (I : Inv X pins σ H s) : interactive X.env = false := by simp [interactive, I.ok.kind]

def tDrop (te : TE) : TS := fun D σ H => te σ H fun _ H1 => D.nx σ H1
theorem ps_expr (he : PE X e te) (hs : swapsWith e none pos.line X.env = pure false := by rfl) : PS X (.Expr e pos) (tDrop te) := by
  constructor
  intro pins s σ H D I h
  exact wpAny_Expr_any (thn (he pins s σ H _ I h) fun v s1 ⟨x, H1, I1, r1, q1⟩ => ⟨σ, H1, I1, q1⟩) I.quiet hs
def tRet (te : TE) : TS := fun D σ H => te σ H D.rt
theorem ps_ret (he : PE X e te) : PS X (.Return (some e) pos) (tRet te) := by
  constructor
  intro pins s σ H D I h
  exact wpAny_Return_some (thn (he pins s σ H _ I h) fun v s1 ⟨x, H1, I1, r1, q1⟩ => ⟨x, σ, H1, I1, r1, q1⟩)
def tRetN : TS := fun D _ H => D.rt .non H
def tIfS (c : TT) (t u : TS) : TS := fun D σ H => c σ H fun b H1 => if b = true then t D σ H1 else u D σ H1
theorem ps_if {c : Expr} {a b : List Stmt} {tc : TT} (hc : PT X c tc) (ha : PSs X a t) (hb : PSs X b u) : PS X (.If c a b pos) (tIfS tc t u) := by
  constructor
  intro pins s σ H D I h
  refine wpAny_If (thn (hc pins s σ H _ I h) fun d s1 ⟨H1, I1, q1⟩ => ?_)
  cases d with
  | true => exact ha pins s1 σ H1 D I1 q1
  | false => exact hb pins s1 σ H1 D I1 q1

def tNever : TS := fun _ _ _ => False
theorem ps_never : PS X st tNever := ⟨fun _ _ _ _ _ _ h => h.elim⟩
end


abbrev TG := V → St → Hp → (St → Hp → Prop) → Prop
abbrev TGs := List V → St → Hp → (St → Hp → Prop) → Prop
structure PG (X : Cx) (target : Expr) (t : TG) : Prop where
  run :
    ∀ (pins : List (Addr × Obj)) (s : Shared) (σ : St) (H : Hp) (v : V) (u : Value) (Q : St → Hp → Prop), Inv X pins σ H s → RelV v u → t v σ H Q →
      wpAny (model X.prog X.w) X.A (assign target X.env u) (fun _ s' => ∃ σ' H', Inv X pins σ' H' s' ∧ Q σ' H') X.xe s
instance {X : Cx} {target : Expr} {t : TG} : CoeFun (PG X target t) (fun _ =>
  ∀ (pins : List (Addr × Obj)) (s : Shared) (σ : St) (H : Hp) (v : V) (u : Value) (Q : St → Hp → Prop), Inv X pins σ H s → RelV v u → t v σ H Q →
    wpAny (model X.prog X.w) X.A (assign target X.env u) (fun _ s' => ∃ σ' H', Inv X pins σ' H' s' ∧ Q σ' H') X.xe s) := ⟨PG.run⟩

structure PGs (X : Cx) (ts : List Expr) (t : TGs) : Prop where
  run :
    ∀ (pins : List (Addr × Obj)) (s : Shared) (σ : St) (H : Hp) (vs : List V) (us : List Value) (Q : St → Hp → Prop), Inv X pins σ H s → Vals vs us → t vs σ H Q →
      wpAny (model X.prog X.w) X.A (assignInOrder ((assignEach ts X.env).map (·.2)) us) (fun _ s' => ∃ σ' H', Inv X pins σ' H' s' ∧ Q σ' H') X.xe s
instance {X : Cx} {ts : List Expr} {t : TGs} : CoeFun (PGs X ts t) (fun _ =>
  ∀ (pins : List (Addr × Obj)) (s : Shared) (σ : St) (H : Hp) (vs : List V) (us : List Value) (Q : St → Hp → Prop), Inv X pins σ H s → Vals vs us → t vs σ H Q →
    wpAny (model X.prog X.w) X.A (assignInOrder ((assignEach ts X.env).map (·.2)) us) (fun _ s' => ∃ σ' H', Inv X pins σ' H' s' ∧ Q σ' H') X.xe s) := ⟨PGs.run⟩

abbrev TSet := V → V → V → Hp → (Hp → Prop) → Prop
structure PSet (X : Cx) (t : TSet) : Prop where
  run :
    ∀ (pins : List (Addr × Obj)) (s : Shared) (σ : St) (H : Hp) (o i v : V) (ov iv u : Value) (Q : Hp → Prop), Inv X pins σ H s → RelV o ov → RelV i iv → RelV v u → t o i v H Q →
      wpAny (model X.prog X.w) X.A (setItem ov iv u) (fun _ s' => ∃ H', Inv X pins σ H' s' ∧ Q H') X.xe s
instance {X : Cx} {t : TSet} : CoeFun (PSet X t) (fun _ =>
  ∀ (pins : List (Addr × Obj)) (s : Shared) (σ : St) (H : Hp) (o i v : V) (ov iv u : Value) (Q : Hp → Prop), Inv X pins σ H s → RelV o ov → RelV i iv → RelV v u → t o i v H Q →
    wpAny (model X.prog X.w) X.A (setItem ov iv u) (fun _ s' => ∃ H', Inv X pins σ H' s' ∧ Q H') X.xe s) := ⟨PSet.run⟩

abbrev TIp := V → V → Hp → VK → Prop
structure PIp (X : Cx) (op : Operator) (t : TIp) : Prop where
  run :
    ∀ (pins : List (Addr × Obj)) (s : Shared) (σ : St) (H : Hp) (x y : V) (v u : Value) (Q : VK), Inv X pins σ H s → RelV x v → RelV y u → t x y H Q →
      wpAny (model X.prog X.w) X.A (inplaceOp op v u) (EP X pins σ Q) X.xe s
instance {X : Cx} {op : Operator} {t : TIp} : CoeFun (PIp X op t) (fun _ =>
  ∀ (pins : List (Addr × Obj)) (s : Shared) (σ : St) (H : Hp) (x y : V) (v u : Value) (Q : VK), Inv X pins σ H s → RelV x v → RelV y u → t x y H Q →
    wpAny (model X.prog X.w) X.A (inplaceOp op v u) (EP X pins σ Q) X.xe s) := ⟨PIp.run⟩
section
variable {X : Cx} {pos : Pos}
def gName (i : Nat) : TG := fun v σ H Q => Q (σ.set i (some v)) H
theorem pg_name {i : Nat} {x : Str} (hN : X.N.Nodup) (hi : X.N[i]? = some x) (hx : Loc X.env.scope x) (hf : X.fn x = true ∨ X.env.scope.names.lookup x = some .local := by first | exact .inl rfl | exact .inr rfl | assumption) : PG X (.Name x pos) (gName i) := by
  constructor
  intro pins s σ H v u Q I r h
  exact wpAny_assign_Name (store_ok I hN hi hx r (fun s' I' => ⟨_, H, I', h⟩) hf)
def gNil : TGs := fun vs σ H Q => vs = [] ∧ Q σ H
def gCons (t : TG) (u : TGs) : TGs := fun vs σ H Q => ∃ v r, vs = v :: r ∧ t v σ H fun σ' H' => u r σ' H' Q
theorem pgs_nil : PGs X [] gNil := by
  constructor
  intro pins s σ H vs us Q I r h
  obtain ⟨e, h⟩ := h
  subst e
  cases r
  exact assignInOrder_nil ⟨σ, H, I, h⟩
theorem pgs_cons {e : Expr} {es : List Expr} {t : TG} {u : TGs} (h1 : PG X e t) (h2 : PGs X es u)
    (hs : (assignEach (e :: es) X.env).map (·.2) = assign e X.env :: (assignEach es X.env).map (·.2) := by rfl) : PGs X (e :: es) (gCons t u) := by
  constructor
  intro pins s σ H vs us Q I r h
  obtain ⟨v, vr, e1, h⟩ := h
  subst e1
  cases r with
  | cons r rr =>
    rw [hs]
    refine assignInOrder_cons (thn (h1 pins s σ H _ _ _ I r h) fun _ s1 ⟨σ1, H1, I1, q1⟩ => ?_)
    exact h2 pins s1 σ1 H1 _ _ Q I1 rr q1

def gTup (K : PySem.W.Frag) (n : Nat) (t : TGs) : TG := fun v σ H Q => ∃ a xs, v = .ref a ∧ SqT K H a xs ∧ xs.length = n ∧ t xs σ H Q
theorem pg_tup {es : List Expr} {k : Nat} {t : TGs} {n : Nat} (hc : X.calm = true) (h : PGs X es t)
    (hn : (assignEach es X.env).length = n := by rfl) (hst : (assignEach es X.env).findIdx? (·.1) = none := by rfl) : PG X (.Tuple es k pos) (gTup X.K n t) := by
  constructor
  intro pins s σ H v u Q I r hw
  obtain ⟨a, xs, e1, hq, hl, hw⟩ := hw
  subst e1
  cases r
  obtain ⟨its, rv, ht, hz⟩ := I.tuple hq
  refine assign_Tuple_tuple (I.ok.hd hc) ht (by simp [hn, ← hl, rv.length]) hst fun h' hx => ?_
  have I1 : Inv X pins σ H { s with heap := h' } := I.kept (t' := s.toks) fun b o e => hx b o (Nat.ne_of_lt (Heap.lt_size e)) e
  exact h pins _ σ H xs _ Q I1 (by simpa using rv) hw

def gSub (to ti : TE) (t : TSet) : TG := fun v σ H Q => to σ H fun o H1 => ti σ H1 fun i H2 => t o i v H2 fun H3 => Q σ H3
theorem pg_sub {o i : Expr} {to ti : TE} {t : TSet} (ho : PE X o to) (hi : PE X i ti) (hs : PSet X t)
    (ha : ∀ v, assign (.Subscript o i pos) X.env v = (do
      let ov ← holding [v] (eval o X.env)
      let iv ← holding [v, ov] (eval i X.env)
      standAt pos
      holding [v, ov, iv] (setItem ov iv v)
      release [v, ov, iv] []) := by intro _; rfl) : PG X (.Subscript o i pos) (gSub to ti t) := by
  constructor
  intro pins s σ H v u Q I r h
  rw [ha]
  refine wpAny_bind (wpAny_holding (thn (ho pins s σ H _ I h) fun ov s1 ⟨x, H1, I1, r1, q1⟩ => ?_))
  refine wpAny_bind (wpAny_holding (thn (hi pins s1 σ H1 _ I1 q1) fun iv s2 ⟨y, H2, I2, r2, q2⟩ => ?_))
  refine wpAny_bind (wpAny_standAt (wpAny_bind (wpAny_holding (thn (hs pins s2 σ H2 x y v ov iv u _ I2 r1 r2 r q2) fun _ s3 ⟨H3, I3, q3⟩ => ?_))))
  exact wpAny_release ⟨σ, H3, I3, q3⟩

def tAsg (te : TE) (g : TG) : TS := fun D σ H => te σ H fun x H1 => g x σ H1 D.nx
theorem ps_asg {tg e : Expr} {te : TE} {g : TG} (he : PE X e te) (hg : PG X tg g) (hs : swapsWithSole [tg] e pos.line X.env = pure false := by rfl) (hw : swappedStores [tg] e X.env = pure none := by rfl)
    (h1 : (assignEach [tg] X.env).map (·.2) = [assign tg X.env] := by rfl) : PS X (.Assign [tg] e pos) (tAsg te g) := by
  constructor
  intro pins s σ H D I h
  refine wpAny_Assign_stores (thn (he pins s σ H _ I h) fun v s1 ⟨x, H1, I1, r1, q1⟩ => ?_) hs hw
  rw [h1]
  exact thn (hg pins s1 σ H1 x v _ I1 r1 q1) fun _ s2 q => q

def tPar (i j : Nat) (ta : TA) : TS := fun D σ H => ta σ H fun vs H1 => ∃ v w, vs = [v, w] ∧ D.nx ((σ.set i (some v)).set j (some w)) H1
theorem ps_par {i j : Nat} {x y : Str} {a b : Expr} {ta : TA} {px py pt : Pos} {kt k2 pt2} (hc : X.calm = true) (hN : X.N.Nodup) (hi : X.N[i]? = some x) (hj : X.N[j]? = some y) (hij : i ≠ j)
    (hx : X.env.scope.names.lookup x = some .local) (hy : X.env.scope.names.lookup y = some .local) (ha : PA X [a, b] ta)
    (hw : swappedStores [.Tuple [.Name x px, .Name y py] kt pt] (.Tuple [a, b] k2 pt2) X.env = pure (some [x, y]))
    (hs : swapsWithSole [.Tuple [.Name x px, .Name y py] kt pt] (.Tuple [a, b] k2 pt2) pos.line X.env = pure false := by rfl) :
    PS X (.Assign [.Tuple [.Name x px, .Name y py] kt pt] (.Tuple [a, b] k2 pt2) pos) (tPar i j ta) := by
  constructor
  intro pins s σ H D I h
  rw [exec_Assign_arm]
  refine wpAny_bind (wpAny_standAt ?_)
  rw [hs]
  refine wpAny_bind (wpAny_pure ?_)
  rw [if_neg (by decide)]
  refine wpAny_bind (Tuple_ (thn (ha _ pins s σ H _ I h) fun us s1 ⟨vs, H1, I1, r1, q1⟩ => ?_))
  obtain ⟨v, w, e1, q1⟩ := q1
  subst e1
  obtain ⟨u1, u2, rfl, rv, rw'⟩ : ∃ u1 u2, us = [u1, u2] ∧ RelV v u1 ∧ RelV w u2 := by
    cases r1 with
    | cons p q =>
      cases q with
      | cons p' q' =>
        cases q'
        exact ⟨_, _, rfl, p, p'⟩
  refine wpAny_newObj_type ?_ (by show 2 ≤ sizeLine; decide)
  have I2 : Inv X pins σ H1 { s1 with heap := s1.heap.push { cls := .type "tuple", data := .seq [u1, u2].toArray } } := I1.kept (t' := s1.toks) fun b o e => Heap.get?_push_of_some _ e
  rw [hw]
  refine wpAny_bind (wpAny_pure ?_)
  show wpAny (model X.prog X.w) X.A (do rule "assign.swapped-stores"; let items ← unpackItems (.ref s1.heap.objs.size) 2 none; assignInOrder [fun v => bindName X.env y v, fun v => bindName X.env x v] items.reverse; pure Flow.next) _ _ _
  refine wpAny_bind (wpAny_rule (wpAny_bind (unpackItems_tuple (items := #[u1, u2]) (I.ok.hd hc) (IsTup.new s1.heap _) fun h' hx' => ?_)))
  have I3 := I2.kept (h' := h') (t' := s1.toks) fun b o e => hx' b o (Nat.ne_of_lt (Heap.lt_size e)) e
  show wpAny _ _ (assignInOrder [fun v => bindName X.env y v, fun v => bindName X.env x v] [u2, u1] >>= fun _ => pure Flow.next) _ _ _
  refine wpAny_bind (assignInOrder_cons (wpAny_bindName (store_ok I3 hN hj (.inl hy) rw' (fun s2 I4 => ?_) (.inr hy))))
  refine assignInOrder_cons (wpAny_bindName (store_ok I4 hN hi (.inl hx) rv (fun s3 I5 => assignInOrder_nil (wpAny_pure ?_)) (.inr hx)))
  rw [List.set_comm _ _ (Ne.symm hij)] at I5
  exact ⟨_, H1, I5, q1⟩

def tAug (i : Nat) (te : TE) (ti : TIp) : TS := fun D σ H => ∃ x, σ[i]? = some (some x) ∧ te σ H fun y H1 => ti x y H1 fun z H2 => D.nx (σ.set i (some z)) H2
def tAugS (to ti te : TE) (tget : V → V → Hp → VK → Prop) (tip : TIp) (tset : TSet) : TS := fun D σ H => to σ H fun o H1 => ti σ H1 fun i H2 => tget o i H2 fun x H3 => te σ H3 fun y H4 => tip x y H4 fun z H5 => tset o i z H5 fun H6 => D.nx σ H6

structure PGet (X : Cx) (t : V → V → Hp → VK → Prop) : Prop where
  run :
    ∀ (pins : List (Addr × Obj)) (s : Shared) (σ : St) (H : Hp) (o i : V) (ov iv : Value) (Q : VK), Inv X pins σ H s → RelV o ov → RelV i iv → t o i H Q →
      wpAny (model X.prog X.w) X.A (getItem ov iv) (EP X pins σ Q) X.xe s
instance {X : Cx} {t : V → V → Hp → VK → Prop} : CoeFun (PGet X t) (fun _ =>
  ∀ (pins : List (Addr × Obj)) (s : Shared) (σ : St) (H : Hp) (o i : V) (ov iv : Value) (Q : VK), Inv X pins σ H s → RelV o ov → RelV i iv → t o i H Q →
    wpAny (model X.prog X.w) X.A (getItem ov iv) (EP X pins σ Q) X.xe s) := ⟨PGet.run⟩
def ipI (f : Int → Int → Int) : TIp := fun x y H Q => ∃ i j, x = .int i ∧ y = .int j ∧ Q (.int (f i j)) H
end


section
variable {X : Cx} {pos : Pos}

def tWhile (c : TT) (tb : TS) : TS := fun D σ H => ∃ W : Nat → St → Hp → Prop, (∃ m, W m σ H) ∧ ∀ m σ H, W m σ H →
  c σ H fun b H1 => if b = true then ∃ N : St → Hp → Prop, (∀ σ' H', N σ' H' → ∃ m', m' < m ∧ W m' σ' H') ∧ tb { D with nx := N, ct := N, bk := D.nx } σ H1 else D.nx σ H1
end



structure It where
  go : Nat → Hp → Prop
  yld : Nat → Hp → V → Hp → Prop
  stop : Nat → Hp → Prop

def FpOk (X : Cx) (pins : List (Addr × Obj)) (H : Hp) (b : Addr) : Prop :=
  H b = none ∧ b ≠ X.env.locals ∧ b ∉ X.fs ∧ (b ∈ X.ex ∨ X.s_0.heap.objs.size ≤ b) ∧ (∀ x c, X.env.cells.lookup x = some c → c ≠ b) ∧ ∀ p ∈ X.pn ++ pins, p.1 ≠ b
theorem Inv.fpOk {X : Cx} {pins : List (Addr × Obj)} {σ : St} {H H' : Hp} {s : Shared} {b : Addr} (I : Inv X pins σ H s) (hb : s.heap.objs.size ≤ b) (hn : H' b = none) : FpOk X pins H' b := by
  refine ⟨hn, Nat.ne_of_gt (Nat.lt_of_lt_of_le I.lt hb), I.nofs hb, .inr (Nat.le_trans I.sz hb), fun x c e z => ?_, fun p hp z => ?_⟩
  · obtain ⟨v, q⟩ := I.cell x c e
    exact absurd (Nat.lt_of_lt_of_le q.lt (by rw [z]; exact hb)) (Nat.lt_irrefl _)
  · exact absurd (Nat.lt_of_lt_of_le (Heap.lt_size (I.pin p hp).1) (by rw [z]; exact hb)) (Nat.lt_irrefl _)
structure Turn (P : Program) (w : World) (K : PySem.W.Frag) (tg : Expr) (J : It) (fp : List Addr) (it : Addr) (tn : Nat → Heap → Prop) : Prop where
  mem : it ∈ fp
  obj : ∀ i h, tn i h → ∀ b ∈ fp, ∃ o, h.get? b = some o ∧ ∀ v, o.data ≠ .cell v
  keep : ∀ i h h', tn i h → (∀ b ∈ fp, ∀ o, h.get? b = some o → h'.get? b = some o) → tn i h'
  item : ∀ (X : Cx), X.prog = P → X.w = w → X.K = K → X.calm = true → ∀ (i : Nat) (pins : List (Addr × Obj)) (s : Shared) (σ : St) (H : Hp) (E : Value → Shared → Prop), Inv X pins σ H s → (∀ b ∈ fp, FpOk X pins H b) → tn i s.heap → J.go i H →
    wpAny (model P w) X.A (pyNext (.ref it)) (fun r s1 => ∃ u, r = some u ∧
      wpAny (model P w) X.A (letOwnedTupleGo tg (.ref it) u) (fun _ s2 => ∃ x H', Inv X pins σ H' s2 ∧ RelV x u ∧ J.yld i H x H' ∧ tn (i + 1) s2.heap ∧ ∀ b ∈ fp, H' b = none) E s1) E s
  done : ∀ (X : Cx), X.prog = P → X.w = w → X.K = K → X.calm = true → ∀ (i : Nat) (pins : List (Addr × Obj)) (s : Shared) (σ : St) (H : Hp) (E : Value → Shared → Prop), Inv X pins σ H s → (∀ b ∈ fp, FpOk X pins H b) → tn i s.heap → J.stop i H →
    wpAny (model P w) X.A (pyNext (.ref it)) (fun r s1 => r = none ∧ Inv X pins σ H s1) E s
  self : ∀ (A : Around) (i : Nat) (s : Shared) (Q : Value → Shared → Prop) (E : Value → Shared → Prop), tn i s.heap → Q (.ref it) s → wpAny (model P w) A (pyIter (.ref it)) Q E s
abbrev TI := St → Hp → (It → Hp → Prop) → Prop

def PIE (X : Cx) (pins : List (Addr × Obj)) (σ : St) (tg : Expr) (R : It → Hp → Prop) (itv : Value) (s2 : Shared) : Prop :=
  ∃ (it : Addr) (fp : List Addr) (tn : Nat → Heap → Prop) (J : It) (H' : Hp), itv = .ref it ∧ Inv X pins σ H' s2 ∧ Turn X.prog X.w X.K tg J fp it tn ∧ tn 0 s2.heap ∧ (∀ b ∈ fp, FpOk X pins H' b) ∧ R J H'
structure PI (X : Cx) (tg iter : Expr) (wi : TI) : Prop where
  run :
    ∀ (pins : List (Addr × Obj)) (s : Shared) (σ : St) (H : Hp) (R : It → Hp → Prop), Inv X pins σ H s → wi σ H R →
      wpAny (model X.prog X.w) X.A (eval iter X.env) (fun v s1 => wpAny (model X.prog X.w) X.A (pyIter v) (PIE X pins σ tg R) X.xe s1) X.xe s
instance {X : Cx} {tg iter : Expr} {wi : TI} : CoeFun (PI X tg iter wi) (fun _ =>
  ∀ (pins : List (Addr × Obj)) (s : Shared) (σ : St) (H : Hp) (R : It → Hp → Prop), Inv X pins σ H s → wi σ H R →
    wpAny (model X.prog X.w) X.A (eval iter X.env) (fun v s1 => wpAny (model X.prog X.w) X.A (pyIter v) (PIE X pins σ tg R) X.xe s1) X.xe s) := ⟨PI.run⟩


theorem go_of {M : Model} {A : Around} {E : Value → Shared → Prop} {s : Shared} {tg : Expr} {it : Addr} {u : Value} {o : Obj} {n : String} {vs : Array Value} {Q : Unit → Shared → Prop} (ho : s.heap.get? it = some o) (hc : o.cls = .type n) (hd : o.data = .fields vs)
    (hn : ["enumerate", "zip", "dict_itemiterator", "dict_reverseitemiterator", "odict_iterator", "itertools.zip_longest", "itertools.pairwise"].contains n = false) (hQ : Q () s) : wpAny M A (letOwnedTupleGo tg (.ref it) u) Q E s := by
  unfold letOwnedTupleGo
  cases tg <;> first
    | exact wpAny_pure hQ
    | (cases u <;> first
        | exact wpAny_pure hQ
        | (refine wpAny_bind (wpAny_load ho ?_)
           rw [hc, hd]
           show wpAny M A (if (["enumerate", "zip", "dict_itemiterator", "dict_reverseitemiterator", "odict_iterator", "itertools.zip_longest", "itertools.pairwise"].contains n && vs[0]? == some (rawInt _)) = true then _ else _) Q E s
           rw [if_neg (by intro h; rw [hn, Bool.false_and] at h; cases h)]
           exact wpAny_pure hQ))


def Itl (K : PySem.W.Frag) (a : Addr) : It :=
  ⟨fun i H => ∃ xs x, SqL K H a xs ∧ xs[i]? = some x, fun i H x H' => H' = H ∧ ∀ xs, SqL K H a xs → xs[i]? = some x, fun i H => ∃ xs, SqL K H a xs ∧ xs.length ≤ i⟩
def Itt (K : PySem.W.Frag) (a : Addr) : It :=
  ⟨fun i H => ∃ xs x, SqT K H a xs ∧ xs[i]? = some x, fun i H x H' => H' = H ∧ ∀ xs, SqT K H a xs → xs[i]? = some x, fun i H => ∃ xs, SqT K H a xs ∧ xs.length ≤ i⟩

def Itr (lo : Int) (n : Nat) : It := ⟨fun i _ => i < n, fun i H x H' => H' = H ∧ x = .int (lo + i), fun i _ => n ≤ i⟩
theorem turn_list {P : Program} {w : World} {K : PySem.W.Frag} {tg : Expr} (a it : Addr) : Turn P w K tg (Itl K a) [it] it (fun i h => h.IsListIter it a i) where
  mem := by simp
  obj := fun i h st b hb => by
    have e : b = it := by simpa using hb
    subst e
    obtain ⟨o, e, c, d⟩ := st
    exact ⟨o, e, fun v z => by rw [d] at z; cases z⟩
  keep := fun i h h' st k => st.at fun o e => k it (by simp) o e
  item := by
    intro X hP hw hK hc i pins s σ H E I hf st hg
    subst hP hw hK
    obtain ⟨xs, x, hq, hx⟩ := hg
    obtain ⟨its, rv, p, hz⟩ := I.list hq
    obtain ⟨u, hu, ru⟩ := rv.get hx
    obtain ⟨f0, f1, f2, f3, f4, f5⟩ := hf it (by simp)
    refine wpAny_pyNext_list_item st p.isList (x := u) (by simpa using hu) fun h' st' sb => ?_
    have I1 : Inv X pins σ H { s with heap := h' } := I.turned (t' := s.toks) (fun b o hb e => (sb.2 b hb).trans e) f0 f1 f3 f4 f5
    obtain ⟨o, e, c, d⟩ := id st'
    exact ⟨u, rfl, go_of (s := { s with heap := h' }) e c d (by decide) ⟨x, H, I1, ru, ⟨rfl, fun ys hy => by rw [I.list_inj hy hq]; exact hx⟩, st', fun b hb => (hf b hb).1⟩⟩
  done := by
    intro X hP hw hK hc i pins s σ H E I hf st hg
    subst hP hw hK
    obtain ⟨xs, hq, hx⟩ := hg
    obtain ⟨its, rv, p, hz⟩ := I.list hq
    obtain ⟨f0, f1, f2, f3, f4, f5⟩ := hf it (by simp)
    have hl := rv.length
    exact wpAny_pyNext_list_end (I.ok.hd hc) st p.isList (by simp; omega) fun h' eb => ⟨rfl, I.turned (t' := s.toks) (fun b o hb e => eb b o hb e) f0 f1 f3 f4 f5⟩
  self := fun _ _ _ _ _ st h => wpAny_pyIter_listiter st h
theorem turn_tuple {P : Program} {w : World} {K : PySem.W.Frag} {tg : Expr} (a it : Addr) : Turn P w K tg (Itt K a) [it] it (fun i h => h.IsTupleIter it a i) where
  mem := by simp
  obj := fun i h st b hb => by
    have e : b = it := by simpa using hb
    subst e
    obtain ⟨o, e, c, d⟩ := st
    exact ⟨o, e, fun v z => by rw [d] at z; cases z⟩
  keep := fun i h h' st k => st.at fun o e => k it (by simp) o e
  item := by
    intro X hP hw hK hc i pins s σ H E I hf st hg
    subst hP hw hK
    obtain ⟨xs, x, hq, hx⟩ := hg
    obtain ⟨its, rv, p, hz⟩ := I.tuple hq
    obtain ⟨u, hu, ru⟩ := rv.get hx
    obtain ⟨f0, f1, f2, f3, f4, f5⟩ := hf it (by simp)
    refine wpAny_pyNext_tuple_item st (show s.heap.IsTuple a its.toArray from p) (x := u) (by simpa using hu) fun h' st' sb => ?_
    have I1 : Inv X pins σ H { s with heap := h' } := I.turned (t' := s.toks) (fun b o hb e => (sb.2 b hb).trans e) f0 f1 f3 f4 f5
    obtain ⟨o, e, c, d⟩ := id st'
    exact ⟨u, rfl, go_of (s := { s with heap := h' }) e c d (by decide) ⟨x, H, I1, ru, ⟨rfl, fun ys hy => by rw [I.tuple_inj hy hq]; exact hx⟩, st', fun b hb => (hf b hb).1⟩⟩
  done := by
    intro X hP hw hK hc i pins s σ H E I hf st hg
    subst hP hw hK
    obtain ⟨xs, hq, hx⟩ := hg
    obtain ⟨its, rv, p, hz⟩ := I.tuple hq
    obtain ⟨f0, f1, f2, f3, f4, f5⟩ := hf it (by simp)
    have hl := rv.length
    exact wpAny_pyNext_tuple_end (I.ok.hd hc) st (show s.heap.IsTuple a its.toArray from p) (by simp; omega) fun h' eb => ⟨rfl, I.turned (t' := s.toks) (fun b o hb e => eb b o hb e) f0 f1 f3 f4 f5⟩
  self := fun _ _ _ _ _ st h => wpAny_pyIter_tupleiter st h
theorem turn_range {P : Program} {w : World} {K : PySem.W.Frag} {tg : Expr} (it : Addr) (lo : Int) (n : Nat) : Turn P w K tg (Itr lo n) [it] it (fun i h => IsRangeIter h it (lo + (i : Nat) * 1) ((n : Int) - (i : Nat)) 1) where
  mem := by simp
  obj := fun i h st b hb => by
    have e : b = it := by simpa using hb
    subst e
    exact ⟨_, st, fun v z => by
      have z' : Data.fields _ = Data.cell v := z
      cases z'⟩
  keep := fun i h h' st k => k it (by simp) _ st
  item := by
    intro X hP hw hK hc i pins s σ H E I hf st hg
    subst hP hw hK
    obtain ⟨f0, f1, f2, f3, f4, f5⟩ := hf it (by simp)
    have W := Walks.range (prog := X.prog) (w := X.w) (I.ok.hd hc) it lo 1 n
    refine W.item i s _ _ hg st fun v h' tk hv st' kk => ?_
    obtain ⟨t, rfl⟩ := hv
    have I1 : Inv X pins σ H { s with heap := h', toks := tk } := I.turned (fun b o hb e => kk b o (by simpa using hb) e) f0 f1 f3 f4 f5
    refine ⟨_, rfl, go_of (s := { s with heap := h', toks := tk }) (n := "range_iterator") st' rfl rfl (by decide) ⟨.int (lo + i), H, I1, ⟨t, ?_⟩, ⟨rfl, rfl⟩, st', fun b hb => (hf b hb).1⟩⟩
    rw [Int.mul_one]
  done := by
    intro X hP hw hK hc i pins s σ H E I hf st hg
    subst hP hw hK
    obtain ⟨f0, f1, f2, f3, f4, f5⟩ := hf it (by simp)
    exact wpAny_pyNext_range_end (I.ok.hd hc) st (by have : n ≤ i := hg; omega) fun h' eb => ⟨rfl, I.turned (t' := s.toks) (fun b o hb e => eb b o hb e) f0 f1 f3 f4 f5⟩
  self := fun _ _ _ _ _ st h => wpAny_pyIter_rangeiter st h
end L2

namespace L2
open PySem PySem.Spec PyProof.Rows
section
variable {X : Cx} {tg : Expr}
def iList (K : PySem.W.Frag) (tl : TE) : TI := fun σ H R => tl σ H fun x H1 => ∃ a, x = .ref a ∧ (∃ xs, SqL K H1 a xs) ∧ R (Itl K a) H1
def iTup (K : PySem.W.Frag) (tl : TE) : TI := fun σ H R => tl σ H fun x H1 => ∃ a, x = .ref a ∧ (∃ xs, SqT K H1 a xs) ∧ R (Itt K a) H1
theorem pi_list {l : Expr} {tl : TE} (hl : PE X l tl) : PI X tg l (iList X.K tl) := by
  constructor
  intro pins s σ H R I h
  refine thn (hl pins s σ H _ I h) fun v s1 ⟨x, H1, I1, r1, q1⟩ => ?_
  obtain ⟨a, e, ⟨xs, hq⟩, q⟩ := q1
  subst e
  cases r1
  obtain ⟨its, rv, p, hz⟩ := I1.list hq
  refine wpAny_pyIter_list p.isList ?_
  refine ⟨s1.heap.objs.size, [s1.heap.objs.size], _, _, H1, rfl, I1.kept (t' := s1.toks) fun b o e => Heap.get?_push_of_some _ e, turn_list a _, ⟨_, Heap.get?_push_size _ rfl, rfl, rfl⟩, fun b hb => ?_, q⟩
  have e : b = s1.heap.objs.size := by simpa using hb
  subst e
  exact I1.fpOk (Nat.le_refl _) (I1.hok.fresh (Nat.le_refl _))
theorem pi_tup {l : Expr} {tl : TE} (hl : PE X l tl) : PI X tg l (iTup X.K tl) := by
  constructor
  intro pins s σ H R I h
  refine thn (hl pins s σ H _ I h) fun v s1 ⟨x, H1, I1, r1, q1⟩ => ?_
  obtain ⟨a, e, ⟨xs, hq⟩, q⟩ := q1
  subst e
  cases r1
  obtain ⟨its, rv, p, hz⟩ := I1.tuple hq
  refine wpAny_pyIter_tuple (show s1.heap.IsTuple a its.toArray from p) ?_
  refine ⟨s1.heap.objs.size, [s1.heap.objs.size], _, _, H1, rfl, I1.kept (t' := s1.toks) fun b o e => Heap.get?_push_of_some _ e, turn_tuple a _, ⟨_, Heap.get?_push_size _ rfl, rfl, rfl⟩, fun b hb => ?_, q⟩
  have e : b = s1.heap.objs.size := by simpa using hb
  subst e
  exact I1.fpOk (Nat.le_refl _) (I1.hok.fresh (Nat.le_refl _))

theorem range_it {pins : List (Addr × Obj)} {σ : St} {H : Hp} {s : Shared} {R : It → Hp → Prop} {E : Value → Shared → Prop} {lo hi : Int} {t u v : Tok} {tk : Nat} (I : Inv X pins σ H s) (h1 : -(2 ^ 62) ≤ lo) (h2 : lo < 2 ^ 62) (h3 : -(2 ^ 62) ≤ hi) (h4 : hi < 2 ^ 62)
    (q : R (Itr lo (hi - lo).toNat) H) : wpAny (model X.prog X.w) X.A (pyIter (.ref s.heap.objs.size)) (PIE X pins σ tg R) E { s with heap := s.heap.push { cls := .type "range", data := .fields #[.int lo t, .int hi u, .int 1 v] }, toks := tk } := by
  refine wpAny_pyIter_range (IsRange.new ..) (small_one h1 h2 h3 h4) ?_
  have I1 : Inv X pins σ H { s with heap := s.heap.push { cls := .type "range", data := .fields #[.int lo t, .int hi u, .int 1 v] }, toks := tk } := I.kept fun b o e => Heap.get?_push_of_some _ e
  refine ⟨(s.heap.push { cls := .type "range", data := .fields #[.int lo t, .int hi u, .int 1 v] }).objs.size, [(s.heap.push { cls := .type "range", data := .fields #[.int lo t, .int hi u, .int 1 v] }).objs.size], _, _, H, rfl,
    I1.kept (t' := tk) fun b o e => Heap.get?_push_of_some _ e, turn_range _ lo (hi - lo).toNat, ?_, fun b hb => ?_, q⟩
  · have e1 : lo + ((0 : Nat) : Int) * 1 = lo := by simp
    have e2 : (((hi - lo).toNat : Nat) : Int) - ((0 : Nat) : Int) = Builtin.Range.rangeSize lo hi 1 := by rw [rangeSize_one]; split <;> omega
    show IsRangeIter _ _ (lo + ((0 : Nat) : Int) * 1) ((((hi - lo).toNat : Nat) : Int) - ((0 : Nat) : Int)) 1
    rw [e1, e2]
    exact Heap.get?_push_size _ rfl
  · have e : b = (s.heap.push { cls := .type "range", data := .fields #[.int lo t, .int hi u, .int 1 v] }).objs.size := by simpa using hb
    subst e
    exact I1.fpOk (Nat.le_refl _) (I1.hok.fresh (Nat.le_refl _))
def iRng1 (ta : TA) : TI := fun σ H R => ta σ H fun vs H1 => ∃ j : Int, vs = [.int j] ∧ -(2 ^ 62) ≤ j ∧ j < 2 ^ 62 ∧ R (Itr 0 j.toNat) H1
def iRng2 (ta : TA) : TI := fun σ H R => ta σ H fun vs H1 => ∃ i j : Int, vs = [.int i, .int j] ∧ (-(2 ^ 62) ≤ i ∧ i < 2 ^ 62 ∧ -(2 ^ 62) ≤ j ∧ j < 2 ^ 62) ∧ R (Itr i (j - i).toNat) H1
theorem pi_range1 {a : Expr} {ta : TA} {p pos : Pos} (hg : Gl X "range") (hm : X.mg "range" = none) (ha : PA X [a] ta) (hs : starEach [a] X.env = [(false, eval a X.env)] := by rfl) : PI X tg (.Call (.Name "range" p) [a] [] pos) (iRng1 ta) := by
  constructor
  intro pins s σ H R I h
  refine Call_ (ld_blt I hg hm boot_range (PyProof.Rows.callWith_type1 (thn (ha pos pins s σ H _ I h) fun us s1 ⟨vs, H1, I1, r1, q1⟩ => ?_) hs rfl))
  obtain ⟨j, e, q1, q2, q⟩ := q1
  subst e
  cases r1 with
  | cons r rr =>
    cases rr
    obtain ⟨t, rfl⟩ := r
    exact call_range_1 (range_it I1 (by omega) (by omega) q1 q2 (by simpa using q))
def tFor (wi : TI) (g : TG) (tb : TS) : TS := fun D σ H => wi σ H fun J H1 => ∃ W : Nat → Nat → St → Hp → Prop, (∃ m, W 0 m σ H1) ∧ ∀ i m σ H, W i m σ H →
  (J.stop i H ∧ D.nx σ H) ∨ (J.go i H ∧ ∃ N : St → Hp → Prop, (∀ σ' H', N σ' H' → ∃ m', m' < m ∧ W (i + 1) m' σ' H') ∧ ∀ x H', J.yld i H x H' → g x σ H' fun σ2 H2 => tb { D with nx := N, ct := N, bk := D.nx } σ2 H2)

def pinsAt (fp : List Addr) (h : Heap) : List (Addr × Obj) := fp.filterMap fun b => (h.get? b).map fun o => (b, o)
theorem mem_pinsAt {fp : List Addr} {h : Heap} {b : Addr} {o : Obj} (hb : b ∈ fp) (e : h.get? b = some o) : (b, o) ∈ pinsAt fp h := List.mem_filterMap.mpr ⟨b, hb, by rw [e]; rfl⟩
theorem of_pinsAt {fp : List Addr} {h : Heap} {p : Addr × Obj} (hp : p ∈ pinsAt fp h) : p.1 ∈ fp ∧ h.get? p.1 = some p.2 := by
  obtain ⟨b, hb, e⟩ := List.mem_filterMap.mp hp
  cases q : h.get? b with
  | none => rw [q] at e; cases e
  | some o =>
    rw [q] at e
    have e' : (b, o) = p := Option.some.inj e
    subst e'
    exact ⟨hb, q⟩
theorem Inv.pinned {pins : List (Addr × Obj)} {σ : St} {H : Hp} {s : Shared} {fp : List Addr} (I : Inv X pins σ H s) (hf : ∀ b ∈ fp, FpOk X pins H b) (ho : ∀ b ∈ fp, ∃ o, s.heap.get? b = some o ∧ ∀ v, o.data ≠ .cell v) : Inv X (pins ++ pinsAt fp s.heap) σ H s :=
  I.pins_of fun p hp => (List.mem_append.mp hp).elim (fun z => I.pin p (List.mem_append_right _ z)) fun z => by
    obtain ⟨hb, e⟩ := of_pinsAt z
    obtain ⟨f0, f1, f2, _⟩ := hf p.1 hb
    obtain ⟨o, e', d⟩ := ho p.1 hb
    rw [e] at e'; cases e'
    exact ⟨e, f0, f1, f2, d⟩
theorem Inv.unpinned {pins pl : List (Addr × Obj)} {σ : St} {H : Hp} {s : Shared} (I : Inv X (pins ++ pl) σ H s) : Inv X pins σ H s := I.pins_of fun p hp => I.pin p (List.mem_append_right _ (List.mem_append_left _ hp))
theorem ps_for {iter : Expr} {body : List Stmt} {wi : TI} {g : TG} {tb : TS} {pos : Pos} (hp : PassesOwn (model X.prog X.w) X.A X.env X.xe) (hc : X.calm = true) (hi : PI X tg iter wi) (hg : PG X tg g) (hb : PSs X body tb)
    (hs : ∀ x, foldedSetIterable iter X.env x = pure x := by intro _; rfl) : PS X (.For tg iter body [] pos) (tFor wi g tb) := by
  constructor
  intro pins s σ H D I h
  refine wpAny_For (thn (hi pins s σ H _ I h) fun v s1 h1 => thn h1 fun itv s2 h2 => ?_) hs
  obtain ⟨it, fp, tn, J, H2, e, I2, T, st2, f2, W, ⟨m0, w0⟩, turn⟩ := h2
  subst e
  -- what stays true of the iterator's objects through the loop
  have stat : ∀ {H' : Hp}, (∀ b ∈ fp, H' b = none) → ∀ b ∈ fp, FpOk X pins H' b := fun hn b hb => ⟨hn b hb, (f2 b hb).2⟩
  refine codeAny_forLoop_any (fun n s' => ∃ i σ' H', Inv X pins σ' H' s' ∧ tn i s'.heap ∧ (∀ b ∈ fp, H' b = none) ∧ W i n σ' H') ?_ m0 ⟨0, σ, H2, I2, st2, fun b hb => (f2 b hb).1, w0⟩
  rintro n s3 ⟨i, σ3, H3, I3, st3, fr3, w3⟩
  rcases turn i n σ3 H3 w3 with ⟨stop, qn⟩ | ⟨go, N, hN, step⟩
  · refine wpAny_passesOwn hp (thn (T.done X rfl rfl rfl hc i pins s3 σ3 H3 X.xe I3 (stat fr3) st3 stop) fun r s4 ⟨hr, I4⟩ => ?_)
    subst hr
    exact wpAny_execs_nil ⟨σ3, H3, I4, qn⟩
  · refine wpAny_passesOwn hp (thn (T.item X rfl rfl rfl hc i pins s3 σ3 H3 X.xe I3 (stat fr3) st3 go) fun r s4 ⟨u, hr, h4⟩ => ?_)
    subst hr
    refine wpAny_passesOwn hp (thn h4 fun _ s5 ⟨x, H5, I5, r5, y5, st5, fr5⟩ => ?_)
    have I5' := I5.pinned (stat fr5) (T.obj _ _ st5)
    refine wpAny_passesOwn hp (thn (hg _ s5 σ3 H5 x u _ I5' r5 (step x H5 y5)) fun _ s6 ⟨σ6, H6, I6, q6⟩ => ?_)
    refine wpAny_passesOwn hp (thn (hb _ s6 σ6 H6 _ I6 q6) fun f s7 q7 => ?_)
    have again : ∀ {σ7 : St} {H7 : Hp}, Inv X (pins ++ pinsAt fp s5.heap) σ7 H7 s7 → N σ7 H7 → ∃ m, m < n ∧ ∃ i σ' H', Inv X pins σ' H' s7 ∧ tn i s7.heap ∧ (∀ b ∈ fp, H' b = none) ∧ W i m σ' H' := fun {σ7 H7} I7 n7 => by
      obtain ⟨m', hm, w7⟩ := hN σ7 H7 n7
      refine ⟨m', hm, i + 1, σ7, H7, I7.unpinned, T.keep _ _ _ st5 fun b hb o e => (I7.pin (b, o) (List.mem_append_right _ (List.mem_append_right _ (mem_pinsAt hb e)))).1, fun b hb => ?_, w7⟩
      obtain ⟨o, e, d⟩ := T.obj _ _ st5 b hb
      exact (I7.pin (b, o) (List.mem_append_right _ (List.mem_append_right _ (mem_pinsAt hb e)))).2.1
    cases f with
    | next => obtain ⟨σ7, H7, I7, n7⟩ := q7; exact again I7 n7
    | cont => obtain ⟨σ7, H7, I7, n7⟩ := q7; exact again I7 n7
    | brk => obtain ⟨σ7, H7, I7, q7⟩ := q7; exact ⟨σ7, H7, I7.unpinned, q7⟩
    | ret v => obtain ⟨x7, σ7, H7, I7, r7, q7⟩ := q7; exact ⟨x7, σ7, H7, I7.unpinned, r7, q7⟩
end



theorem for_list {K : PySem.W.Frag} {a : Addr} {xs : List V} {g : TG} {tb : TS} {D : Ends} {σ : St} {H : Hp} (Pv : Nat → St → Hp → Prop) (h0 : Pv 0 σ H) (hl : ∀ i σ H, i ≤ xs.length → Pv i σ H → SqL K H a xs)
    (hs : ∀ i x σ H, xs[i]? = some x → Pv i σ H → g x σ H fun σ2 H2 => tb { D with nx := Pv (i + 1), ct := Pv (i + 1), bk := D.nx } σ2 H2) (hd : ∀ σ H, Pv xs.length σ H → D.nx σ H) :
    ∃ W : Nat → Nat → St → Hp → Prop, (∃ m, W 0 m σ H) ∧ ∀ i m σ H, W i m σ H →
      ((Itl K a).stop i H ∧ D.nx σ H) ∨ ((Itl K a).go i H ∧ ∃ N : St → Hp → Prop, (∀ σ' H', N σ' H' → ∃ m', m' < m ∧ W (i + 1) m' σ' H') ∧ ∀ x H', (Itl K a).yld i H x H' → g x σ H' fun σ2 H2 => tb { D with nx := N, ct := N, bk := D.nx } σ2 H2) := by
  refine ⟨fun i m σ H => m = xs.length - i ∧ i ≤ xs.length ∧ Pv i σ H, ⟨xs.length, by simp, Nat.zero_le _, h0⟩, ?_⟩
  rintro i m σ H ⟨rfl, hi, p⟩
  have q := hl i σ H hi p
  by_cases hlt : i < xs.length
  · refine .inr ⟨⟨xs, xs[i], q, by simp [hlt]⟩, Pv (i + 1), fun σ' H' p' => ⟨xs.length - (i + 1), by omega, rfl, hlt, p'⟩, fun x H' y => ?_⟩
    obtain ⟨e, y⟩ := y
    subst e
    exact hs i x σ _ (y xs q) p
  · have e : i = xs.length := by omega
    subst e
    exact .inl ⟨⟨xs, q, Nat.le_refl _⟩, hd σ H p⟩
theorem for_range {lo : Int} {n : Nat} {g : TG} {tb : TS} {D : Ends} {σ : St} {H : Hp} (Pv : Nat → St → Hp → Prop) (h0 : Pv 0 σ H)
    (hs : ∀ i σ H, i < n → Pv i σ H → g (.int (lo + i)) σ H fun σ2 H2 => tb { D with nx := Pv (i + 1), ct := Pv (i + 1), bk := D.nx } σ2 H2) (hd : ∀ σ H, Pv n σ H → D.nx σ H) :
    ∃ W : Nat → Nat → St → Hp → Prop, (∃ m, W 0 m σ H) ∧ ∀ i m σ H, W i m σ H →
      ((Itr lo n).stop i H ∧ D.nx σ H) ∨ ((Itr lo n).go i H ∧ ∃ N : St → Hp → Prop, (∀ σ' H', N σ' H' → ∃ m', m' < m ∧ W (i + 1) m' σ' H') ∧ ∀ x H', (Itr lo n).yld i H x H' → g x σ H' fun σ2 H2 => tb { D with nx := N, ct := N, bk := D.nx } σ2 H2) := by
  refine ⟨fun i m σ H => m = n - i ∧ i ≤ n ∧ Pv i σ H, ⟨n, by simp, Nat.zero_le _, h0⟩, ?_⟩
  rintro i m σ H ⟨rfl, hi, p⟩
  by_cases hlt : i < n
  · refine .inr ⟨hlt, Pv (i + 1), fun σ' H' p' => ⟨n - (i + 1), by omega, rfl, hlt, p'⟩, fun x H' y => ?_⟩
    obtain ⟨e, y⟩ := y
    subst e y
    exact hs i σ _ hlt p
  · have e : i = n := by omega
    subst e
    exact .inl ⟨Nat.le_refl _, hd σ H p⟩

end L2

namespace L2
open PySem PySem.Spec PyProof.Rows

abbrev R2 := V → V → Hp → VK → Prop

structure OpR (X : Cx) (f : Value → Value → Sem Value) (r : R2) : Prop where
  run :
    ∀ (pins : List (Addr × Obj)) (s : Shared) (σ : St) (H : Hp) (x y : V) (v u : Value) (Q : VK), Inv X pins σ H s → RelV x v → RelV y u → r x y H Q →
      wpAny (model X.prog X.w) X.A (f v u) (EP X pins σ Q) X.xe s
instance {X : Cx} {f : Value → Value → Sem Value} {r : R2} : CoeFun (OpR X f r) (fun _ =>
  ∀ (pins : List (Addr × Obj)) (s : Shared) (σ : St) (H : Hp) (x y : V) (v u : Value) (Q : VK), Inv X pins σ H s → RelV x v → RelV y u → r x y H Q →
    wpAny (model X.prog X.w) X.A (f v u) (EP X pins σ Q) X.xe s) := ⟨OpR.run⟩

structure UnR (X : Cx) (f : Value → Sem Value) (r : V → Hp → VK → Prop) : Prop where
  run :
    ∀ (pins : List (Addr × Obj)) (s : Shared) (σ : St) (H : Hp) (x : V) (v : Value) (Q : VK), Inv X pins σ H s → RelV x v → r x H Q →
      wpAny (model X.prog X.w) X.A (f v) (EP X pins σ Q) X.xe s
instance {X : Cx} {f : Value → Sem Value} {r : V → Hp → VK → Prop} : CoeFun (UnR X f r) (fun _ =>
  ∀ (pins : List (Addr × Obj)) (s : Shared) (σ : St) (H : Hp) (x : V) (v : Value) (Q : VK), Inv X pins σ H s → RelV x v → r x H Q →
    wpAny (model X.prog X.w) X.A (f v) (EP X pins σ Q) X.xe s) := ⟨UnR.run⟩

structure CallR (X : Cx) (f : Value) (r : List V → Hp → VK → Prop) : Prop where
  run :
    ∀ (pins : List (Addr × Obj)) (s : Shared) (σ : St) (H : Hp) (xs : List V) (us : List Value) (Q : VK), Inv X pins σ H s → Vals xs us → r xs H Q →
      wpAny (model X.prog X.w) X.A (call f us) (EP X pins σ Q) X.xe s
instance {X : Cx} {f : Value} {r : List V → Hp → VK → Prop} : CoeFun (CallR X f r) (fun _ =>
  ∀ (pins : List (Addr × Obj)) (s : Shared) (σ : St) (H : Hp) (xs : List V) (us : List Value) (Q : VK), Inv X pins σ H s → Vals xs us → r xs H Q →
    wpAny (model X.prog X.w) X.A (call f us) (EP X pins σ Q) X.xe s) := ⟨CallR.run⟩

def TruR (X : Cx) (r : V → Hp → (Bool → Hp → Prop) → Prop) : Prop :=
  ∀ (pins : List (Addr × Obj)) (s : Shared) (σ : St) (H : Hp) (x : V) (v : Value) (Q : Bool → Hp → Prop), Inv X pins σ H s → RelV x v → r x H Q →
    wpAny (model X.prog X.w) X.A (truthy v) (TP X pins σ Q) X.xe s

def tOp (r : R2) (ta tb : TE) : TE := fun σ H Q => ta σ H fun x H1 => tb σ H1 fun y H2 => r x y H2 Q
def tUn (r : V → Hp → VK → Prop) (ta : TE) : TE := fun σ H Q => ta σ H fun x H1 => r x H1 Q

def rI (C : Int → Int → Prop) (g : Int → Int → V) : R2 := fun x y H Q => ∃ i j, x = .int i ∧ y = .int j ∧ C i j ∧ Q (g i j) H
def rI0 (g : Int → Int → V) : R2 := fun x y H Q => ∃ i j, x = .int i ∧ y = .int j ∧ Q (g i j) H
def rU (g : Int → V) : V → Hp → VK → Prop := fun x H Q => ∃ i, x = .int i ∧ Q (g i) H

section
variable {X : Cx} {a b c : Expr} {ta tb tc : TE} {pos : Pos}

theorem binT (ha : PE X a ta) (hb : PE X b tb) {pins : List (Addr × Obj)} {s : Shared} {σ : St} {H : Hp} {R : V → V → Hp → Prop} (I : Inv X pins σ H s)
    (h : ta σ H fun x H1 => tb σ H1 fun y H2 => R x y H2) {Q : Value → Shared → Prop} {f : Value → Value → Sem Value}
    (hf : ∀ v u s2 x y H2, Inv X pins σ H2 s2 → RelV x v → RelV y u → R x y H2 → wpAny (model X.prog X.w) X.A (f v u) Q X.xe s2) :
    wpAny (model X.prog X.w) X.A (eval a X.env) (fun v s₁ => wpAny (model X.prog X.w) X.A (eval b X.env) (fun u s₂ => wpAny (model X.prog X.w) X.A (f v u) Q X.xe s₂) X.xe s₁) X.xe s := by
  refine thn (ha pins s σ H _ I h) fun v s1 ⟨x, H1, I1, r1, q1⟩ => ?_
  refine thn (hb pins s1 σ H1 _ I1 q1) fun u s2 ⟨y, H2, I2, r2, q2⟩ => ?_
  exact hf v u s2 x y H2 I2 r1 r2 q2

theorem pe_op {op : Operator} {r : R2} (ho : OpR X (binaryOp op) r) (ha : PE X a ta) (hb : PE X b tb) : PE X (.BinOp a op b pos) (tOp r ta tb) := by
  constructor
  intro pins s σ H Q I h
  exact wpAny_BinOp (binT ha hb I h fun v u s2 x y H2 I2 rx ry q => ho pins s2 σ H2 x y v u Q I2 rx ry q)
theorem pe_un {op : UnaryOp} {r : V → Hp → VK → Prop} (ho : UnR X (unaryOp op) r) (ha : PE X a ta) : PE X (.UnaryOp op a pos) (tUn r ta) := by
  constructor
  intro pins s σ H Q I h
  exact UnaryOp_ (thn (ha pins s σ H _ I h) fun v s1 ⟨x, H1, I1, r1, q1⟩ => ho pins s1 σ H1 x v Q I1 r1 q1)

theorem opI {f : Value → Value → Sem Value} {C : Int → Int → Prop} {g : Int → Int → Int}
    (rule : ∀ (i j : Int) (t u : Tok) (s : Shared) (Q : Value → Shared → Prop) (E : Value → Shared → Prop), C i j → Q (.int (g i j) s.toks) { s with toks := s.toks + 1 } → wpAny (model X.prog X.w) X.A (f (.int i t) (.int j u)) Q E s) :
    OpR X f (rI C fun i j => .int (g i j)) := by
  constructor
  intro pins s σ H x y v u Q I rx ry h
  obtain ⟨i, j, rfl, rfl, hc, q⟩ := h
  obtain ⟨t, rfl⟩ := rx
  obtain ⟨t', rfl⟩ := ry
  exact rule i j t t' s _ _ hc ⟨.int (g i j), H, I.tok _, ⟨_, rfl⟩, q⟩
theorem opI0 {f : Value → Value → Sem Value} {g : Int → Int → Int}
    (rule : ∀ (i j : Int) (t u : Tok) (s : Shared) (Q : Value → Shared → Prop) (E : Value → Shared → Prop), Q (.int (g i j) s.toks) { s with toks := s.toks + 1 } → wpAny (model X.prog X.w) X.A (f (.int i t) (.int j u)) Q E s) :
    OpR X f (rI0 fun i j => .int (g i j)) := by
  constructor
  intro pins s σ H x y v u Q I rx ry h
  obtain ⟨i, j, rfl, rfl, q⟩ := h
  obtain ⟨t, rfl⟩ := rx
  obtain ⟨t', rfl⟩ := ry
  exact rule i j t t' s _ _ ⟨.int (g i j), H, I.tok _, ⟨_, rfl⟩, q⟩
theorem opB0 {f : Value → Value → Sem Value} {g : Int → Int → Bool}
    (rule : ∀ (i j : Int) (t u : Tok) (s : Shared) (Q : Value → Shared → Prop) (E : Value → Shared → Prop), Q (.bool (g i j)) s → wpAny (model X.prog X.w) X.A (f (.int i t) (.int j u)) Q E s) :
    OpR X f (rI0 fun i j => .bl (g i j)) := by
  constructor
  intro pins s σ H x y v u Q I rx ry h
  obtain ⟨i, j, rfl, rfl, q⟩ := h
  obtain ⟨t, rfl⟩ := rx
  obtain ⟨t', rfl⟩ := ry
  exact rule i j t t' s _ _ ⟨.bl (g i j), H, I, rfl, q⟩

def CDiv (i j : Int) : Prop := 0 < j ∧ j < 1073741824
def CDivN (i j : Int) : Prop := j ≠ 0 ∧ j.natAbs < 1073741824
def CPow (i j : Int) : Prop := 0 ≤ j ∧ j ≤ 1000000 ∧ i.natAbs < 2 ^ 64
def CMul (i j : Int) : Prop := (-(2 ^ 64) < i ∧ i < 2 ^ 64) ∨ (-(2 ^ 64) < j ∧ j < 2 ^ 64)
theorem CMul.ok {i j : Int} (h : CMul i j) : IntMulOk i j := by
  rcases h with ⟨h1, h2⟩ | ⟨h1, h2⟩
  · exact .of_left (intBits_le_64 h1 h2)
  · exact .of_right (intBits_le_64 h1 h2)
theorem op_add : OpR X (binaryOp .Add) (rI0 fun i j => .int (i + j)) := opI0 fun _ _ _ _ _ _ _ q => add_int q
theorem op_sub : OpR X (binaryOp .Sub) (rI0 fun i j => .int (i - j)) := opI0 fun _ _ _ _ _ _ _ q => sub_int q
theorem op_mul : OpR X (binaryOp .Mult) (rI CMul fun i j => .int (i * j)) := opI fun _ _ _ _ _ _ _ hc q => mul_int q hc.ok

theorem op_fdiv : OpR X (binaryOp .FloorDiv) (rI CDiv fun i j => .int (i / j)) := opI fun i j _ _ _ _ _ hc q => by
  have h1 : (0 : Int) < j := hc.1
  have h2 : j < 1073741824 := hc.2
  exact floordiv_int (by omega) (by rw [Int.fdiv_eq_ediv_of_nonneg i (by omega)]; exact q) (.inl (PyProof.noPylong_small (by omega)))
theorem op_mod : OpR X (binaryOp .Mod) (rI (fun _ j => 0 < j) fun i j => .int (i % j)) := opI fun i j _ _ _ _ _ hc q => by
  have h1 : (0 : Int) < j := hc
  exact mod_int' (by omega) (by rw [Int.fmod_eq_emod_of_nonneg i (by omega)]; exact q)
theorem op_pow : OpR X (binaryOp .Pow) (rI CPow fun i j => .int (i ^ j.toNat)) := opI fun _ _ _ _ _ _ _ hc q => pow_int_small hc.1 hc.2.1 hc.2.2 q
theorem unI {f : Value → Sem Value} {g : Int → Int}
    (rule : ∀ (i : Int) (t : Tok) (s : Shared) (Q : Value → Shared → Prop) (E : Value → Shared → Prop), Q (.int (g i) s.toks) { s with toks := s.toks + 1 } → wpAny (model X.prog X.w) X.A (f (.int i t)) Q E s) :
    UnR X f (rU fun i => .int (g i)) := by
  constructor
  intro pins s σ H x v Q I rx h
  obtain ⟨i, rfl, q⟩ := h
  obtain ⟨t, rfl⟩ := rx
  exact rule i t s _ _ ⟨.int (g i), H, I.tok _, ⟨_, rfl⟩, q⟩
theorem un_neg : UnR X (unaryOp .USub) (rU fun i => .int (-i)) := unI fun _ _ _ _ _ q => neg_int q
end



def scal : V → V → Bool
  | .non, .non => true | .non, .int _ => true | .int _, .non => true | .non, .bl _ => true | .bl _, .non => true | .non, .str _ => true | .str _, .non => true
  | .int _, .int _ => true | .bl _, .bl _ => true | .str _, .str _ => true | .byt _, .byt _ => true
  | .int _, .str _ => true | .str _, .int _ => true | .bl _, .str _ => true | .str _, .bl _ => true
  | _, _ => false
def rEq : R2 := fun x y H Q => scal x y = true ∧ Q (.bl (decide (x = y))) H
def rNe : R2 := fun x y H Q => scal x y = true ∧ Q (.bl (!decide (x = y))) H

theorem dec_int {i j : Int} : decide (V.int i = V.int j) = (i == j) := by
  rw [Bool.eq_iff_iff]
  simp
theorem dec_bl {i j : Bool} : decide (V.bl i = V.bl j) = (i == j) := by
  rw [Bool.eq_iff_iff]
  simp
theorem dec_str {i j : Str} : decide (V.str i = V.str j) = (i == j) := by
  rw [Bool.eq_iff_iff]
  simp
theorem dec_byt {i j : Array UInt8} : decide (V.byt i = V.byt j) = (i.toList == j.toList) := by
  rw [Bool.eq_iff_iff]
  cases i
  cases j
  simp

section
variable {X : Cx} {a b c : Expr} {ta tb tc : TE} {pos : Pos}
theorem fin_bl {pins : List (Addr × Obj)} {σ : St} {H : Hp} {s : Shared} {Q : VK} {k k' : Bool} (I : Inv X pins σ H s) (q : Q (.bl k) H) (e : k = k') : EP X pins σ Q (.bool k') s := by
  subst e
  exact ⟨.bl k, H, I, rfl, q⟩
theorem op_eq : OpR X (compareOp .Eq) rEq := by
  constructor
  intro pins s σ H x y v u Q I rx ry h
  obtain ⟨hs, q⟩ := h
  cases x with
  | non =>
    cases rx
    cases y with
    | non => cases ry; exact PySem.EqNone.eq_none_none (fin_bl I q (by simp))
    | bl j => cases ry; exact PySem.EqNone.eq_none_bool (fin_bl I q (by simp))
    | int j => obtain ⟨t', rfl⟩ := ry; exact PySem.EqNone.eq_none_int (fin_bl I q (by simp))
    | str j => obtain ⟨t', rfl⟩ := ry; exact PySem.EqNone.eq_none_str (fin_bl I q (by simp))
    | _ => exact absurd (show false = true from hs) Bool.false_ne_true
  | bl i =>
    cases rx
    cases y with
    | non => cases ry; exact PySem.EqNone.eq_bool_none (fin_bl I q (by simp))
    | bl j => cases ry; exact eq_bool (fin_bl I q dec_bl)
    | str j => obtain ⟨t', rfl⟩ := ry; exact PySem.EqMixed.eq_bool_str (fin_bl I q (by simp))
    | _ => exact absurd (show false = true from hs) Bool.false_ne_true
  | int i =>
    obtain ⟨t, rfl⟩ := rx
    cases y with
    | non => cases ry; exact PySem.EqNone.eq_int_none (fin_bl I q (by simp))
    | int j => obtain ⟨t', rfl⟩ := ry; exact eq_int (fin_bl I q dec_int)
    | str j => obtain ⟨t', rfl⟩ := ry; exact PySem.EqMixed.eq_int_str (fin_bl I q (by simp))
    | _ => exact absurd (show false = true from hs) Bool.false_ne_true
  | str i =>
    obtain ⟨t, rfl⟩ := rx
    cases y with
    | non => cases ry; exact PySem.EqNone.eq_str_none (fin_bl I q (by simp))
    | bl j => cases ry; exact PySem.EqMixed.eq_str_bool (fin_bl I q (by simp))
    | int j => obtain ⟨t', rfl⟩ := ry; exact PySem.EqMixed.eq_str_int (fin_bl I q (by simp))
    | str j => obtain ⟨t', rfl⟩ := ry; exact eq_str (fin_bl I q dec_str)
    | _ => exact absurd (show false = true from hs) Bool.false_ne_true
  | byt i =>
    obtain ⟨t, rfl⟩ := rx
    cases y with
    | byt j => obtain ⟨t', rfl⟩ := ry; exact PySem.W.eq_bytes (fin_bl I q dec_byt)
    | _ => exact absurd (show false = true from hs) Bool.false_ne_true
  | _ => cases y <;> exact absurd (show false = true from hs) Bool.false_ne_true
theorem op_ne : OpR X (compareOp .NotEq) rNe := by
  constructor
  intro pins s σ H x y v u Q I rx ry h
  obtain ⟨hs, q⟩ := h
  cases x with
  | non =>
    cases rx
    cases y with
    | non => cases ry; exact PySem.EqNone.ne_none_none (fin_bl I q (by simp))
    | bl j => cases ry; exact PySem.EqNone.ne_none_bool (fin_bl I q (by simp))
    | int j => obtain ⟨t', rfl⟩ := ry; exact PySem.EqNone.ne_none_int (fin_bl I q (by simp))
    | str j => obtain ⟨t', rfl⟩ := ry; exact PySem.EqNone.ne_none_str (fin_bl I q (by simp))
    | _ => exact absurd (show false = true from hs) Bool.false_ne_true
  | bl i =>
    cases rx
    cases y with
    | non => cases ry; exact PySem.EqNone.ne_bool_none (fin_bl I q (by simp))
    | bl j => cases ry; exact ne_bool (fin_bl I q (congrArg not dec_bl))
    | str j => obtain ⟨t', rfl⟩ := ry; exact PySem.EqMixed.ne_bool_str (fin_bl I q (by simp))
    | _ => exact absurd (show false = true from hs) Bool.false_ne_true
  | int i =>
    obtain ⟨t, rfl⟩ := rx
    cases y with
    | non => cases ry; exact PySem.EqNone.ne_int_none (fin_bl I q (by simp))
    | int j => obtain ⟨t', rfl⟩ := ry; exact ne_int (fin_bl I q (congrArg not dec_int))
    | str j => obtain ⟨t', rfl⟩ := ry; exact PySem.EqMixed.ne_int_str (fin_bl I q (by simp))
    | _ => exact absurd (show false = true from hs) Bool.false_ne_true
  | str i =>
    obtain ⟨t, rfl⟩ := rx
    cases y with
    | non => cases ry; exact PySem.EqNone.ne_str_none (fin_bl I q (by simp))
    | bl j => cases ry; exact PySem.EqMixed.ne_str_bool (fin_bl I q (by simp))
    | int j => obtain ⟨t', rfl⟩ := ry; exact PySem.EqMixed.ne_str_int (fin_bl I q (by simp))
    | str j => obtain ⟨t', rfl⟩ := ry; exact ne_str (fin_bl I q (congrArg not dec_str))
    | _ => exact absurd (show false = true from hs) Bool.false_ne_true
  | byt i =>
    obtain ⟨t, rfl⟩ := rx
    cases y with
    | byt j => obtain ⟨t', rfl⟩ := ry; exact PySem.W.ne_bytes (fin_bl I q (congrArg not dec_byt))
    | _ => exact absurd (show false = true from hs) Bool.false_ne_true
  | _ => cases y <;> exact absurd (show false = true from hs) Bool.false_ne_true

theorem op_lt : OpR X (compareOp .Lt) (rI0 fun i j => .bl (decide (i < j))) := opB0 fun _ _ _ _ _ _ _ q => lt_int q
theorem op_le : OpR X (compareOp .LtE) (rI0 fun i j => .bl (decide (i ≤ j))) := opB0 fun _ _ _ _ _ _ _ q => le_int q
theorem op_gt : OpR X (compareOp .Gt) (rI0 fun i j => .bl (decide (j < i))) := opB0 fun _ _ _ _ _ _ _ q => gt_int q
theorem op_ge : OpR X (compareOp .GtE) (rI0 fun i j => .bl (decide (j ≤ i))) := opB0 fun _ _ _ _ _ _ _ q => ge_int q
theorem op_notN : OpR X (compareOp .IsNot) (fun x y H Q => y = .non ∧ Q (.bl (!decide (x = .non))) H) := by
  constructor
  intro pins s σ H x y v u Q I rx ry h
  obtain ⟨rfl, q⟩ := h
  cases ry
  refine isnot_none_gen (fin_bl I q ?_)
  cases x <;> first
    | (cases rx; rfl)
    | (obtain ⟨t, rfl⟩ := rx; rfl)

def isObj : HO → Bool
  | .lst _ => true
  | .ins _ _ _ => true
  | _ => false
theorem nomark (b : Expr) {op : CmpOp} (h : op ≠ .In := by decide) (h2 : op ≠ .NotIn := by decide) : behindInMarks op b = false := by
  have e1 : (op == CmpOp.In) = false := by cases op <;> first | rfl | exact absurd rfl h
  have e2 : (op == CmpOp.NotIn) = false := by cases op <;> first | rfl | exact absurd rfl h2
  cases b <;> simp [behindInMarks, e1, e2]

theorem pe_cmpR {op : CmpOp} {r : R2} (ho : OpR X (compareOp op) r) (ha : PE X a ta) (hb : PE X b tb) (hm : behindInMarks op b = false) : PE X (.Compare a [op] [b] pos) (tOp r ta tb) := by
  constructor
  intro pins s σ H Q I h
  exact wpAny_Compare1 (binT ha hb I h fun v u s2 x y H2 I2 rx ry q => ho pins s2 σ H2 x y v u Q I2 rx ry q) hm

def tTest (t : TE) : TT := fun σ H Q => t σ H fun x H' => ∃ k, x = .bl k ∧ Q k H'
theorem pt_cmpR {op : CmpOp} {r : R2} (ho : OpR X (compareOp op) r) (ha : PE X a ta) (hb : PE X b tb) (hm : behindInMarks op b = false) : PT X (.Compare a [op] [b] pos) (tTest (tOp r ta tb)) := by
  constructor
  intro pins s σ H Q I h
  refine wpAny_isTrue_Compare1 (thn (ha pins s σ H _ I h) fun v s1 ⟨x, H1, I1, r1, q1⟩ => thn (hb pins s1 σ H1 _ I1 q1) fun u s2 ⟨y, H2, I2, r2, q2⟩ =>
    thn (ho pins s2 σ H2 x y v u _ I2 r1 r2 q2) fun c s3 ⟨z, H3, I3, r3, k, e, q3⟩ => ?_) hm
  subst e
  cases r3
  exact wpAny_truthy_bool ⟨H3, I3, q3⟩

def tChain (r r' : R2) (ta tb tc : TE) : TE := fun σ H Q => ta σ H fun x H1 => tb σ H1 fun y H2 => r x y H2 fun z H3 => ∃ k, z = .bl k ∧
  (if k = true then tc σ H3 fun w' H4 => r' y w' H4 Q else Q (.bl false) H3)
theorem pe_chain {op op' : CmpOp} {r r' : R2} (ho : OpR X (compareOp op) r) (ho' : OpR X (compareOp op') r') (ha : PE X a ta) (hb : PE X b tb) (hc : PE X c tc)
    (hm : lastMarks [op, op'] [b, c] = false := by with_unfolding_all rfl) : PE X (.Compare a [op, op'] [b, c] pos) (tChain r r' ta tb tc) := by
  constructor
  intro pins s σ H Q I h
  refine Compare_chain (thn (ha pins s σ H _ I h) fun v s1 ⟨x, H1, I1, r1, q1⟩ => chain_link (thn (hb pins s1 σ H1 _ I1 q1) fun u s2 ⟨y, H2, I2, r2, q2⟩ =>
    thn (ho pins s2 σ H2 x y v u _ I2 r1 r2 q2) fun d s3 ⟨z, H3, I3, r3, k, e, q3⟩ => ?_)) hm
  subst e
  cases r3
  refine wpAny_truthy_bool ?_
  cases k with
  | false => exact ite_ff ⟨.bl false, H3, I3, rfl, q3⟩
  | true => exact ite_tt (chain_last (thn (hc pins s3 σ H3 _ I3 q3) fun w' s4 ⟨z', H4, I4, r4, q4⟩ => ho' pins s4 σ H4 y z' u w' Q I4 r2 r4 q4))
theorem pt_chain {op op' : CmpOp} {r r' : R2} (ho : OpR X (compareOp op) r) (ho' : OpR X (compareOp op') r') (ha : PE X a ta) (hb : PE X b tb) (hc : PE X c tc)
    (hm : lastMarks [op, op'] [b, c] = false := by with_unfolding_all rfl) : PT X (.Compare a [op, op'] [b, c] pos) (tTest (tChain r r' ta tb tc)) := by
  constructor
  intro pins s σ H Q I h
  refine isTrue_chain (thn (ha pins s σ H _ I h) fun v s1 ⟨x, H1, I1, r1, q1⟩ => test_link (thn (hb pins s1 σ H1 _ I1 q1) fun u s2 ⟨y, H2, I2, r2, q2⟩ =>
    thn (ho pins s2 σ H2 x y v u _ I2 r1 r2 q2) fun d s3 ⟨z, H3, I3, r3, k, e, q3⟩ => ?_)) hm
  subst e
  cases r3
  refine wpAny_truthy_bool ?_
  cases k with
  | false =>
    obtain ⟨k', e', q'⟩ := q3
    cases e'
    exact ite_ff ⟨H3, I3, q'⟩
  | true =>
    refine ite_tt (test_last (thn (hc pins s3 σ H3 _ I3 q3) fun w' s4 ⟨z', H4, I4, r4, q4⟩ => thn (ho' pins s4 σ H4 y z' u w' _ I4 r2 r4 q4) fun d' s5 ⟨z2, H5, I5, r5, k2, e2, q5⟩ => ?_))
    subst e2
    cases r5
    exact wpAny_truthy_bool ⟨H5, I5, q5⟩



def TruV (K : PySem.W.Frag) (x : V) (H : Hp) (k : Bool) : Prop :=
  match x with
  | .non => k = false
  | .bl b => k = b
  | .int i => k = (i != 0)
  | .str y => y.length ≤ sizeLine ∧ k = ((y.length : Int) != 0)
  | .byt y => y.size ≤ sizeLine ∧ k = ((y.size : Int) != 0)
  | .ref p => (∃ xs, SqL K H p xs ∧ k = !xs.isEmpty) ∨ (∃ xs, SqT K H p xs ∧ k = !xs.isEmpty) ∨ ∃ kvs, H p = some (.dK kvs) ∧ k = !kvs.isEmpty
  | _ => False
theorem line63 : (sizeLine : Nat) < 2 ^ 63 := by rw [sizeLine_eq]; decide
theorem op_add_str : OpR X (binaryOp .Add) (fun x y H Q => ∃ i j, x = .str i ∧ y = .str j ∧ i.length + j.length ≤ sizeLine ∧ Q (.str (i ++ j)) H) := by
  constructor
  intro pins s σ H x y v u Q I rx ry h
  obtain ⟨i, j, rfl, rfl, hz, q⟩ := h
  obtain ⟨t, rfl⟩ := rx
  obtain ⟨t', rfl⟩ := ry
  exact add_str (fun t' tk => ⟨.str (i ++ j), H, I.tok _, ⟨_, rfl⟩, q⟩) hz
def PlainIxT (b : Expr) : Prop := ∀ o i, subscripted b false o i = operate [o, i] (getItem o i)

theorem vals1 {x : V} {us : List Value} (r : Vals [x] us) : ∃ u, us = [u] ∧ RelV x u := by
  cases r with
  | cons r1 r2 => cases r2; exact ⟨_, rfl, r1⟩
theorem vals2 {x y : V} {us : List Value} (r : Vals [x, y] us) : ∃ u w', us = [u, w'] ∧ RelV x u ∧ RelV y w' := by
  cases r with
  | cons r1 r2 =>
    cases r2 with
    | cons r3 r4 => cases r4; exact ⟨_, _, rfl, r1, r3⟩
theorem call_abs : CallR X (.builtin "abs") (fun xs H Q => ∃ i, xs = [.int i] ∧ Q (.int (if i < 0 then -i else i)) H) := by
  constructor
  intro pins s σ H xs us Q I r h
  obtain ⟨i, rfl, q⟩ := h
  obtain ⟨u, rfl, t, rfl⟩ := vals1 r
  exact call_abs_int fun u tk => ⟨.int (if i < 0 then -i else i), H, I.tok _, ⟨_, rfl⟩, q⟩
theorem call_max2 (hc : X.calm = true) : CallR X (.builtin "max") (fun xs H Q => ∃ i j, xs = [.int i, .int j] ∧ Q (.int (if j > i then j else i)) H) := by
  constructor
  intro pins s σ H xs us Q I r h
  obtain ⟨i, j, rfl, q⟩ := h
  obtain ⟨u, w', rfl, ⟨t, rfl⟩, ⟨t', rfl⟩⟩ := vals2 r
  refine max_two_ints (I.ok.hd hc) fun h' tk k => ⟨_, H, I.kept k, ?_, q⟩
  by_cases hj : j > i
  · rw [if_pos hj, if_pos hj]; exact ⟨_, rfl⟩
  · rw [if_neg hj, if_neg hj]; exact ⟨_, rfl⟩
theorem call_min2 (hc : X.calm = true) : CallR X (.builtin "min") (fun xs H Q => ∃ i j, xs = [.int i, .int j] ∧ Q (.int (if j < i then j else i)) H) := by
  constructor
  intro pins s σ H xs us Q I r h
  obtain ⟨i, j, rfl, q⟩ := h
  obtain ⟨u, w', rfl, ⟨t, rfl⟩, ⟨t', rfl⟩⟩ := vals2 r
  refine min_two_ints (I.ok.hd hc) fun h' tk k => ⟨_, H, I.kept k, ?_, q⟩
  by_cases hj : j < i
  · rw [if_pos hj, if_pos hj]; exact ⟨_, rfl⟩
  · rw [if_neg hj, if_neg hj]; exact ⟨_, rfl⟩
theorem call_int1 : CallR X (.type "int") (fun xs H Q => (∃ i, xs = [.int i] ∧ Q (.int i) H) ∨ ∃ k, xs = [.bl k] ∧ Q (.int (if k then 1 else 0)) H) := by
  constructor
  intro pins s σ H xs us Q I r h
  rcases h with ⟨i, rfl, q⟩ | ⟨k, rfl, q⟩
  · obtain ⟨u, rfl, t, rfl⟩ := vals1 r
    exact call_int_int ⟨.int i, H, I, ⟨_, rfl⟩, q⟩
  · obtain ⟨u, rfl, r1⟩ := vals1 r
    cases r1
    exact call_int_bool ⟨.int (if k then 1 else 0), H, I.tok _, ⟨_, rfl⟩, q⟩
def LenV (K : PySem.W.Frag) (x : V) (H : Hp) (n : Nat) : Prop :=
  match x with
  | .str y => y.length ≤ sizeLine ∧ n = y.length
  | .byt y => y.size ≤ sizeLine ∧ n = y.size
  | .ref p => (∃ xs, SqL K H p xs ∧ n = xs.length) ∨ ∃ xs, SqT K H p xs ∧ n = xs.length
  | _ => False
end
end L2

namespace L2
open PySem PySem.Spec PyProof.Rows


structure ObjM (h : Heap) (x dx C : Addr) (mA : Str → Option Value) : Prop where
  obj : h.get? x = some (PySem.W.instObj C dx)
  ns : h.Ns1 dx mA
  ne : dx ≠ x

theorem lookIn_ns {h : Heap} {dx : Addr} {mA : Str → Option Value} (n : h.Ns1 dx mA) : ∃ od, h.get? dx = some od ∧ ∀ name, PySem.W.lookIn name od = some (mA name) := by
  obtain ⟨o, es, ep, ho, hd, hk, _, hm⟩ := n
  refine ⟨o, ho, fun name => ?_⟩
  have e := hm name
  unfold nsFind findBy at e
  rw [← Array.find?_toList] at e
  unfold PySem.W.lookIn
  rw [hd]
  dsimp only
  split
  · rename_i y q
    rw [q] at e
    exact congrArg some e
  · rename_i q
    rw [q] at e
    have a : es.toList.any (·.refKey) = false := by
      rw [List.any_eq_false]
      intro y hy
      obtain ⟨z, t, hkey⟩ := hk y (Array.mem_toList_iff.mp hy)
      simp [DictEntry.refKey, hkey]
    have a' : ¬ es.toList.any (·.refKey) = true := by rw [a]; exact Bool.false_ne_true
    rw [if_neg a']
    exact congrArg some e

theorem ObjM.look {h : Heap} {x dx C : Addr} {mA : Str → Option Value} (I : ObjM h x dx C mA) : ∃ od, PySem.W.InstAt h x (PySem.W.instObj C dx) C (some od) ∧ ∀ name, PySem.W.lookIn name od = some (mA name) :=
  let ⟨od, ho, hl⟩ := lookIn_ns I.ns
  ⟨od, ⟨I.obj, rfl, rfl, ho⟩, hl⟩

section
variable {prog : Program} {w : World} {A : Around} {E : Value → Shared → Prop} {s : Shared} {K : PySem.W.Frag} {x dx C f : Addr} {mA : Str → Option Value} {name : Str} {v : Value}

theorem get_map {expr : Bool} {Q : Value → Shared → Prop} (X : K.In s.heap) (I : ObjM s.heap x dx C mA) (hg : PySem.W.plainGet K C name = true) (hh : PySem.W.hasDictIn K C = true)
    (ha : PySem.W.findIn K (.ref C) name = some none) (hv : mA name = some v) (hv' : PySem.W.handedIn v = true) (h : Q v { s with toks := s.toks + 1 }) :
    wpAny (model prog w) A (getAttr (.ref x) name expr) Q E s := by
  obtain ⟨od, J, hl⟩ := I.look
  exact PySem.W.get_value X J (PySem.W.plainGet_of hg).1 (PySem.W.findObj_own hh ha rfl (by rw [hl, hv])) hv' h

theorem get_meth {pl : Sem Bool} {Q : Value × List Value → Shared → Prop} (X : K.In s.heap) (I : ObjM s.heap x dx C mA) (hg : PySem.W.plainGet K C name = true)
    (hf : PySem.W.findIn K (.ref C) name = some (some (.ref f))) (ht : PySem.W.isFn K (.ref f) = true) (hv : mA name = none) (h : Q (.ref f, [.ref x]) s) :
    wpAny (model prog w) A (getMethod (.ref x) name pl) Q E s := by
  obtain ⟨od, J, hl⟩ := I.look
  exact PySem.W.method_fn X J (PySem.W.plainGet_of hg).1 (PySem.W.plainGet_of hg).2 hf (beq_iff_eq.mp ht) (by show (PySem.W.lookIn name od).map (·.isSome) = some false; rw [hl, hv]; rfl) h

theorem set_map {ns : List Str} {Q : Unit → Shared → Prop} (X : K.In s.heap) (I : ObjM s.heap x dx C mA)
    (hs : PySem.W.findIn K (.ref C) "__setattr__" = some (some (.builtin "object.__setattr__"))) (hp : PySem.W.plainOver K C = true) (ht : PySem.W.takerIn K C name = some none) (hh : PySem.W.hasDictIn K C = true)
    (hw : PySem.Within mA ns) (hsz : ns.length ≤ sizeLine)
    (h : ∀ h', ObjM h' x dx C (fun y => if y = name then some v else mA y) → Heap.SameBut dx s.heap h' → Q () { s with heap := h', toks := s.toks + 2 }) :
    wpAny (model prog w) A (setAttr (.ref x) name v) Q E s := by
  obtain ⟨od, J, hl⟩ := I.look
  refine PySem.W.set_plain X J hs (PySem.W.osa_open (s := { s with toks := s.toks + 1 }) (r := none) X J hp ht fun b => ?_)
  obtain ⟨cd, hc, hd'⟩ := PySem.W.any_some hh
  have hx : s.heap.get? x = some ⟨.ref C, some dx, .plain, #[]⟩ := I.obj
  refine wpAny_bind (wpAny_pure (wpAny_bind (wpAny_bind (wpAny_loadPart hx (wpAny_bind (PySem.W.Looks.here (s := { s with toks := s.toks + 1 }) (PySem.W.looks_clsIn X hc) ?_))))))
  rw [hd']
  refine wpAny_pure (a := some dx) (wpAny_bind (wpAny_pure (wpAny_bind ?_)))
  refine wpAny_nsSet1 (s := { s with toks := s.toks + 1 }) I.ns fun h' hn2 hs2 => ?_
  obtain ⟨oD, esD, epD, hoD, hdD, hcD⟩ := hn2.count (PySem.Within.cons name v hw)
  refine wpAny_bind (wpAny_lookBehind hoD (by rw [hdD]; exact pastItsLine_dict (Nat.le_trans hcD (by rw [List.length_cons]; omega))) ?_)
  exact wpAny_pure (h _ ⟨(hs2.2 _ (Ne.symm I.ne)).trans I.obj, hn2, I.ne⟩ hs2)


theorem make_map {R : Result → Shared → Prop} {vs : List Value} {kw : List (Str × Value)} (X : K.In s.heap) (hm : PySem.W.makesIn K C = true)
    (hi : PySem.W.findIn K (.ref C) "__init__" = some (some (.ref f))) (hf : PySem.W.typeIn K (.ref f) = some (.type "function"))
    (h : codeAny (model prog w) (A.under (.builtin "type.__call__" ⟨.ref C :: vs, kw⟩)) (.call (.ref f) ⟨.ref (s.heap.objs.size + 1) :: vs, kw⟩) (PySem.W.InitBack (s.heap.objs.size + 1) R)
      { s with heap := (s.heap.push PySem.W.emptyDict).push (PySem.W.instObj C s.heap.objs.size) }) :
    codeAny (model prog w) A (.call (.ref C) ⟨vs, kw⟩) R s := by
  obtain ⟨hh, g, d, t, os⟩ := s
  exact PySem.W.make_core (PySem.W.makes_of X hm) (PySem.W.looks_findIn X hi) (fun self => PySem.W.bind_fn X self hf) (.inl rfl) h

end


def putF (f : Str) (v : V) : List (Str × V) → List (Str × V)
  | [] => [(f, v)]
  | (g, x) :: r => if g = f then (g, v) :: r else (g, x) :: putF f v r
theorem lookup_putF (f g : Str) (v : V) : ∀ fs : List (Str × V), (putF f v fs).lookup g = if g = f then some v else fs.lookup g
  | [] => by
    show List.lookup g [(f, v)] = _
    by_cases h : g = f
    · have hb : (g == f) = true := beq_iff_eq.mpr h
      simp only [List.lookup, hb, if_pos h]
    · have hb : (g == f) = false := beq_eq_false_iff_ne.mpr h
      simp only [List.lookup, hb, if_neg h]
  | (k, x) :: r => by
    have ih := lookup_putF f g v r
    rw [show putF f v ((k, x) :: r) = (if k = f then (k, v) :: r else (k, x) :: putF f v r) from rfl]
    by_cases hk : k = f
    · rw [if_pos hk]
      by_cases h : g = k
      · have hb : (g == k) = true := beq_iff_eq.mpr h
        simp only [List.lookup, hb, if_pos (h.trans hk)]
      · have hb : (g == k) = false := beq_eq_false_iff_ne.mpr h
        simp only [List.lookup, hb, if_neg (fun e : g = f => h (e.trans hk.symm))]
    · rw [if_neg hk]
      by_cases h : g = k
      · have hb : (g == k) = true := beq_iff_eq.mpr h
        simp only [List.lookup, hb, if_neg (fun e : g = f => hk (h.symm.trans e))]
      · have hb : (g == k) = false := beq_eq_false_iff_ne.mpr h
        simp only [List.lookup, hb]
        exact ih
theorem keys_putF (f : Str) (v : V) : ∀ fs : List (Str × V), f ∈ (putF f v fs).map (·.1) ∧ ∀ g, g ∈ fs.map (·.1) → g ∈ (putF f v fs).map (·.1)
  | [] => ⟨by simp [putF], fun g h => by simp at h⟩
  | (k, x) :: r => by
    obtain ⟨i1, i2⟩ := keys_putF f v r
    rw [show putF f v ((k, x) :: r) = (if k = f then (k, v) :: r else (k, x) :: putF f v r) from rfl]
    by_cases hk : k = f
    · rw [if_pos hk]
      subst hk
      exact ⟨by simp, fun g h => by simpa using h⟩
    · rw [if_neg hk]
      refine ⟨?_, fun g h => ?_⟩
      · rw [List.map_cons]
        exact List.mem_cons_of_mem _ i1
      · rw [List.map_cons] at h ⊢
        rcases List.mem_cons.mp h with e | e
        · exact List.mem_cons.mpr (.inl e)
        · exact List.mem_cons_of_mem _ (i2 g e)
theorem length_putF (f : Str) (v : V) : ∀ fs : List (Str × V), (putF f v fs).length ≤ fs.length + 1
  | [] => by simp [putF]
  | (k, x) :: r => by
    have ih := length_putF f v r
    rw [show putF f v ((k, x) :: r) = (if k = f then (k, v) :: r else (k, x) :: putF f v r) from rfl]
    by_cases hk : k = f
    · rw [if_pos hk, List.length_cons, List.length_cons]; omega
    · rw [if_neg hk, List.length_cons, List.length_cons]; omega

theorem RelO.some_of {v : V} {o : Option Value} (r : RelO (some v) o) : ∃ u, o = some u ∧ RelV v u := by
  cases o with
  | none => exact (show False from r).elim
  | some u => exact ⟨u, rfl, r⟩
theorem RelO.none_of {o : Option Value} (r : RelO none o) : o = none := by
  cases o with
  | none => rfl
  | some u => exact (show False from r).elim
theorem handed_of {v : V} {u : Value} (r : RelV v u) : PySem.W.handedIn u = true := by
  cases v with
  | non => cases (show u = Value.none from r); rfl
  | bl b => cases (show u = Value.bool b from r); rfl
  | int i => obtain ⟨t, e⟩ := (show ∃ t, u = Value.int i t from r); cases e; rfl
  | str x => obtain ⟨t, e⟩ := (show ∃ t, u = Value.str x t from r); cases e; rfl
  | byt b => obtain ⟨t, e⟩ := (show ∃ t, u = Value.bytes b t from r); cases e; rfl
  | flt b => obtain ⟨t, e⟩ := (show ∃ t, u = Value.float b t from r); cases e; rfl
  | ref a => cases (show u = Value.ref a from r); rfl
  | ty n => cases (show u = Value.type n from r); rfl

section
variable {P : Program} {w : World} {H H' : Hp} {h h' : Heap} {a C dx : Addr} {fs fs' : List (Str × V)}
theorem ins_get (hok : HOk P w H h) (e : H a = some (.ins C dx fs)) : ∃ mA, ObjM h a dx C mA ∧ (∀ f, RelO (fs.lookup f) (mA f)) ∧ PySem.Within mA (fs.map (·.1)) ∧ fs.length ≤ 1000 ∧ H dx = some (.own a) := by
  obtain ⟨d, z, ne, ob, mA, n, r, q⟩ := (show ObjOk P w H h a (.ins C dx fs) from hok a _ e)
  exact ⟨mA, ⟨ob, n, ne⟩, r, q, z, d⟩
end


structure Cls (K : PySem.W.Frag) (C : Addr) : Prop where
  pg : PySem.W.plainGet K C Str.empty = true
  hd : PySem.W.hasDictIn K C = true
  po : PySem.W.plainOver K C = true
  sa : PySem.W.findIn K (.ref C) "__setattr__" = some (some (.builtin "object.__setattr__"))
theorem Cls.get {K : PySem.W.Frag} {C : Addr} (c : Cls K C) (f : Str) : PySem.W.plainGet K C f = true := c.pg

def NoAttr (K : PySem.W.Frag) (C : Addr) (f : Str) : Prop := PySem.W.findIn K (.ref C) f = some none
theorem NoAttr.taker {K : PySem.W.Frag} {C : Addr} {f : Str} (n : NoAttr K C f) : PySem.W.takerIn K C f = some none := by
  unfold PySem.W.takerIn
  rw [show PySem.W.findIn K (.ref C) f = some none from n]
  rfl

structure Con (K : PySem.W.Frag) (C : Addr) (f : Str) (v : V) (u : Value) : Prop where
  at_ : PySem.W.findIn K (.ref C) f = some (some u)
  rel : RelV v u
  get : PySem.W.specialIn K u "__get__" = some none
  cp : PySem.W.copiedNames.contains f = false

structure Meth (K : PySem.W.Frag) (C : Addr) (m : Str) (f : Addr) : Prop where
  at_ : PySem.W.findIn K (.ref C) m = some (some (.ref f))
  fn : PySem.W.isFn K (.ref f) = true
  kp : PySem.W.keepIn K (.ref f) = true

section
variable {X : Cx} {pins : List (Addr × Obj)} {σ : St} {H : Hp} {s : Shared} {a C dx : Addr} {fs : List (Str × V)} {f : Str} {v : V} {A : Around} {E : Value → Shared → Prop}

theorem getattr_ok {b : Bool} {Q : Value → Shared → Prop} (I : Inv X pins σ H s) (e : H a = some (.ins C dx fs)) (c : Cls X.K C) (n : NoAttr X.K C f) (l : fs.lookup f = some v)
    (h : ∀ u s', Inv X pins σ H s' → RelV v u → Q u s') : wpAny (model X.prog X.w) A (getAttr (.ref a) f b) Q E s := by
  obtain ⟨mA, O, r, _, _, _⟩ := ins_get I.hok e
  obtain ⟨u, hu, ru⟩ := RelO.some_of (v := v) (o := mA f) (by rw [← l]; exact r f)
  exact get_map I.kIn O (c.get f) c.hd n hu (handed_of ru) (h u _ (I.tok _) ru)

theorem getmeth_ok {m : Str} {g : Addr} {pl : Sem Bool} {Q : Value × List Value → Shared → Prop} (I : Inv X pins σ H s) (e : H a = some (.ins C dx fs)) (c : Cls X.K C) (k : Meth X.K C m g) (l : fs.lookup m = none)
    (h : Q (.ref g, [.ref a]) s) : wpAny (model X.prog X.w) A (getMethod (.ref a) m pl) Q E s := by
  obtain ⟨mA, O, r, _, _, _⟩ := ins_get I.hok e
  have hn : mA m = none := RelO.none_of (by rw [← l]; exact r m)
  exact get_meth I.kIn O (c.get m) k.at_ k.fn hn h

theorem setattr_ok {y : V} {u : Value} {Q : Unit → Shared → Prop} (I : Inv X pins σ H s) (e : H a = some (.ins C dx fs)) (c : Cls X.K C) (n : NoAttr X.K C f) (hl : fs.length < 1000) (ry : RelV y u)
    (h : ∀ s', Inv X pins σ (upd H a (.ins C dx (putF f y fs))) s' → Q () s') : wpAny (model X.prog X.w) A (setAttr (.ref a) f u) Q E s := by
  obtain ⟨mA, O, r, wi, _, ho⟩ := ins_get I.hok e
  have hz : (fs.map (·.1)).length ≤ sizeLine := by rw [List.length_map, sizeLine_eq]; omega
  refine set_map I.kIn O c.sa c.po n.taker c.hd wi hz fun h' O' sb => h _ ?_
  have hd : ∃ o, h'.get? dx = some o := let ⟨o, _, _, e', _⟩ := O'.ns; ⟨o, e'⟩
  refine I.write (x := a) (e := dx) (by rw [e]; exact True.intro) (.inr ho) (fun b q hb z => (sb.2 b hb).trans z) hd ?_
  refine ⟨by rw [upd_ne O.ne]; exact ho, ?_, O.ne, O'.obj, _, O'.ns, fun g => ?_, fun g hg => ?_⟩
  · have := length_putF f y fs; omega
  · show RelO ((putF f y fs).lookup g) (if g = f then some u else mA g)
    rw [lookup_putF]
    by_cases q : g = f
    · rw [if_pos q, if_pos q]; exact ry
    · rw [if_neg q, if_neg q]; exact r g
  · by_cases q : g = f
    · rw [q]; exact (keys_putF f y fs).1
    · refine (keys_putF f y fs).2 g (wi g fun z => hg ?_)
      show (if g = f then some u else mA g) = none
      rw [if_neg q]; exact z


theorem Inv.made (I : Inv X pins σ H s) : Inv X pins σ (upd (upd H s.heap.objs.size (.own (s.heap.objs.size + 1))) (s.heap.objs.size + 1) (.ins C s.heap.objs.size []))
    { s with heap := (s.heap.push PySem.W.emptyDict).push (PySem.W.instObj C s.heap.objs.size) } := by
  have e1 : (s.heap.push PySem.W.emptyDict).get? s.heap.objs.size = some PySem.W.emptyDict := Heap.get?_push_size s.heap rfl
  have e2 : ((s.heap.push PySem.W.emptyDict).push (PySem.W.instObj C s.heap.objs.size)).get? (s.heap.objs.size + 1) = some (PySem.W.instObj C s.heap.objs.size) := by
    have := Heap.get?_push_size (s.heap.push PySem.W.emptyDict) (o := PySem.W.instObj C s.heap.objs.size) rfl
    rwa [Heap.size_push] at this
  have e3 : (s.heap.push PySem.W.emptyDict).Ns s.heap.objs.size (fun _ => none) := ⟨PySem.W.emptyDict, #[], _, e1, rfl, (fun e he => absurd he (by simp)), fun _ => rfl⟩
  have I1 := I.laid (a := s.heap.objs.size) (o := .own (s.heap.objs.size + 1)) (h' := s.heap.push PySem.W.emptyDict) (t' := s.toks) (fun b u q => Heap.get?_push_of_some _ q) (Nat.le_refl _) ⟨_, e1⟩
  refine I1.laid (a := s.heap.objs.size + 1) (o := .ins C s.heap.objs.size []) (t' := s.toks) (fun b u q => Heap.get?_push_of_some _ q) (Nat.le_of_eq (Heap.size_push _ _)) ?_
  have ne : s.heap.objs.size ≠ s.heap.objs.size + 1 := Nat.ne_of_lt (Nat.lt_succ_self _)
  refine ⟨by rw [upd_ne ne, upd_same], Nat.zero_le _, ne, e2, fun _ => none, (Heap.Ns1.of_empty e3).at fun o q => Heap.get?_push_of_some _ q, fun _ => True.intro, fun y hy => absurd rfl hy⟩


theorem attr_of {prog : Program} {w : World} {env : Env} {e : Expr} {f : Str} {pos : Pos} {s : Shared} {Q : Value → Shared → Prop} (hb : attributeBase e f env (eval e env) = eval e env)
    (h : wpAny (model prog w) A (eval e env) (fun o s₁ => wpAny (model prog w) A (getAttr o f true) Q E s₁) E s) : wpAny (model prog w) A (eval (.Attribute e f pos) env) Q E s :=
  Attribute_any_ h (by rw [arm_eval_Attribute, hb])
end



def tFld (K : PySem.W.Frag) (ta : TE) (f : Str) : TE := fun σ H Q => ta σ H fun x H1 => ∃ a C dx fs v, x = .ref a ∧ H1 a = some (.ins C dx fs) ∧ Cls K C ∧ NoAttr K C f ∧ fs.lookup f = some v ∧ Q v H1

def tCon (K : PySem.W.Frag) (ta : TE) (f : Str) : TE := fun σ H Q => ta σ H fun x H1 => ∃ a C dx fs v u, x = .ref a ∧ H1 a = some (.ins C dx fs) ∧ Cls K C ∧ Con K C f v u ∧ fs.lookup f = none ∧ Q v H1

def sFld (K : PySem.W.Frag) (ta tv : TE) (f : Str) : TS := fun D σ H => tv σ H fun y H1 => ta σ H1 fun x H2 => ∃ a C dx fs, x = .ref a ∧ H2 a = some (.ins C dx fs) ∧ Cls K C ∧ NoAttr K C f ∧ fs.length < 1000 ∧
  D.nx σ (upd H2 a (.ins C dx (putF f y fs)))

structure InOp (X : Cx) (op : Operator) (rd : V → V → Hp → VK → Prop) : Prop where
  run :
    ∀ (pins : List (Addr × Obj)) (s : Shared) (σ : St) (H : Hp) (x y : V) (u v : Value) (Q : VK), Inv X pins σ H s → RelV x u → RelV y v → rd x y H Q → wpAny (model X.prog X.w) X.A (inplaceOp op u v) (EP X pins σ Q) X.xe s
instance {X : Cx} {op : Operator} {rd : V → V → Hp → VK → Prop} : CoeFun (InOp X op rd) (fun _ =>
  ∀ (pins : List (Addr × Obj)) (s : Shared) (σ : St) (H : Hp) (x y : V) (u v : Value) (Q : VK), Inv X pins σ H s → RelV x u → RelV y v → rd x y H Q → wpAny (model X.prog X.w) X.A (inplaceOp op u v) (EP X pins σ Q) X.xe s) := ⟨InOp.run⟩

def sFldAug (K : PySem.W.Frag) (ta tv : TE) (rd : V → V → Hp → VK → Prop) (f : Str) : TS := fun D σ H => ta σ H fun x H1 => ∃ a C dx fs v, x = .ref a ∧ H1 a = some (.ins C dx fs) ∧ Cls K C ∧ NoAttr K C f ∧ fs.lookup f = some v ∧
  tv σ H1 fun y H2 => rd v y H2 fun z H3 => ∃ dx' fs', H3 a = some (.ins C dx' fs') ∧ fs'.length < 1000 ∧ D.nx σ (upd H3 a (.ins C dx' (putF f z fs')))

section
variable {X : Cx} {o e value : Expr} {f : Str} {pos pos' tpos : Pos} {ta tv : TE}
theorem pe_fld (he : PE X e ta) (hb : attributeBase e f X.env (eval e X.env) = eval e X.env) : PE X (.Attribute e f pos) (tFld X.K ta f) := by
  constructor
  intro pins s σ H Q I h
  refine attr_of hb (thn (he pins s σ H _ I h) fun u s1 ⟨x, H1, I1, rx, a, C, dx, fs, v, ex, ea, c, n, l, q⟩ => ?_)
  subst ex
  obtain rfl : u = Value.ref a := rx
  exact getattr_ok I1 ea c n l fun u' s2 I2 ru => ⟨v, H1, I2, ru, q⟩
theorem ps_fld (ha : PE X o ta) (hv : PE X value tv) (hs : swapsWith value (some (.Attribute o f pos')) pos.line X.env = pure false) : PS X (.Assign [.Attribute o f pos'] value pos) (sFld X.K ta tv f) := by
  constructor
  intro pins s σ H D I h
  refine plainObj_wpAny_Assign_Attribute (thn (hv pins s σ H _ I h) fun u s1 ⟨y, H1, I1, ry, q⟩ => thn (ha pins s1 σ H1 _ I1 q) fun ov s2 ⟨x, H2, I2, rx, a, C, dx, fs, ex, ea, c, n, l, q2⟩ => ?_) hs
  subst ex
  obtain rfl : ov = Value.ref a := rx
  exact setattr_ok I2 ea c n l ry fun s3 I3 => ⟨σ, _, I3, q2⟩
theorem ps_fldaug {op : Operator} {rd : V → V → Hp → VK → Prop} (ha : PE X o ta) (hv : PE X value tv) (hop : InOp X op rd) : PS X (.AugAssign (.Attribute o f tpos) op value pos) (sFldAug X.K ta tv rd f) := by
  constructor
  intro pins s σ H D I h
  refine wpAny_AugAssign_AttributeAny (thn (ha pins s σ H _ I h) fun ov s1 ⟨x, H1, I1, rx, a, C, dx, fs, v, ex, ea, c, n, l, q⟩ => ?_)
  subst ex
  obtain rfl : ov = Value.ref a := rx
  refine getattr_ok I1 ea c n l fun u s2 I2 ru => thn (hv pins s2 σ H1 _ I2 q) fun w3 s3 ⟨y, H2, I3, ry, q3⟩ => thn (hop pins s3 σ H2 v y u w3 _ I3 ru ry q3) fun w4 s4 ⟨z, H3, I4, rz, dx', fs', ea', l', q4⟩ => ?_
  exact setattr_ok I4 ea' c n l' rz fun s5 I5 => ⟨σ, _, I5, q4⟩
def rAdd : V → V → Hp → VK → Prop := fun x y H Q => ∃ i j, x = .int i ∧ y = .int j ∧ Q (.int (i + j)) H
def rSub : V → V → Hp → VK → Prop := fun x y H Q => ∃ i j, x = .int i ∧ y = .int j ∧ Q (.int (i - j)) H
theorem in_add : InOp X .Add rAdd := by
  constructor
  rintro pins s σ H x y u v Q I rx ry ⟨i, j, rfl, rfl, q⟩
  obtain ⟨t, rfl⟩ := (show ∃ t, u = Value.int i t from rx)
  obtain ⟨t', rfl⟩ := (show ∃ t', v = Value.int j t' from ry)
  exact PyProof.Rows.iadd_int ⟨.int (i + j), H, I.tok _, ⟨_, rfl⟩, q⟩
end


section
variable {X : Cx} {pins : List (Addr × Obj)} {σ : St} {H : Hp} {s : Shared} {A : Around} {E : Value → Shared → Prop} {Q : Value → Shared → Prop} {c : Value} {b : Bool}

inductive TyOf (K : PySem.W.Frag) (H : Hp) : V → Value → Prop where
  | non : TyOf K H .non (.type "NoneType")
  | bl (x : Bool) : TyOf K H (.bl x) (.type "bool")
  | int (i : Int) : TyOf K H (.int i) (.type "int")
  | str (x : Str) : TyOf K H (.str x) (.type "str")
  | flt (x : UInt64) : TyOf K H (.flt x) (.type "float")
  | lst {a : Addr} {xs : List V} (e : H a = some (.lst xs)) : TyOf K H (.ref a) (.type "list")
  | frz {a : Addr} {o : Obj} {xs : List V} (e : H a = some (.frz o (.lst xs))) : TyOf K H (.ref a) (.type "list")
  | tup {a : Addr} {xs : List V} (e : H a = some (.tup xs)) : TyOf K H (.ref a) (.type "tuple")
  | dK {a : Addr} {kvs : List (Key × V)} (e : H a = some (.dK kvs)) : TyOf K H (.ref a) (.type "dict")
  | dT {a : Addr} {kvs : List (List Key × V)} (e : H a = some (.dT kvs)) : TyOf K H (.ref a) (.type "dict")
  | ins {a C dx : Addr} {fs : List (Str × V)} (e : H a = some (.ins C dx fs)) (cl : Cls K C) (ha : PySem.W.findIn K (.ref C) "__class__" = some (some (.builtin "object.__class__")))
      (hn : PySem.W.specialIn K (.builtin "object.__class__") "__get__" = some (some (.builtin "getset_descriptor.__get__"))) (htk : PySem.W.takesIn K (.builtin "object.__class__") = some true)
      (hm : PySem.W.mroIn K C (.type "object") = some true) : TyOf K H (.ref a) (.ref C)

theorem isinst_ok {x : V} {u t : Value} (I : Inv X pins σ H s) (rx : RelV x u) (ty : TyOf X.K H x t) (e : PySem.W.kitOne X.K t c = some b) (h : ∀ tk, Q (.bool b) { s with toks := tk }) :
    wpAny (model X.prog X.w) A (call (.builtin "isinstance") [u, c]) Q E s := by
  cases ty with
  | non => cases (show u = Value.none from rx); exact PySem.W.kia_one PySem.W.kitx_none I.kIn True.intro e (fun z => nomatch z) h
  | bl y => cases (show u = Value.bool y from rx); exact PySem.W.kia_one PySem.W.kitx_bool I.kIn True.intro e (fun z => nomatch z) h
  | int i => obtain ⟨t, q⟩ := (show ∃ t, u = Value.int i t from rx); cases q; exact PySem.W.kia_one PySem.W.kitx_int I.kIn True.intro e (fun z => nomatch z) h
  | str y => obtain ⟨t, q⟩ := (show ∃ t, u = Value.str y t from rx); cases q; exact PySem.W.kia_one PySem.W.kitx_str I.kIn True.intro e (fun z => nomatch z) h
  | flt y => obtain ⟨t, q⟩ := (show ∃ t, u = Value.float y t from rx); cases q; exact PySem.W.kia_one PySem.W.kitx_float I.kIn True.intro e (fun z => nomatch z) h
  | @lst a xs ea =>
    cases (show u = Value.ref a from rx)
    obtain ⟨_, _, n, _, h1⟩ := (show ObjOk X.prog X.w H s.heap a (.lst xs) from I.hok a _ ea)
    exact PySem.W.kia_one PySem.W.kitx_list I.kIn ⟨_, h1, rfl⟩ e (fun z => nomatch z) h
  | @frz a ob xs ea =>
    cases (show u = Value.ref a from rx)
    obtain ⟨_, _, _, n, _, h1⟩ := (show ObjOk X.prog X.w H s.heap a (.frz ob (.lst xs)) from I.hok a _ ea)
    exact PySem.W.kia_one PySem.W.kitx_list I.kIn ⟨_, h1, rfl⟩ e (fun z => nomatch z) h
  | @tup a xs ea =>
    cases (show u = Value.ref a from rx)
    obtain ⟨_, _, _, p⟩ := (show ObjOk X.prog X.w H s.heap a (.tup xs) from I.hok a _ ea)
    obtain ⟨o, h1, h2, _⟩ := p
    exact PySem.W.kia_one PySem.W.kitx_tuple I.kIn ⟨o, h1, h2⟩ e (fun z => nomatch z) h
  | @dK a kvs ea =>
    cases (show u = Value.ref a from rx)
    obtain ⟨_, _, vs, _, p⟩ := (show ObjOk X.prog X.w H s.heap a (.dK kvs) from I.hok a _ ea)
    obtain ⟨o, es, ep, h1, h2, _⟩ := p
    exact PySem.W.kia_one PySem.W.kitx_dict I.kIn ⟨o, h1, h2.1⟩ e (fun z => nomatch z) h
  | @dT a kvs ea =>
    cases (show u = Value.ref a from rx)
    obtain ⟨_, _, xs, _, o, es, ep, h1, h2, _⟩ := (show ObjOk X.prog X.w H s.heap a (.dT kvs) from I.hok a _ ea)
    exact PySem.W.kia_one PySem.W.kitx_dict I.kIn ⟨o, h1, h2.1⟩ e (fun z => nomatch z) h
  | @ins a C dx fs ea cl ha hn htk hm =>
    cases (show u = Value.ref a from rx)
    obtain ⟨mA, O, _⟩ := ins_get I.hok ea
    obtain ⟨od, J, _⟩ := O.look
    exact PySem.W.kia_one (PySem.W.kitx_own (cl.get _) cl.hd ha hn htk hm) I.kIn J e (fun z => nomatch z) h
end
end L2

namespace L2
open PySem PySem.Spec PyProof.Rows


structure Room (k : Nat) (A : Around) : Prop where
  hd : A.handled = none
  dp : A.depth + 3 * k + 5 < recursionLimit
  un : A.units + 16 * k + 200 < cLine
  gd : A.guards = some []
theorem Room.mono {j k : Nat} {A : Around} (r : Room k A) (h : j ≤ k) : Room j A := ⟨r.hd, by have := r.dp; omega, by have := r.un; omega, r.gd⟩
theorem Room.deeper {k : Nat} {A : Around} (r : Room (k + 1) A) (env : Env) : Room k (A.deeper env) :=
  ⟨r.hd, by have := r.dp; show A.depth + 1 + 3 * k + 5 < _; omega, by have := r.un; show A.units + 3 + 16 * k + 200 < _; omega, r.gd⟩
theorem Room.in1 {k : Nat} {A : Around} (r : Room (k + 1) A) : Room k A.in1 :=
  ⟨r.hd, by have := r.dp; show A.depth + 3 * k + 5 < _; omega, by have := r.un; show A.units + 1 + 16 * k + 200 < _; omega, r.gd⟩
theorem make_depth {A : Around} {C : Addr} {us : List Value} {kw : List (Str × Value)} : (A.under (.builtin "type.__call__" ⟨.ref C :: us, kw⟩)).depth = A.depth + 1 := by
  first | rfl | simp [Around.under, Code.weight, Code.isCreation, Code.isGuard, Code.isCaller, Code.frames, Code.isFrame, guardIds]
theorem make_units {A : Around} {C : Addr} {us : List Value} {kw : List (Str × Value)} : (A.under (.builtin "type.__call__" ⟨.ref C :: us, kw⟩)).units = A.units + 1 := by
  first | rfl | simp [Around.under, Code.cUnits, Code.frames, Code.isFrame]
theorem make_guards {A : Around} {C : Addr} {us : List Value} {kw : List (Str × Value)} : (A.under (.builtin "type.__call__" ⟨.ref C :: us, kw⟩)).guards = A.guards := by
  first | rfl | simp [Around.under, Code.guards, Code.isGuard, guardIds, pushGuards]
theorem Room.make {k : Nat} {A : Around} (r : Room (k + 1) A) (C : Addr) (us : List Value) (kw : List (Str × Value)) : Room k (A.under (.builtin "type.__call__" ⟨.ref C :: us, kw⟩)) :=
  ⟨r.hd, by have := r.dp; rw [make_depth]; omega, by have := r.un; rw [make_units]; omega, make_guards.trans r.gd⟩
theorem Room.depth {k : Nat} {A : Around} (r : Room k A) : A.depth < recursionLimit := by have := r.dp; omega
theorem Room.units {k : Nat} {A : Around} (r : Room k A) : A.units + 64 < cLine := by have := r.un; omega
def tNil : TA := fun _ H Q => Q [] H
def tCons (ta : TE) (tr : TA) : TA := fun σ H Q => ta σ H fun x H1 => tr σ H1 fun xs H2 => Q (x :: xs) H2
section
variable {X : Cx} {e : Expr} {es : List Expr} {te : TE} {t : TA} {pos : Pos}
theorem pa_nil : PA X [] tNil := ⟨fun _ _ _ _ H Q I h => Calls.spliced_nil ⟨[], H, I, .nil, h⟩⟩
theorem pa_cons (ha : PE X e te) (hr : PA X es t) (hs : starEach (e :: es) X.env = (false, eval e X.env) :: starEach es X.env := by rfl) : PA X (e :: es) (tCons te t) := by
  constructor
  intro pos pins s σ H Q I h
  rw [hs]
  show wpAny _ _ (spliced ((false, eval e X.env) :: backTo pos (starEach es X.env))) _ _ s
  refine Calls.spliced_cons (thn (ha pins s σ H _ I h) fun u s1 ⟨x, H1, I1, r1, q1⟩ => ?_)
  exact thn (hr pos pins s1 σ H1 _ I1 q1) fun us s2 ⟨xs, H2, I2, r2, q2⟩ => ⟨x :: xs, H2, I2, .cons r1 r2, q2⟩


def tTup (t : TA) : TE := fun σ H Q => t σ H fun xs H1 => xs.length ≤ sizeLine ∧ ∀ p, H1 p = none → Q (.ref p) (upd H1 p (.tup xs))
def tLst (t : TA) : TE := fun σ H Q => t σ H fun xs H1 => xs.length ≤ sizeLine ∧ ∀ p, H1 p = none → Q (.ref p) (upd H1 p (.lst xs))
theorem pe_tup {x1} (h : PA X es t) : PE X (.Tuple es x1 pos) (tTup t) := by
  constructor
  intro pins s σ H Q I hq
  refine wpAny_Tuple_spliced (thn (h pos pins s σ H _ I hq) fun us s1 ⟨xs, H1, I1, r, z, q⟩ => ⟨by rw [← r.length]; exact z, ?_⟩)
  have hf : H1 s1.heap.objs.size = none := I1.hok.fresh (Nat.le_refl _)
  refine ⟨.ref s1.heap.objs.size, upd H1 s1.heap.objs.size (.tup xs), I1.laid (t' := s1.toks) (fun b u e => Heap.get?_push_of_some _ e) (Nat.le_refl _) ?_, rfl, q _ hf⟩
  exact ⟨z, us, r, ⟨_, Heap.get?_push_size _ rfl, rfl, ⟨_, rfl⟩, rfl⟩⟩
theorem pe_lst (h : PA X es t) : PE X (.List es pos) (tLst t) := by
  constructor
  intro pins s σ H Q I hq
  refine wpAny_List_spliced (thn (h pos pins s σ H _ I hq) fun us s1 ⟨xs, H1, I1, r, z, q⟩ => ⟨by rw [← r.length]; exact z, ?_⟩)
  have hf : H1 s1.heap.objs.size = none := I1.hok.fresh (Nat.le_refl _)
  refine ⟨.ref s1.heap.objs.size, upd H1 s1.heap.objs.size (.lst xs), I1.laid (t' := s1.toks) (fun b u e => Heap.get?_push_of_some _ e) (Nat.le_refl _) ?_, rfl, q _ hf⟩
  exact ⟨z, us, 0, r, Heap.get?_push_size _ rfl⟩
end



abbrev Sp := List V → Hp → VK → XK → Prop

abbrev CXT := List Env → Hp → Shared → XK → Value → Shared → Prop


structure Env0 (P : Program) (w : World) (K : PySem.W.Frag) (mg : Str → Option Value) (base : Heap) (A : Around) (outer : List Env) (s : Shared) (H : Hp) : Prop where
  frames : A.frames = some outer
  mod : Mod K mg base
  bs : ∀ b o, base.get? b = some o → s.heap.get? b = some o ∧ H b = none
  bsz : base.objs.size ≤ s.heap.objs.size
  funs : s.heap.FunFrames base outer
  frf : ∀ b ∈ frs outer, H b = none
  hok : HOk P w H s.heap
  bare : AllBare s.gens

def CE (outer : List Env) (P : Program) (w : World) (H : Hp) (s : Shared) (Q : VK) (u : Value) (s' : Shared) : Prop :=
  ∃ v H', s'.os = s.os ∧ AllBare s'.gens ∧ Un (frs outer) [] H H' s.heap s'.heap ∧ HOk P w H' s'.heap ∧ RelV v u ∧ Q v H'
def CR (CX : CXT) (outer : List Env) (P : Program) (w : World) (H : Hp) (s : Shared) (Q : VK) (E : XK) (r : Result) (s' : Shared) : Prop :=
  match r with
  | .ok (.ret u) => CE outer P w H s Q u s'
  | .ok _ => False
  | .error e => CX outer H s E e s'
structure FnOk (P : Program) (w : World) (K : PySem.W.Frag) (mg : Str → Option Value) (base : Heap) (CX : CXT) (k : Nat) (f : Addr) (fd : FuncData) (ps : List Str) (sp : Sp) : Prop where
  len : ∀ vs H Q E, sp vs H Q E → vs.length = ps.length
  run : ∀ (A : Around) (outer : List Env) (s : Shared) (H : Hp) (args : Args) (us : List Value) (vs : List V) (Q : VK) (E : XK), Room k A → Env0 P w K mg base A outer s H → BindsTo s fd args (ps.zip us) → Vals vs us → sp vs H Q E →
    codeAny (model P w) A (.call (.ref f) args) (CR CX outer P w H s Q E) s
theorem Env0.make {P : Program} {w : World} {K : PySem.W.Frag} {mg : Str → Option Value} {base : Heap} {A : Around} {outer : List Env} {s : Shared} {H : Hp} (e : Env0 P w K mg base A outer s H) (C : Addr) (us : List Value) (kw : List (Str × Value)) :
    Env0 P w K mg base (A.under (.builtin "type.__call__" ⟨.ref C :: us, kw⟩)) outer s H := ⟨by first | exact e.frames | (simpa [Around.under, Code.envs, Code.isFrame, pushEnvs] using e.frames), e.mod, e.bs, e.bsz, e.funs, e.frf, e.hok, e.bare⟩
theorem Env0.in1 {P : Program} {w : World} {K : PySem.W.Frag} {mg : Str → Option Value} {base : Heap} {A : Around} {outer : List Env} {s : Shared} {H : Hp} (e : Env0 P w K mg base A outer s H) :
    Env0 P w K mg base A.in1 outer s H := ⟨e.frames, e.mod, e.bs, e.bsz, e.funs, e.frf, e.hok, e.bare⟩

section
variable {X : Cx} {pins : List (Addr × Obj)} {σ : St} {H : Hp} {s s' : Shared}

theorem Inv.env0 (I : Inv X pins σ H s) : Env0 X.prog X.w X.K X.mg X.base X.A X.stack s H :=
  ⟨I.ok.frames, I.ok.mod, I.bs, Nat.le_trans I.ok.bsz I.sz, I.stack, I.stkFree, I.hok, I.bare⟩

theorem Inv.after {Q : VK} {u : Value} (I : Inv X pins σ H s) (h : CE X.stack X.prog X.w H s Q u s') : EP X pins σ Q u s' := by
  obtain ⟨v, H', os, bare, un, hok, r, q⟩ := h
  obtain ⟨hh, g, d, t, os'⟩ := s'
  obtain rfl : os' = s.os := os
  exact ⟨v, H', I.call (h' := hh) (g' := g) (d' := d) (t' := t) (ch := []) un hok bare (fun b z => absurd z (by simp)), r, q⟩
end



def tCall (sp : Sp) (dvs : List V) (E : XK) (t : TA) : TE := fun σ H Q => t σ H fun vs H1 => sp (vs ++ dvs) H1 Q E

def tMeth (C : Addr) (m : Str) (sp : Sp) (dvs : List V) (E : XK) (ta : TE) (t : TA) : TE := fun σ H Q => ta σ H fun x H1 => ∃ a dx fs, x = .ref a ∧ H1 a = some (.ins C dx fs) ∧ fs.lookup m = none ∧
  t σ H1 fun vs H2 => sp (x :: (vs ++ dvs)) H2 Q E

def tMake (C : Addr) (sp : Sp) (dvs : List V) (E : XK) (t : TA) : TE := fun σ H Q => t σ H fun vs H1 => ∀ x dx, H1 x = none → H1 dx = none → dx ≠ x →
  sp (.ref x :: (vs ++ dvs)) (upd (upd H1 dx (.own x)) x (.ins C dx [])) (fun v H2 => v = .non ∧ Q (.ref x) H2) E


def Binds (K : PySem.W.Frag) (fd : FuncData) (ps : List Str) (ds : List Value) : Prop :=
  ∀ (s : Shared) (us : List Value), K.In s.heap → (us ++ ds).length = ps.length → BindsTo s fd ⟨us, []⟩ (ps.zip (us ++ ds))

theorem Binds.all {K : PySem.W.Frag} {fd : FuncData} {ps : List Str} (h : ∀ us : List Value, us.length = ps.length → bindArgs fd ⟨us, []⟩ = pure (ps.zip us)) : Binds K fd ps [] := fun s us _ hl => by
  rw [List.append_nil] at hl ⊢
  exact .of_eq (h us hl)


def Passes (CX : CXT) (X : Cx) (E : XK) : Prop := ∀ (pins : List (Addr × Obj)) (σ : St) (H : Hp) (s : Shared) (e : Value) (s' : Shared), Inv X pins σ H s → CX X.stack H s E e s' → X.xe e s'

section
variable {X : Cx} {CX : CXT} {k : Nat} {f C : Addr} {fd : FuncData} {ps : List Str} {sp : Sp} {dvs : List V} {ds : List Value} {E : XK} {x m : Str} {p pos apos : Pos} {e o : Expr} {es : List Expr} {ta : TE} {t : TA}


theorem run_fn {pins : List (Addr × Obj)} {σ : St} {H : Hp} {s : Shared} {Q : VK} {us : List Value} {vs : List V} (F : FnOk X.prog X.w X.K X.mg X.base CX k f fd ps sp) (hr : Room k X.A) (hb : Binds X.K fd ps ds) (hd : Vals dvs ds) (hx : Passes CX X E)
    (I : Inv X pins σ H s) (r : Vals vs us) (h : sp (vs ++ dvs) H Q E) : wpAny (model X.prog X.w) X.A (call (.ref f) us) (EP X pins σ Q) X.xe s := by
  have r2 : Vals (vs ++ dvs) (us ++ ds) := r.append hd
  have hl : (us ++ ds).length = ps.length := by rw [← r2.length]; exact F.len _ _ _ _ h
  refine wpAny_call (codeAny_mono (F.run X.A X.stack s H ⟨us, []⟩ (us ++ ds) (vs ++ dvs) Q E hr I.env0 (hb s us I.kIn hl) r2 h) fun r s' hq => ?_)
  cases r with
  | error e => exact hx pins σ H s e s' I hq
  | ok fl =>
    cases fl with
    | ret u => exact I.after hq
    | next => exact False.elim hq
    | brk => exact False.elim hq
    | cont => exact False.elim hq

theorem pe_call (F : FnOk X.prog X.w X.K X.mg X.base CX k f fd ps sp) (hr : Room k X.A) (hg : Gl X x) (hm : X.mg x = some (.ref f)) (hk : PySem.W.keepIn X.K (.ref f) = true) (hb : Binds X.K fd ps ds) (hd : Vals dvs ds) (hx : Passes CX X E)
    (ha : PA X (e :: es) t) (hdb : (x == ("__debug__" : Str)) = false := by decide) (he : starEach (e :: es) X.env = (false, eval e X.env) :: starEach es X.env := by rfl) (hpl : (backTo pos (starEach es X.env)).any (·.1) = false := by rfl) :
    PE X (.Call (.Name x p) (e :: es) [] pos) (tCall sp dvs E t) := by
  constructor
  intro pins s σ H Q I h
  refine wpAny_Call_Name_kw (ld_glob I hg hm ?_ hdb)
  refine PySem.W.callWith_K (h₀ := X.base) I.ok.mod.kin hk (thn (ha pos pins s σ H _ I h) fun us s1 ⟨vs, H1, I1, r, q⟩ => ⟨I1.kIn, ?_⟩) he hpl
  exact run_fn F hr hb hd hx I1 r q
theorem pe_meth {pl : Sem Bool} (he : PE X o ta) (c : Cls X.K C) (hm : Meth X.K C m f) (F : FnOk X.prog X.w X.K X.mg X.base CX k f fd ps sp) (hr : Room k X.A) (hb : Binds X.K fd ps ds) (hd : Vals dvs ds) (hx : Passes CX X E) (ha : PA X (e :: es) t)
    (hst : starEach (e :: es) X.env = (false, eval e X.env) :: starEach es X.env := by rfl) (hpl : (backTo pos (starEach es X.env)).any (·.1) = false := by rfl)
    (ht : eval (.Call (.Attribute o m apos) (e :: es) [] pos) X.env = (do
      let ov ← eval o X.env
      standAt apos.atName
      let (f, first) ← holding [ov] (getMethod ov m pl)
      callWith pos f first (backTo pos (starEach (e :: es) X.env)) (backToKw pos (keywordEach [] X.env))) := by rfl) :
    PE X (.Call (.Attribute o m apos) (e :: es) [] pos) (tMeth C m sp dvs E ta t) := by
  constructor
  intro pins s σ H Q I h
  refine PySem.W.methodCall_KW (pl := pl) (thn (he pins s σ H _ I h) fun u s1 ⟨x, H1, I1, rx, a, dx, fs, ex, ea, l, q⟩ => ?_) ht
  subst ex
  obtain rfl : u = Value.ref a := rx
  refine getmeth_ok I1 ea c hm l ?_
  refine PySem.W.callWith_K (first := [.ref a]) (h₀ := X.base) I.ok.mod.kin hm.kp (thn (ha pos pins s1 σ H1 _ I1 q) fun us s2 ⟨vs, H2, I2, r, q2⟩ => ⟨I2.kIn, ?_⟩) hst hpl
  exact run_fn (us := .ref a :: us) (vs := .ref a :: vs) F hr hb hd hx I2 (.cons rfl r) q2

theorem pe_meth0 {pl : Sem Bool} (he : PE X o ta) (c : Cls X.K C) (hm : Meth X.K C m f) (F : FnOk X.prog X.w X.K X.mg X.base CX k f fd ps sp) (hr : Room k X.A) (hb : Binds X.K fd ps ds) (hd : Vals dvs ds) (hx : Passes CX X E)
    (ht : eval (.Call (.Attribute o m apos) [] [] pos) X.env = (do
      let ov ← eval o X.env
      standAt apos.atName
      let (f, first) ← holding [ov] (getMethod ov m pl)
      callWith pos f first (backTo pos (starEach [] X.env)) (backToKw pos (keywordEach [] X.env))) := by rfl) :
    PE X (.Call (.Attribute o m apos) [] [] pos) (tMeth C m sp dvs E ta tNil) := by
  constructor
  intro pins s σ H Q I h
  refine PySem.W.methodCall_KW (pl := pl) (thn (he pins s σ H _ I h) fun u s1 ⟨x, H1, I1, rx, a, dx, fs, ex, ea, l, q⟩ => ?_) ht
  subst ex
  obtain rfl : u = Value.ref a := rx
  refine getmeth_ok I1 ea c hm l ?_
  exact PySem.W.callWith_K0 (first := [.ref a]) I1.kIn hm.kp (run_fn (us := [.ref a]) (vs := [.ref a]) F hr hb hd hx I1 (.cons rfl .nil) q)


structure Mk (K : PySem.W.Frag) (C f : Addr) : Prop where
  makes : PySem.W.makesIn K C = true
  init : PySem.W.findIn K (.ref C) "__init__" = some (some (.ref f))
  fn : PySem.W.isFn K (.ref f) = true
  kp : PySem.W.keepIn K (.ref C) = true

theorem run_make {pins : List (Addr × Obj)} {σ : St} {H : Hp} {s : Shared} {Q : VK} {us : List Value} {vs : List V} (M : Mk X.K C f) (F : FnOk X.prog X.w X.K X.mg X.base CX k f fd ps sp) (hr : Room (k + 1) X.A) (hb : Binds X.K fd ps ds) (hd : Vals dvs ds)
    (hx : Passes CX X E) (I : Inv X pins σ H s) (r : Vals vs us)
    (h : ∀ x dx, H x = none → H dx = none → dx ≠ x → sp (.ref x :: (vs ++ dvs)) (upd (upd H dx (.own x)) x (.ins C dx [])) (fun v H2 => v = .non ∧ Q (.ref x) H2) E) :
    wpAny (model X.prog X.w) X.A (call (.ref C) us) (EP X pins σ Q) X.xe s := by
  have hq := h (s.heap.objs.size + 1) s.heap.objs.size (I.hok.fresh (Nat.le_succ _)) (I.hok.fresh (Nat.le_refl _)) (Nat.ne_of_lt (Nat.lt_succ_self _))
  have I2 := Inv.made (C := C) I
  have r2 : Vals (V.ref (s.heap.objs.size + 1) :: (vs ++ dvs)) (Value.ref (s.heap.objs.size + 1) :: (us ++ ds)) := .cons rfl (r.append hd)
  have hl : (Value.ref (s.heap.objs.size + 1) :: us ++ ds).length = ps.length := by
    have e := r2.length
    rw [F.len _ _ _ _ hq] at e
    exact e.symm
  refine wpAny_call (make_map (f := f) I.kIn M.makes M.init (beq_iff_eq.mp M.fn) (codeAny_mono (F.run _ X.stack _ _ ⟨Value.ref (s.heap.objs.size + 1) :: us, []⟩ (Value.ref (s.heap.objs.size + 1) :: (us ++ ds)) _ _ E (hr.make C us [])
    (I2.env0.make C us []) (hb _ (Value.ref (s.heap.objs.size + 1) :: us) I2.kIn hl) r2 hq) fun r s' hq' => ?_))
  cases r with
  | error e => exact hx pins σ _ _ e s' I2 hq'
  | ok fl =>
    cases fl with
    | ret u =>
      obtain ⟨v, H', I3, rv, ev, q3⟩ := I2.after hq'
      subst ev
      exact ⟨rv, ⟨V.ref (s.heap.objs.size + 1), H', I3, rfl, q3⟩⟩
    | next => exact False.elim hq'
    | brk => exact False.elim hq'
    | cont => exact False.elim hq'
theorem pe_make (M : Mk X.K C f) (F : FnOk X.prog X.w X.K X.mg X.base CX k f fd ps sp) (hr : Room (k + 1) X.A) (hg : Gl X x) (hm : X.mg x = some (.ref C)) (hb : Binds X.K fd ps ds) (hd : Vals dvs ds) (hx : Passes CX X E)
    (ha : PA X (e :: es) t) (hdb : (x == ("__debug__" : Str)) = false := by decide) (he : starEach (e :: es) X.env = (false, eval e X.env) :: starEach es X.env := by rfl) (hpl : (backTo pos (starEach es X.env)).any (·.1) = false := by rfl) :
    PE X (.Call (.Name x p) (e :: es) [] pos) (tMake C sp dvs E t) := by
  constructor
  intro pins s σ H Q I h
  refine wpAny_Call_Name_kw (ld_glob I hg hm ?_ hdb)
  refine PySem.W.callWith_K (h₀ := X.base) I.ok.mod.kin M.kp (thn (ha pos pins s σ H _ I h) fun us s1 ⟨vs, H1, I1, r, q⟩ => ⟨I1.kIn, ?_⟩) he hpl
  exact run_make M F hr hb hd hx I1 r q
end



structure PK (X : Cx) (kws : List Keyword) (t : TA) : Prop where
  run :
    ∀ (pos : Pos) (pins : List (Addr × Obj)) (s : Shared) (σ : St) (H : Hp) (Q : List V → Hp → Prop), Inv X pins σ H s → t σ H Q → wpAny (model X.prog X.w) X.A (evalAll ((backToKw pos (keywordEach kws X.env)).map (·.2))) (AP X pins σ Q) X.xe s
instance {X : Cx} {kws : List Keyword} {t : TA} : CoeFun (PK X kws t) (fun _ =>
  ∀ (pos : Pos) (pins : List (Addr × Obj)) (s : Shared) (σ : St) (H : Hp) (Q : List V → Hp → Prop), Inv X pins σ H s → t σ H Q → wpAny (model X.prog X.w) X.A (evalAll ((backToKw pos (keywordEach kws X.env)).map (·.2))) (AP X pins σ Q) X.xe s) := ⟨PK.run⟩
section
variable {X : Cx} {CX : CXT} {k : Nat} {f C : Addr} {fd : FuncData} {ps ks : List Str} {sp : Sp} {E : XK} {x m : Str} {p pos apos kpos : Pos} {e o : Expr} {es : List Expr} {kws : List Keyword} {te ta : TE} {t tk : TA} {nm : Option Str}
theorem pk_nil : PK X [] tNil := ⟨fun _ _ _ _ H Q I h => wpAny_evalAll_nil ⟨[], H, I, .nil, h⟩⟩
theorem pk_cons (ha : PE X e te) (hr : PK X kws t) : PK X (⟨nm, e, kpos⟩ :: kws) (tCons te t) := by
  constructor
  intro pos pins s σ H Q I h
  show wpAny _ _ (evalAll ((do let v ← eval e X.env; standAt pos; pure v) :: (backToKw pos (keywordEach kws X.env)).map (·.2))) _ _ s
  refine wpAny_evalAll_cons (wpAny_bind (thn (ha pins s σ H _ I h) fun u s1 ⟨x, H1, I1, r1, q1⟩ => wpAny_bind (wpAny_standAt (wpAny_pure ?_))))
  exact thn (hr pos pins s1 σ H1 _ I1 q1) fun us s2 ⟨xs, H2, I2, r2, q2⟩ => ⟨x :: xs, H2, I2, .cons r1 r2, q2⟩


structure KBinds (K : PySem.W.Frag) (fd : FuncData) (ps ks : List Str) (g : List Value → List Value → List Value) (gV : List V → List V → List V) : Prop where
  to : ∀ (s : Shared) (us ws : List Value), K.In s.heap → (g us ws).length = ps.length → BindsTo s fd ⟨us, ks.zip ws⟩ (ps.zip (g us ws))
  rel : ∀ {vs : List V} {us : List Value} {zs : List V} {ws : List Value}, Vals vs us → Vals zs ws → Vals (gV vs zs) (g us ws)
def tCallK (sp : Sp) (gV : List V → List V → List V) (E : XK) (t tk : TA) : TE := fun σ H Q => t σ H fun vs H1 => tk σ H1 fun zs H2 => sp (gV vs zs) H2 Q E
variable {g : List Value → List Value → List Value} {gV : List V → List V → List V}
end



structure FnScope (N P : List Str) (sc : Scope) : Prop where
  kind : sc.kind = .function
  co : sc.isCoroutine = false
  gen : sc.isGenerator = false
  nd : N.Nodup
  pre : N.take P.length = P
  par : ∀ x ∈ P, sc.names.lookup x = some .local ∨ sc.names.lookup x = some .cell
  nofree : ∀ y ∈ sc.names, y.2 ≠ .free

theorem bindL_out {kindOf : Str → Option NameKind} {x : Str} : ∀ {binds : List (Str × Value)} {m : Str → Option Value}, (∀ v, (x, v) ∉ binds) → bindL kindOf binds m x = m x
  | [], _, _ => rfl
  | (n, v) :: r, m, h => by
    unfold bindL
    rw [bindL_out fun w hw => h w (List.mem_cons_of_mem _ hw)]
    split
    · have : x ≠ n := by rintro rfl; exact h v List.mem_cons_self
      simp [this]
    · rfl
theorem bindC_out {kindOf : Str → Option NameKind} {x : Str} : ∀ {binds : List (Str × Value)} {m : Str → Option Value}, (∀ v, (x, v) ∉ binds) → bindC kindOf binds m x = m x
  | [], _, _ => rfl
  | (n, v) :: r, m, h => by
    unfold bindC
    rw [bindC_out fun w hw => h w (List.mem_cons_of_mem _ hw)]
    split
    · rfl
    · have : x ≠ n := by rintro rfl; exact h v List.mem_cons_self
      simp [this]
theorem bindL_get {kindOf : Str → Option NameKind} {x : Str} {v : Value} : ∀ {P : List Str} {vs : List Value} {i : Nat} {m : Str → Option Value}, P.Nodup → P[i]? = some x → vs[i]? = some v → kindOf x = some .local →
    bindL kindOf (P.zip vs) m x = some v
  | [], _, _, _, _, h, _, _ => by simp at h
  | _ :: _, [], _, _, _, _, h, _ => by simp at h
  | p :: P, w :: vs, 0, m, nd, h1, h2, hk => by
    simp at h1 h2; subst h1; subst h2
    show bindL kindOf ((p, w) :: P.zip vs) m p = _
    unfold bindL
    rw [bindL_out fun v hv => (List.nodup_cons.mp nd).1 (List.of_mem_zip hv).1, if_pos hk]
    simp
  | p :: P, w :: vs, i + 1, m, nd, h1, h2, hk => by
    show bindL kindOf ((p, w) :: P.zip vs) m x = _
    unfold bindL
    exact bindL_get (i := i) (List.nodup_cons.mp nd).2 (by simpa using h1) (by simpa using h2) hk
theorem bindC_get {kindOf : Str → Option NameKind} {x : Str} {v : Value} : ∀ {P : List Str} {vs : List Value} {i : Nat} {m : Str → Option Value}, P.Nodup → P[i]? = some x → vs[i]? = some v → kindOf x ≠ some .local →
    bindC kindOf (P.zip vs) m x = some v
  | [], _, _, _, _, h, _, _ => by simp at h
  | _ :: _, [], _, _, _, _, h, _ => by simp at h
  | p :: P, w :: vs, 0, m, nd, h1, h2, hk => by
    simp at h1 h2; subst h1; subst h2
    show bindC kindOf ((p, w) :: P.zip vs) m p = _
    unfold bindC
    rw [bindC_out fun v hv => (List.nodup_cons.mp nd).1 (List.of_mem_zip hv).1, if_neg hk]
    simp
  | p :: P, w :: vs, i + 1, m, nd, h1, h2, hk => by
    show bindC kindOf ((p, w) :: P.zip vs) m x = _
    unfold bindC
    exact bindC_get (i := i) (List.nodup_cons.mp nd).2 (by simpa using h1) (by simpa using h2) hk


def start (N : List Str) (vs : List V) : St := vs.map some ++ List.replicate (N.length - vs.length) none


def cxOf (CX : CXT) (P : Program) (w : World) (K : PySem.W.Frag) (mg : Str → Option Value) (base : Heap) (N : List Str) (qual : Str) (scope : Scope) (f : Addr) (cd : Value) (A : Around) (outer : List Env) (s : Shared) (H : Hp) (E : XK) : Cx where
  prog := P
  w := w
  K := K
  mg := mg
  base := base
  A := A.deeper (envOfC qual scope s.heap.objs.size f cd)
  N := N
  s_0 := s
  H_0 := H
  env := envOfC qual scope s.heap.objs.size f cd
  outer := outer
  stack := envOfC qual scope s.heap.objs.size f cd :: outer
  ex := []
  calm := true
  fn := fun _ => true
  pn := []
  xe := fun e s' => wpAny (model P w) (A.deeper (envOfC qual scope s.heap.objs.size f cd)) (leaving (envOfC qual scope s.heap.objs.size f cd) e) (fun _ s'' => CX outer H s E e s'') (fun e' s'' => CX outer H s E e' s'') s'

theorem cell_has {sc : Scope} {n : Nat} {x : Str} (h : sc.names.lookup x = some .cell) : ∃ c, (cellsFrom n sc.names []).lookup x = some c := by
  have q := PySem.W.cellsFrom_some sc.names n [] (.inl h)
  exact Option.isSome_iff_exists.mp q

theorem inv_start {CX : CXT} {P : Program} {w : World} {K : PySem.W.Frag} {mg : Str → Option Value} {base : Heap} {N ps : List Str} {qual : Str} {scope : Scope} {f : Addr} {cd : Value} {A : Around} {outer : List Env} {s s1 : Shared} {H : Hp} {E : XK} {us : List Value} {vs : List V}
    (S : FnScope N ps scope) (hd : A.handled = none) (e0 : Env0 P w K mg base A outer s H) (hl : vs.length = ps.length) (r : Vals vs us)
    (x : InCallC s s.heap.objs.size (bindL (envOfC qual scope s.heap.objs.size f cd).kindOf (ps.zip us) fun _ => none) (cellsFrom (s.heap.objs.size + 1) scope.names []) (bindC (envOfC qual scope s.heap.objs.size f cd).kindOf (ps.zip us) fun _ => none) s1) :
    Inv (cxOf CX P w K mg base N qual scope f cd A outer s H E) [] (start N vs) H s1 := by
  have hpl : ps.length ≤ N.length := by have := congrArg List.length S.pre; rw [List.length_take] at this; omega
  obtain ⟨h1, tk, rfl, hk⟩ := x.done
  have noA : ∀ b : Addr, b ∉ (cxOf CX P w K mg base N qual scope f cd A outer s H E).ex := fun b z => absurd (show b ∈ ([] : List Addr) from z) (by simp)
  refine ⟨⟨e0.mod, S.kind, rfl, rfl, Nat.le_refl _, fun y z c h1 h2 => ?_, fun y hy => ?_, fun y c _ h => ?_, fun _ => hd, Around.frames_deeper e0.frames, .inr ⟨rfl, rfl⟩, fun b z => absurd z (noA b), e0.bs, e0.bsz, fun b _ _ => noA b, fun b z => absurd z (noA b), e0.funs, e0.frf⟩,
    rfl, e0.bare, Un.kept hk, ⟨_, x.toInCall.ns, fun i y v h1 h2 h3 => ?_⟩, fun y c h => ⟨_, x.cell y c h⟩, e0.hok.fresh (Nat.le_refl _), fun y c h => ?_, fun p hp => absurd (show p ∈ ([] : List (Addr × Obj)) from hp) (by simp), e0.hok.kept hk, ?_⟩
  · exact name_of_addr x.apart (PySem.mem_of_lookup h1) (PySem.mem_of_lookup h2)
  · have hy : scope.names.lookup y = some .cell ∨ scope.names.lookup y = some .free := hy
    rcases hy with hy | hy
    · exact cell_has hy
    · exact absurd rfl (S.nofree _ (PySem.mem_of_lookup hy))
  · exact Nat.le_of_lt (x.above y c (PySem.mem_of_lookup h))
  · have hi : i < vs.length := by
      unfold start at h2
      by_cases hi : i < vs.length
      · exact hi
      · rw [List.getElem?_append_right (by simpa using hi)] at h2
        rw [List.getElem?_replicate] at h2
        split at h2 <;> cases h2
    have ha : vs[i]? = some v := by
      unfold start at h2
      rw [List.getElem?_append_left (by simpa using hi), List.getElem?_map] at h2
      cases e : vs[i]? with
      | none => rw [e] at h2; cases h2
      | some a => rw [e] at h2; cases h2; rfl
    obtain ⟨u, hu, rv⟩ := r.get ha
    have hp : ps[i]? = some y := by
      rw [← S.pre, List.getElem?_take_of_lt (by omega)]; exact h1
    have ndP : ps.Nodup := by rw [← S.pre]; exact S.nd.sublist (List.take_sublist _ _)
    refine ⟨u, rv, ?_⟩
    rcases S.par y (List.mem_of_getElem? hp) with k | k
    · exact .inl ⟨k, bindL_get ndP hp hu k⟩
    · obtain ⟨c, e⟩ := cell_has (n := s.heap.objs.size + 1) k
      refine .inr ⟨.inl k, c, e, ?_⟩
      have q := x.cell y c e
      rw [bindC_get ndP hp hu (by show scope.names.lookup y ≠ _; rw [k]; decide)] at q
      exact q
  · exact e0.hok.fresh (Nat.le_of_lt (x.above y c (PySem.mem_of_lookup h)))
  · unfold start
    show _ = N.length
    rw [List.length_append, List.length_map, List.length_replicate]
    omega


theorem fn_of {CX : CXT} {P : Program} {w : World} {K : PySem.W.Frag} {mg : Str → Option Value} {base : Heap} {k : Nat} {f : Addr} {name qual : Str} {params : Arguments} {body : List Stmt} {scope : Scope} {dV kV doc pm cdv ct oc : Value} {an od : Option Addr}
    {osl : Array (Option Value)} {N ps : List Str} {sp : Sp} (lk : K.lookup f = some ⟨oc, od, .func (PySem.W.fnOf name qual params body scope dV kV doc pm an cdv ct), osl⟩) (hcd : PySem.W.codeIn K cdv qual = true) (S : FnScope N ps scope)
    (len : ∀ vs H Q E, sp vs H Q E → vs.length = ps.length)
    (hbody : ∀ (A : Around) (outer : List Env) (s : Shared) (H : Hp) (vs : List V) (Q : VK) (E : XK), Room k (A.deeper (envOfC qual scope s.heap.objs.size f cdv)) → sp vs H Q E →
      ∃ t, PSs (cxOf CX P w K mg base N qual scope f cdv A outer s H E) body t ∧ t { nx := fun _ H' => Q .non H', rt := Q } (start N vs) H) :
    FnOk P w K mg base CX (k + 1) f (PySem.W.fnOf name qual params body scope dV kV doc pm an cdv ct) ps sp := by
  refine ⟨len, fun A outer s H args us vs Q E hr e0 hb r hsp => ?_⟩
  have hl := len _ _ _ _ hsp
  have KX : K.In s.heap := e0.mod.kin.keeps fun b o e => (e0.bs b o e).1
  have lim : s.heap.NoLimit := e0.mod.nolimit.keeps fun b o e => (e0.bs b o e).1
  have hkind : ∀ y ∈ ps.zip us, scope.names.lookup y.1 = some .local ∨ (scope.names.lookup y.1 = some .cell ∧ ((cellsFrom (s.heap.objs.size + 1) scope.names []).lookup y.1).isSome = true) := fun ⟨n, v⟩ hy => by
    rcases S.par n (List.of_mem_zip hy).1 with q | q
    · exact .inl q
    · exact .inr ⟨q, PySem.W.cellsFrom_some _ _ _ (.inl q)⟩
  refine codeAny_call_function hr.depth (KX _ _ lk) rfl S.co S.gen rfl (PySem.W.codeRec_of KX hcd) (hb _ _ _ _ ?_)
  refine wpAny_newFunctionEnv_cells S.kind hkind fun env he s1 x => ?_
  subst he
  refine ⟨lim.keeps x.toInCall.keep, codeAny_func ?_⟩
  obtain ⟨t, ht, hq⟩ := hbody A outer s H vs Q E (hr.deeper _) hsp
  have I : Inv (cxOf CX P w K mg base N qual scope f cdv A outer s H E) [] (start N vs) H s1 := inv_start S hr.hd e0 hl r x
  refine wpAny_mono (ht [] s1 (start N vs) H _ I hq) (fun fl s' hs => ?_) fun e s' hs => hs
  have fin : ∀ {σ' : St} {H' : Hp} {v : V} {u : Value}, Inv (cxOf CX P w K mg base N qual scope f cdv A outer s H E) [] σ' H' s' → RelV v u → Q v H' → CE outer P w H s Q u s' :=
    fun {σ' H' v u} J rv q => ⟨v, H', J.os, J.bare, J.base, J.hok, rv, q⟩
  cases fl with
  | ret u =>
    obtain ⟨v, σ', H', J, rv, q⟩ := hs
    exact fin J rv q
  | next =>
    obtain ⟨σ', H', J, q⟩ := hs
    exact fin (v := V.non) (u := Value.none) J rfl q
  | brk =>
    obtain ⟨_, _, _, q⟩ := hs
    exact False.elim q
  | cont =>
    obtain ⟨_, _, _, q⟩ := hs
    exact False.elim q
end L2

namespace L2
open PySem PySem.Spec PyProof.Rows
section
variable {X : Cx} {x : Str} {p pos : Pos} {e : Expr} {es : List Expr} {t : TA} {id T : String} {r : List V → Hp → VK → Prop}

def tCB (r : List V → Hp → VK → Prop) (t : TA) : TE := fun σ H Q => t σ H fun vs H1 => r vs H1 Q

theorem pe_callB (hc : CallR X (.builtin id) r) (hg : Gl X x) (hm : X.mg x = none) (hv : bootBuiltins x = some (.builtin id)) (ha : PA X (e :: es) t) (hn : x ≠ "__name__" := by decide) (hdb : (x == ("__debug__" : Str)) = false := by decide)
    (he : starEach (e :: es) X.env = (false, eval e X.env) :: starEach es X.env := by rfl) (hpl : (backTo pos (starEach es X.env)).any (·.1) = false := by rfl) : PE X (.Call (.Name x p) (e :: es) [] pos) (tCB r t) := by
  constructor
  intro pins s σ H Q I h
  refine wpAny_Call_Name_kw (ld_blt I hg hm hv ?_ hn hdb)
  exact PyProof.Rows.callWith_builtin1 (thn (ha pos pins s σ H _ I h) fun us s1 ⟨vs, H1, I1, r1, q1⟩ => hc pins s1 σ H1 vs us Q I1 r1 q1) he hpl

theorem pe_callTy (hc : CallR X (.type T) r) (hg : Gl X x) (hm : X.mg x = none) (hv : bootBuiltins x = some (.type T)) (ha : PA X (e :: es) t) (hn : x ≠ "__name__" := by decide) (hdb : (x == ("__debug__" : Str)) = false := by decide)
    (he : starEach (e :: es) X.env = (false, eval e X.env) :: starEach es X.env := by rfl) (hpl : (backTo pos (starEach es X.env)).any (·.1) = false := by rfl) : PE X (.Call (.Name x p) (e :: es) [] pos) (tCB r t) := by
  constructor
  intro pins s σ H Q I h
  refine wpAny_Call_Name_kw (ld_blt I hg hm hv ?_ hn hdb)
  exact PyProof.Rows.callWith_type1 (thn (ha pos pins s σ H _ I h) fun us s1 ⟨vs, H1, I1, r1, q1⟩ => hc pins s1 σ H1 vs us Q I1 r1 q1) he hpl

end
end L2

namespace HT
open PySem PyProof.Rows


def lexLt : List Int → List Int → Bool
  | [], [] => false
  | [], _ :: _ => true
  | _ :: _, [] => false
  | x :: xs, y :: ys => if x = y then lexLt xs ys else decide (x < y)
section
open PySem.SeqAt
open PySem.AutoSeq1 (wpAny_loadPart')
open PySem.MeetsSeq PySem.MeetsSeq2 PySem.MeetsSeq3

end

section
variable {prog : Program} {w : World} {A : Around} {E : Value → Shared → Prop} {s : Shared}

theorem cat_tup {t b : Addr} {vs ws : List Value} {Q : Value → Shared → Prop} (ht : IsTup s.heap t vs.toArray) (hb : IsTup s.heap b ws.toArray) (hv : vs ≠ [])
    (h1 : ws = [] → Q (.ref t) s) (h2 : ws ≠ [] → Q (.ref s.heap.objs.size) { s with heap := s.heap.push { cls := .type "tuple", data := .seq (vs ++ ws).toArray } })
    (hsz : vs.length + ws.length ≤ sizeLine) : wpAny (model prog w) A (binaryOp .Add (.ref t) (.ref b)) Q E s := by
  obtain ⟨⟨cls, dd, data, sl⟩, ho, hc, n, hd⟩ := id ht
  obtain ⟨⟨cls2, dd2, data2, sl2⟩, ho2, hc2, n2, hd2⟩ := id hb
  simp only at hc hd hc2 hd2
  subst hc hd hc2 hd2
  have e : vs.toArray ++ ws.toArray = (vs ++ ws).toArray := by simp
  by_cases hw : ws = []
  · exact concat_meets ⟨_, ho, rfl⟩ ⟨_, ho2, rfl⟩ noFill_tuple_add seq_tuple_add PySem.F.slot_tuple_add PySem.F.entry_tuple_add (PySem.F.args_tuple_add_2 _ _)
      (tuple_addW1 t b vs.toArray ws.toArray n n2 dd dd2 sl sl2 (by simpa using hv) (by simp [hw])) ⟨ho, ho2, h1 hw⟩
  · refine concat_meets ⟨_, ho, rfl⟩ ⟨_, ho2, rfl⟩ noFill_tuple_add seq_tuple_add PySem.F.slot_tuple_add PySem.F.entry_tuple_add (PySem.F.args_tuple_add_2 _ _)
      (tuple_addW2 t b vs.toArray ws.toArray n n2 dd dd2 sl sl2 (by simpa using hv) (by simpa using hw) (by rw [List.size_toArray, List.size_toArray]; exact hsz)) ⟨ho, ho2, ?_⟩
    rw [e]
    exact h2 hw



def sIx (n d : Nat) : Option Int → Nat
  | none => d
  | some v => if v < 0 then (v + (n : Int)).toNat else min v.toNat n
theorem sIx_none (n d : Nat) : sIx n d none = d := rfl
theorem sIx_nat (n d k : Nat) : sIx n d (some (k : Int)) = min k n := by
  show (if (k : Int) < 0 then ((k : Int) + (n : Int)).toNat else min (k : Int).toNat n) = min k n
  rw [if_neg (by omega), Int.toNat_natCast]
theorem sIx_le (n d : Nat) (hd : d ≤ n) (o : Option Int) : sIx n d o ≤ n := by
  cases o with
  | none => exact hd
  | some v =>
    show (if v < 0 then (v + (n : Int)).toNat else min v.toNat n) ≤ n
    by_cases hv : v < 0
    · rw [if_pos hv]; omega
    · rw [if_neg hv]; exact Nat.min_le_right _ _
theorem clip_eq (v : Int) (n d : Nat) : (if v < 0 then max (v + (n : Int)) 0 else min v (n : Int)) = ((sIx n d (some v) : Nat) : Int) := by
  show (if v < 0 then max (v + (n : Int)) 0 else min v (n : Int)) = (((if v < 0 then (v + (n : Int)).toNat else min v.toNat n) : Nat) : Int)
  by_cases hv : v < 0
  · simp only [if_pos hv]; omega
  · simp only [if_neg hv]; omega
theorem adjust_gen (lo hi : Option Int) (n : Nat) : Builtin.Slice.sliceAdjust lo hi 1 (n : Int) = (((sIx n 0 lo : Nat) : Int), ((sIx n n hi : Nat) : Int)) := by
  have h1 : ¬ ((1 : Int) < 0) := by omega
  unfold Builtin.Slice.sliceAdjust
  simp only [h1, if_false]
  refine Prod.ext ?_ ?_
  · cases lo with
    | none => rfl
    | some v => exact clip_eq v n 0
  · cases hi with
    | none => rfl
    | some v => exact clip_eq v n n
theorem places_gen (i j : Nat) : Builtin.Slice.slicePlaces (i : Int) (j : Int) 1 = j - i := by
  unfold Builtin.Slice.slicePlaces
  have h1 : (1 : Int) > 0 := by omega
  simp only [h1, if_true, Int.ediv_one]
  split <;> omega
theorem slicePart_ {v : Value} {o : Option Int} {Q : Option Int → Shared → Prop} (p : IsPart v o) (h : Q o s) : wpAny (model prog w) A (Builtin.Slice.slicePartIndex v) Q E s := by
  cases p with
  | none => exact slicePart_none h
  | int i t => exact slicePart_int h
theorem sliceApplied_gen {sl : Addr} {vl vu : Value} {lo hi : Option Int} {n : Nat} {Q : Int × Int × Nat → Shared → Prop} (hs : s.heap.IsSliceOf sl vl vu .none) (pl : IsPart vl lo) (pu : IsPart vu hi)
    (h : Q (((sIx n 0 lo : Nat) : Int), 1, sIx n n hi - sIx n 0 lo) s) : wpAny (model prog w) A (Builtin.Slice.sliceApplied (.ref sl) (pure (n : Int))) Q E s := by
  obtain ⟨os, hos, hcs, hds⟩ := id hs
  unfold Builtin.Slice.sliceApplied Builtin.Slice.sliceFields
  refine wpAny_bind (wpAny_bind (wpAny_field hos hds (x := vl) rfl (wpAny_bind (wpAny_field hos hds (x := vu) rfl (wpAny_bind (wpAny_field hos hds (x := .none) rfl (wpAny_pure ?_)))))))
  refine wpAny_bind (slicePart_none ?_)
  show wpAny _ _ (if ((1 : Int) == 0) = true then _ else _) _ _ s
  rw [if_neg (by decide)]
  refine wpAny_bind (slicePart_ pl (wpAny_bind (slicePart_ pu (wpAny_bind (wpAny_pure ?_)))))
  show wpAny _ _ (match Builtin.Slice.sliceAdjust lo hi 1 (n : Int) with | (lo, hi) => pure (lo, (1 : Int), Builtin.Slice.slicePlaces lo hi 1)) _ _ s
  rw [adjust_gen lo hi n]
  show wpAny _ _ (pure (((sIx n 0 lo : Nat) : Int), (1 : Int), Builtin.Slice.slicePlaces ((sIx n 0 lo : Nat) : Int) ((sIx n n hi : Nat) : Int) 1)) _ _ s
  rw [places_gen]
  exact wpAny_pure h
theorem pick_gen (xs : Array Value) (i k : Nat) : ((List.range k).filterMap fun (m : Nat) => xs[((i : Int) + (m : Int) * 1).toNat]?).toArray = ((xs.toList.drop i).take k).toArray := by
  have e : (fun (m : Nat) => xs[((i : Int) + (m : Int) * 1).toNat]?) = fun m => xs[i + m]? := by
    funext m
    have : ((i : Int) + (m : Int) * 1).toNat = i + m := by omega
    rw [this]
  rw [e]
  have := pick_run xs i k
  rw [List.filterMap_map] at this
  have e2 : ((fun x => xs[x]?) ∘ fun x => i + x) = fun m => xs[i + m]? := rfl
  rw [e2] at this
  rw [this]

theorem getItem_tuple_cut {t sl : Addr} {items : Array Value} {vl vu : Value} {lo hi : Option Int} {Q : Value → Shared → Prop} (ht : IsTup s.heap t items) (hs : s.heap.IsSliceOf sl vl vu .none) (pl : IsPart vl lo) (pu : IsPart vu hi)
    (hw : ¬ (sIx items.size 0 lo = 0 ∧ sIx items.size items.size hi = items.size))
    (h : Q (.ref s.heap.objs.size) { s with heap := s.heap.push { cls := .type "tuple", data := .seq ((items.toList.drop (sIx items.size 0 lo)).take (sIx items.size items.size hi - sIx items.size 0 lo)).toArray } })
    (hsz : items.size ≤ sizeLine) : wpAny (model prog w) A (getItem (.ref t) (.ref sl)) Q E s := by
  have htake : sizeOk (.seq ((items.toList.drop (sIx items.size 0 lo)).take (sIx items.size items.size hi - sIx items.size 0 lo)).toArray) := by
    show ((items.toList.drop (sIx items.size 0 lo)).take (sIx items.size items.size hi - sIx items.size 0 lo)).toArray.size ≤ sizeLine
    rw [List.size_toArray, List.length_take, List.length_drop, Array.length_toList]
    omega
  have hj : sIx items.size items.size hi ≤ items.size := sIx_le _ _ (Nat.le_refl _) hi
  obtain ⟨os, hos, hcs, hds⟩ := id hs
  have hTs : s.TypeIs (.ref sl) "slice" := ⟨os, hos, hcs⟩
  unfold getItem
  try with_reducible refine wpAny_holding ?_
  first | refine wpAny_bind (wpAny_pure ?_) | skip
  refine wpAny_bind (wpAny_sequenceKey ht.typeIs (by decide) ?_)
  refine wpAny_bind (wpAny_callSpecial?_slot (name := Str.ofString "__getitem__") ht.typeIs PyProof.Rows.slot_tuple_getitem
    (wpAny_call_entry PyProof.Rows.slot_tuple_getitem ht.typeIs entry_tuple_getitem ?_ (args_tuple_getitem _ _)))
  show wpAny _ _ (Builtin.Tuple.tupleItemsOf (.ref t) >>= _) _ _ s
  refine wpAny_bind (tupleItemsOf_ ht ?_)
  refine wpAny_bind (wpAny_typeOf hTs ?_)
  rw [if_pos (by decide)]
  refine wpAny_bind (sliceApplied_gen hs pl pu ?_)
  have hno : ¬ ((((sIx items.size 0 lo : Nat) : Int) == 0 && (1 : Int) == 1 && (sIx items.size items.size hi - sIx items.size 0 lo) == items.size) = true) := by
    intro q
    rw [Bool.and_eq_true, Bool.and_eq_true] at q
    have q1 : ((sIx items.size 0 lo : Nat) : Int) = 0 := eq_of_beq q.1.1
    have q2 : sIx items.size items.size hi - sIx items.size 0 lo = items.size := eq_of_beq q.2
    exact hw ⟨by omega, by omega⟩
  show wpAny _ _ (if (((sIx items.size 0 lo : Nat) : Int) == 0 && (1 : Int) == 1 && (sIx items.size items.size hi - sIx items.size 0 lo) == items.size) = true then _ else _) _ _ s
  rw [if_neg hno, pick_gen]
  first
    | exact wpAny_bind (m := Builtin.Tuple.tupleExact _) (wpAny_newObj_type (wpAny_pure ⟨_, rfl, wpAny_pure h⟩) htake)
    | exact wpAny_bind (m := Builtin.Tuple.tupleExact _) (wpAny_newObj_type (wpAny_bind (wpAny_pure (wpAny_pure ⟨_, rfl, wpAny_pure h⟩))) htake)
    | exact wpAny_bind (wpAny_bind (m := Builtin.Tuple.tupleExact _) (wpAny_newObj_type (wpAny_pure (wpAny_pure ⟨_, rfl, wpAny_pure h⟩)) htake))
    | exact wpAny_bind (wpAny_bind (m := Builtin.Tuple.tupleExact _) (wpAny_newObj_type (wpAny_pure ⟨_, rfl, wpAny_pure h⟩) htake))
end
end HT

namespace L2
open PySem PySem.Spec PyProof.Rows


abbrev TO := St → Hp → (Option Int → Hp → Prop) → Prop

structure PO (X : Cx) (e : Option Expr) (t : TO) : Prop where
  run :
    ∀ (pins : List (Addr × Obj)) (s : Shared) (σ : St) (H : Hp) (Q : Option Int → Hp → Prop), Inv X pins σ H s → t σ H Q →
      wpAny (model X.prog X.w) X.A (evalPart e X.env) (fun u s' => ∃ o H', Inv X pins σ H' s' ∧ IsPart u o ∧ Q o H') X.xe s
instance {X : Cx} {e : Option Expr} {t : TO} : CoeFun (PO X e t) (fun _ =>
  ∀ (pins : List (Addr × Obj)) (s : Shared) (σ : St) (H : Hp) (Q : Option Int → Hp → Prop), Inv X pins σ H s → t σ H Q →
    wpAny (model X.prog X.w) X.A (evalPart e X.env) (fun u s' => ∃ o H', Inv X pins σ H' s' ∧ IsPart u o ∧ Q o H') X.xe s) := ⟨PO.run⟩
def tNoPart : TO := fun _ H Q => Q none H
def tPart (t : TE) : TO := fun σ H Q => t σ H fun x H1 => ∃ i, x = .int i ∧ Q (some i) H1

section
variable {X : Cx} {e : Expr} {te : TE} {lo hi : Option Expr} {tl th : TO} {pos p2 : Pos}

theorem po_none : PO X none tNoPart := by
  constructor
  intro pins s σ H Q I h
  rw [evalPart_none]
  exact wpAny_pure ⟨none, H, I, .none, h⟩
theorem po_some (h : PE X e te) : PO X (some e) (tPart te) := by
  constructor
  intro pins s σ H Q I hw
  rw [evalPart_some]
  refine thn (h pins s σ H _ I hw) fun u s1 ⟨x, H1, I1, r1, q1⟩ => ?_
  obtain ⟨i, rfl, q⟩ := q1
  obtain ⟨t, rfl⟩ := r1
  exact ⟨some i, H1, I1, .int i t, q⟩


structure SlR (X : Cx) (r : V → Option Int → Option Int → Hp → VK → Prop) : Prop where
  run :
    ∀ (pins : List (Addr × Obj)) (s : Shared) (σ : St) (H : Hp) (x : V) (v vl vu : Value) (lo hi : Option Int) (sl : Addr) (Q : VK), Inv X pins σ H s → RelV x v → s.heap.IsSliceOf sl vl vu .none → IsPart vl lo → IsPart vu hi → r x lo hi H Q →
      ∃ T id, typeLookup (.type T) "__getitem__" = pure (some (.builtin id)) ∧ s.TypeIs v T ∧ wpAny (model X.prog X.w) X.A (getItem v (.ref sl)) (EP X pins σ Q) X.xe s
instance {X : Cx} {r : V → Option Int → Option Int → Hp → VK → Prop} : CoeFun (SlR X r) (fun _ =>
  ∀ (pins : List (Addr × Obj)) (s : Shared) (σ : St) (H : Hp) (x : V) (v vl vu : Value) (lo hi : Option Int) (sl : Addr) (Q : VK), Inv X pins σ H s → RelV x v → s.heap.IsSliceOf sl vl vu .none → IsPart vl lo → IsPart vu hi → r x lo hi H Q →
    ∃ T id, typeLookup (.type T) "__getitem__" = pure (some (.builtin id)) ∧ s.TypeIs v T ∧ wpAny (model X.prog X.w) X.A (getItem v (.ref sl)) (EP X pins σ Q) X.xe s) := ⟨SlR.run⟩
def tSl (r : V → Option Int → Option Int → Hp → VK → Prop) (te : TE) (tl th : TO) : TE := fun σ H Q => te σ H fun x H1 => tl σ H1 fun l H2 => th σ H2 fun u H3 => r x l u H3 Q

theorem pe_slice {r : V → Option Int → Option Int → Hp → VK → Prop} (hr : SlR X r) (he : PE X e te) (hl : PO X lo tl) (hu : PO X hi th) : PE X (.Subscript e (.Slice lo hi none p2) pos) (tSl r te tl th) := by
  constructor
  intro pins s σ H Q I h
  refine Subscript_ (thn (he pins s σ H _ I h) fun v s1 ⟨x, H1, I1, r1, q1⟩ => ?_)
  refine wpAny_Slice (thn (hl pins s1 σ H1 _ I1 q1) fun vl s2 ⟨l, H2, I2, pl, q2⟩ => thn (hu pins s2 σ H2 _ I2 q2) fun vu s3 ⟨u, H3, I3, pu, q3⟩ => ?_)
  rw [evalPart_none]
  refine wpAny_pure ?_
  have I4 : Inv X pins σ H3 { s3 with heap := s3.heap.push { cls := .type "slice", data := .fields #[vl, vu, .none] } } := I3.kept (t' := s3.toks) fun b ob q => Heap.get?_push_of_some _ q
  obtain ⟨T, id, hT, ht, hg⟩ := hr pins { s3 with heap := s3.heap.push { cls := .type "slice", data := .fields #[vl, vu, .none] } } σ H3 x v vl vu l u s3.heap.objs.size Q I4 r1 (Heap.IsSliceOf.new ..) pl pu q3
  show wpAny (model X.prog X.w) X.A (subscriptTail e (.Slice lo hi none p2) v (.ref s3.heap.objs.size)) (EP X pins σ Q) X.xe { s3 with heap := s3.heap.push { cls := .type "slice", data := .fields #[vl, vu, .none] } }
  exact tail_any (ops := [.ref s3.heap.objs.size, v]) ht hT hg (by with_unfolding_all rfl)


def cutV (xs : List V) (lo hi : Option Int) : List V := (xs.drop (HT.sIx xs.length 0 lo)).take (HT.sIx xs.length xs.length hi - HT.sIx xs.length 0 lo)
theorem cutV_length (xs : List V) (lo hi : Option Int) : (cutV xs lo hi).length ≤ xs.length := by
  unfold cutV
  rw [List.length_take, List.length_drop]
  omega

def rSlT (K : PySem.W.Frag) : V → Option Int → Option Int → Hp → VK → Prop := fun x lo hi H Q => ∃ a xs, x = .ref a ∧ SqT K H a xs ∧
  ¬ (HT.sIx xs.length 0 lo = 0 ∧ HT.sIx xs.length xs.length hi = xs.length) ∧ ∀ p, H p = none → Q (.ref p) (upd H p (.tup (cutV xs lo hi)))
theorem sl_tup : SlR X (rSlT X.K) := by
  constructor
  intro pins s σ H x v vl vu lo hi sl Q I rx hs pl pu h
  obtain ⟨a, xs, rfl, hx, hw, q⟩ := h
  cases rx
  obtain ⟨its, r, ht, hz⟩ := I.tuple hx
  have hlen : its.toArray.size = xs.length := by rw [List.size_toArray]; exact r.length.symm
  refine ⟨"tuple", _, PyProof.Rows.slot_tuple_getitem.lookup, ht.typeIs, ?_⟩
  refine HT.getItem_tuple_cut ht hs pl pu (by rw [hlen]; exact hw) ?_ (by rw [hlen]; exact hz)
  rw [hlen]
  refine ⟨.ref s.heap.objs.size, _, I.laid (t' := s.toks) (o := .tup (cutV xs lo hi)) (fun b ob q => Heap.get?_push_of_some _ q) (Nat.le_refl _) ?_, rfl, q _ (I.hok.fresh (Nat.le_refl _))⟩
  exact ⟨Nat.le_trans (cutV_length xs lo hi) hz, _, (r.drop (HT.sIx xs.length 0 lo)).take (HT.sIx xs.length xs.length hi - HT.sIx xs.length 0 lo), TupN.new _ _⟩


def rLtT (K : PySem.W.Frag) : R2 := fun x y H Q => ∃ a b ns ms, x = .ref a ∧ y = .ref b ∧ SqT K H a (ns.map V.int) ∧ SqT K H b (ms.map V.int) ∧ Q (.bl (HT.lexLt ns ms)) H
def rCatT (K : PySem.W.Frag) : R2 := fun x y H Q => ∃ a b xs ys, x = .ref a ∧ y = .ref b ∧ SqT K H a xs ∧ SqT K H b ys ∧ xs ≠ [] ∧ xs.length + ys.length ≤ sizeLine ∧
  (ys = [] → Q (.ref a) H) ∧ (ys ≠ [] → ∀ p, H p = none → Q (.ref p) (upd H p (.tup (xs ++ ys))))
theorem Vals.nil_iff {xs : List V} {us : List Value} (r : Vals xs us) : us = [] ↔ xs = [] := by
  cases r with
  | nil => simp
  | cons _ _ => simp
theorem op_catT : OpR X (binaryOp .Add) (rCatT X.K) := by
  constructor
  intro pins s σ H x y v u Q I rx ry h
  obtain ⟨a, b, xs, ys, rfl, rfl, ha, hb, hx, hz, q1, q2⟩ := h
  cases rx
  cases ry
  obtain ⟨its, r1, p1, _⟩ := I.tuple ha
  obtain ⟨its2, r2, p2, _⟩ := I.tuple hb
  refine HT.cat_tup p1 p2 (fun z => hx (r1.nil_iff.mp z)) (fun z => ⟨.ref a, H, I, rfl, q1 (r2.nil_iff.mp z)⟩) (fun z => ?_) (by rw [← r1.length, ← r2.length]; exact hz)
  refine ⟨.ref s.heap.objs.size, _, I.laid (t' := s.toks) (o := .tup (xs ++ ys)) (fun b ob q => Heap.get?_push_of_some _ q) (Nat.le_refl _) ?_, rfl, q2 (fun w => z (r2.nil_iff.mpr w)) _ (I.hok.fresh (Nat.le_refl _))⟩
  exact ⟨by rw [List.length_append]; exact hz, _, r1.append r2, TupN.new _ _⟩

end
end L2

namespace L2
open PySem PySem.Spec PyProof.Rows



def ixN (n : Nat) (i : Int) : Option Nat := if 0 ≤ i then (if i < n then some i.toNat else none) else if -(n : Int) ≤ i then some (i + n).toNat else none
def atI {α : Type} (xs : List α) (i : Int) : Option α := (ixN xs.length i).bind fun j => xs[j]?
theorem ixN_seq {n : Nat} {i : Int} {j : Nat} (h : ixN n i = some j) : seqIndex? i n = some j ∧ j < n ∧ -(n : Int) ≤ i ∧ i < n := by
  unfold ixN at h
  by_cases h0 : 0 ≤ i
  · rw [if_pos h0] at h
    by_cases h1 : i < n
    · rw [if_pos h1] at h
      have e : i.toNat = j := Option.some.inj h
      exact ⟨by rw [seqIndex_of h0 h1, e], by omega, by omega, h1⟩
    · rw [if_neg h1] at h; cases h
  · rw [if_neg h0] at h
    by_cases h1 : -(n : Int) ≤ i
    · rw [if_pos h1] at h
      have e : (i + n).toNat = j := Option.some.inj h
      exact ⟨by rw [seqIndex_neg (by omega) h1, e], by omega, h1, by omega⟩
    · rw [if_neg h1] at h; cases h
theorem atI_get {α : Type} {xs : List α} {i : Int} {v : α} (h : atI xs i = some v) : ∃ j, seqIndex? i xs.length = some j ∧ xs[j]? = some v ∧ j < xs.length ∧ -(xs.length : Int) ≤ i ∧ i < xs.length := by
  unfold atI at h
  cases e : ixN xs.length i with
  | none => rw [e] at h; cases h
  | some j =>
    rw [e] at h
    obtain ⟨h1, h2, h3, h4⟩ := ixN_seq e
    exact ⟨j, h1, h, h2, h3, h4⟩
theorem atI_nat {α : Type} {xs : List α} {j : Nat} {v : α} (h : xs[j]? = some v) : atI xs (j : Int) = some v := by
  have hj : j < xs.length := (List.getElem?_eq_some_iff.mp h).1
  have e : ixN xs.length (j : Int) = some j := by
    unfold ixN
    rw [if_pos (by omega), if_pos (by omega)]; simp
  unfold atI; rw [e]; exact h
def PlainIx (b : Expr) : Prop := ∀ o i, subscripted b false o i = operate [o, i] (getItem o i)

structure IxR (X : Cx) (r : R2) : Prop where
  run :
    ∀ (value slice : Expr) (pins : List (Addr × Obj)) (s : Shared) (σ : St) (H : Hp) (x y : V) (v u : Value) (Q : VK), Inv X pins σ H s → RelV x v → RelV y u → r x y H Q →
      subscripted slice false v u = operate [v, u] (getItem v u) → wpAny (model X.prog X.w) X.A (subscriptTail value slice v u) (EP X pins σ Q) X.xe s
instance {X : Cx} {r : R2} : CoeFun (IxR X r) (fun _ =>
  ∀ (value slice : Expr) (pins : List (Addr × Obj)) (s : Shared) (σ : St) (H : Hp) (x y : V) (v u : Value) (Q : VK), Inv X pins σ H s → RelV x v → RelV y u → r x y H Q →
    subscripted slice false v u = operate [v, u] (getItem v u) → wpAny (model X.prog X.w) X.A (subscriptTail value slice v u) (EP X pins σ Q) X.xe s) := ⟨IxR.run⟩

structure MtR (X : Cx) (id : String) (r : V → List V → Hp → VK → Prop) : Prop where
  run :
    ∀ (pins : List (Addr × Obj)) (s : Shared) (σ : St) (H : Hp) (x : V) (xs : List V) (v : Value) (us : List Value) (Q : VK), Inv X pins σ H s → RelV x v → Vals xs us → r x xs H Q →
      wpAny (model X.prog X.w) X.A (call (.builtin id) (v :: us)) (EP X pins σ Q) X.xe s
instance {X : Cx} {id : String} {r : V → List V → Hp → VK → Prop} : CoeFun (MtR X id r) (fun _ =>
  ∀ (pins : List (Addr × Obj)) (s : Shared) (σ : St) (H : Hp) (x : V) (xs : List V) (v : Value) (us : List Value) (Q : VK), Inv X pins σ H s → RelV x v → Vals xs us → r x xs H Q →
    wpAny (model X.prog X.w) X.A (call (.builtin id) (v :: us)) (EP X pins σ Q) X.xe s) := ⟨MtR.run⟩
section
variable {X : Cx} {a b : Expr} {ta tb : TE} {pos : Pos}
theorem pe_ix {r : R2} (hr : IxR X r) (ha : PE X a ta) (hb : PE X b tb) (hs : PlainIx b) : PE X (.Subscript a b pos) (tOp r ta tb) := by
  constructor
  intro pins s σ H Q I h
  exact Subscript_ (binT ha hb I h fun v u s2 x y H2 I2 rx ry q => hr a b pins s2 σ H2 x y v u Q I2 rx ry q (hs _ _))

def rIxL (K : PySem.W.Frag) : R2 := fun x y H Q => ∃ p xs i v, x = .ref p ∧ y = .int i ∧ SqL K H p xs ∧ atI xs i = some v ∧ Q v H
def rIxT (K : PySem.W.Frag) : R2 := fun x y H Q => ∃ p xs i v, x = .ref p ∧ y = .int i ∧ SqT K H p xs ∧ atI xs i = some v ∧ Q v H
def rIxS : R2 := fun x y H Q => ∃ z i c, x = .str z ∧ y = .int i ∧ z.length ≤ sizeLine ∧ atI z.cps.toList i = some c ∧ Q (.str ⟨#[c]⟩) H
theorem ix_list : IxR X (rIxL X.K) := by
  constructor
  intro value slice pins s σ H x y v u Q I rx ry h hs
  obtain ⟨p, xs, i, z, rfl, rfl, hq, he, q⟩ := h
  cases rx
  obtain ⟨t, rfl⟩ := ry
  obtain ⟨its, r, pl, hz⟩ := I.list hq
  obtain ⟨j, h1, h2, h3, h4, h5⟩ := atI_get he
  obtain ⟨w, ew, rw'⟩ := r.get h2
  have hl := r.length
  have hn := line63
  have fin : EP X pins σ Q w s := ⟨z, H, I, rw', q⟩
  by_cases h0 : 0 ≤ i
  · have hj : i.toNat = j := by
      rw [seqIndex_of h0 h5] at h1
      exact Option.some.inj h1
    exact item_listR pl.isList h0 (by omega) (by rw [hj]; simpa using ew) fin hs
  · have hj : (i + (its.toArray.size : Int)).toNat = j := by
      rw [seqIndex_neg (by omega) h4] at h1
      rw [List.size_toArray, ← hl]
      exact Option.some.inj h1
    exact subscriptTail_builtinR (x := w) pl.isList.typeIs slot_list_getitem.lookup
      (wpAny_getItem_list_neg (Q := fun r s' => r = w ∧ EP X pins σ Q r s') pl.isList (by omega) (by rw [List.size_toArray] <;> omega) (by omega) (by rw [hj]; simpa using ew) ⟨rfl, fin⟩) hs
theorem ix_tup : IxR X (rIxT X.K) := by
  constructor
  intro value slice pins s σ H x y v u Q I rx ry h hs
  obtain ⟨p, xs, i, z, rfl, rfl, hq, he, q⟩ := h
  cases rx
  obtain ⟨t, rfl⟩ := ry
  obtain ⟨its, r, pl, hz⟩ := I.tuple hq
  obtain ⟨j, h1, h2, h3, h4, h5⟩ := atI_get he
  obtain ⟨w, ew, rw'⟩ := r.get h2
  have hl := r.length
  have hn := line63
  have fin : EP X pins σ Q w s := ⟨z, H, I, rw', q⟩
  exact subscriptTail_builtinR (x := w) pl.typeIs slot_tuple_getitem.lookup
    (getItem_tuple (j := j) (Q := fun r s' => r = w ∧ EP X pins σ Q r s') pl (by omega) (by omega) (by rw [List.size_toArray, ← hl]; exact h1) (by simpa using ew) ⟨rfl, fin⟩) hs
theorem ix_str : IxR X rIxS := by
  constructor
  intro value slice pins s σ H x y v u Q I rx ry h hs
  obtain ⟨z, i, c, rfl, rfl, hz, he, q⟩ := h
  obtain ⟨t, rfl⟩ := rx
  obtain ⟨t', rfl⟩ := ry
  obtain ⟨j, h1, h2, h3, h4, h5⟩ := atI_get he
  have hl : z.cps.toList.length = z.length := by simp [Str.length]
  rw [hl] at h1 h4 h5
  have hn := line63
  exact tail_any (typeIs_str s z t) slot_str_getitem.lookup (getItem_str (c := c) (by
    have e1 : decide (i < -(2 ^ 63 : Int)) = false := decide_eq_false (by omega)
    have e2 : decide (i ≥ 2 ^ 63) = false := decide_eq_false (by omega)
    rw [e1, e2, Bool.or_false]) (by rw [h1]; simpa using h2) ⟨.str ⟨#[c]⟩, H, I.tok _, ⟨_, rfl⟩, q⟩) hs

def rIx (K : PySem.W.Frag) : R2 := fun x y H Q => rIxL K x y H Q ∨ rIxT K x y H Q ∨ rIxS x y H Q
theorem mapSeq_set (its : List Value) (n j : Nat) (u : Value) : Obj.mapSeq (·.setIfInBounds j u) { cls := .type "list", data := .seq its.toArray n } = { cls := .type "list", data := .seq (its.set j u).toArray n } := by
  simp [Obj.mapSeq]
theorem Inv.lst {pins : List (Addr × Obj)} {σ : St} {H : Hp} {s : Shared} {p : Addr} {xs : List V} (I : Inv X pins σ H s) (h : H p = some (.lst xs)) :
    ∃ (its : List Value) (n : Nat), Vals xs its ∧ s.heap.get? p = some { cls := .type "list", data := .seq its.toArray n } ∧ xs.length ≤ sizeLine := by
  obtain ⟨z, its, n, r, e⟩ := I.hok p _ h
  exact ⟨its, n, r, e, z⟩

theorem Inv.lstUpd {pins : List (Addr × Obj)} {σ : St} {H : Hp} {s : Shared} {p : Addr} {xs ys : List V} {its its' : List Value} {n n' : Nat} {f : Obj → Obj} (I : Inv X pins σ H s) (h : H p = some (.lst xs))
    (ho : s.heap.get? p = some { cls := .type "list", data := .seq its.toArray n }) (hf : f { cls := .type "list", data := .seq its.toArray n } = { cls := .type "list", data := .seq its'.toArray n' }) (r : Vals ys its') (hz : ys.length ≤ sizeLine) (t : Nat) :
    Inv X pins σ (upd H p (.lst ys)) { s with heap := s.heap.update p f, toks := t } := by
  have e : (s.heap.update p f).get? p = some { cls := .type "list", data := .seq its'.toArray n' } := by
    rw [Heap.get?_update_self f ho (by rw [hf] <;> rfl), hf]
  refine I.write (x := p) (e := p) (by rw [h]; trivial) (.inl rfl) (fun b u hb q => (Heap.get?_update_other _ _ (Ne.symm hb)).trans q) ⟨_, e⟩ ?_
  exact ⟨hz, its', n', r, e⟩
def rSetL : V → V → V → Hp → (Hp → Prop) → Prop := fun o i v H Q => ∃ p xs k j, o = .ref p ∧ i = .int k ∧ H p = some (.lst xs) ∧ ixN xs.length k = some j ∧ Q (upd H p (.lst (xs.set j v)))
theorem set_list : PSet X rSetL := by
  constructor
  intro pins s σ H o i v ov iv u Q I ro ri rv h
  obtain ⟨p, xs, k, j, rfl, rfl, hp, hj, q⟩ := h
  cases ro
  obtain ⟨t, rfl⟩ := ri
  obtain ⟨its, n, r, ho, hz⟩ := I.lst hp
  obtain ⟨h1, h2, h3, h4⟩ := ixN_seq hj
  have hl := r.length
  have hn := line63
  have I' : Inv X pins σ (upd H p (.lst (xs.set j v))) { s with heap := s.heap.update p (Obj.mapSeq (·.setIfInBounds j u)) } :=
    I.lstUpd hp ho (mapSeq_set its n j u) (r.set rv j) (by rw [List.length_set]; exact hz) s.toks
  by_cases h0 : 0 ≤ k
  · have hk : k.toNat = j := by
      rw [seqIndex_of h0 h4] at h1
      exact Option.some.inj h1
    exact PySem.W.ki_setAt ho h0 (by omega) (by rw [List.size_toArray, ← hl]; exact h4) (by rw [hk]; exact ⟨_, I', q⟩)
  · have hk : (k + (its.toArray.size : Int)).toNat = j := by
      rw [seqIndex_neg (by omega) h3] at h1
      rw [List.size_toArray, ← hl]
      exact Option.some.inj h1
    exact PySem.W.ki_setBack ho (by omega) (by rw [List.size_toArray, ← hl]; exact h3) (by omega) (by rw [hk]; exact ⟨_, I', q⟩)


def rSlL (K : PySem.W.Frag) : V → Option Int → Option Int → Hp → VK → Prop := fun x lo hi H Q => ∃ a xs, x = .ref a ∧ SqL K H a xs ∧ ∀ p, H p = none → Q (.ref p) (upd H p (.lst (cutV xs lo hi)))
def flatV : V → Bool
  | .non => true
  | .bl _ => true
  | .int _ => true
  | .str _ => true
  | _ => false

def eqV : V → V → Bool
  | .non, .non => true
  | .bl a, .bl b => a == b
  | .bl a, .int b => (if a then 1 else 0) == b
  | .int a, .bl b => a == (if b then 1 else 0)
  | .int a, .int b => a == b
  | .str a, .str b => a == b
  | _, _ => false
theorem eqAt_V {A : Around} {s : Shared} {y x : V} {u v : Value} (ry : RelV y u) (rx : RelV x v) (fy : flatV y = true) (fx : flatV x = true) : SeqAt.EqAt A s u v (eqV y x) := by
  cases y with
  | non =>
    cases ry
    cases x with
    | non => cases rx; exact SeqAt.EqAt.same _
    | bl b => cases rx; exact SeqAt.EqAt.none_bool b
    | int b => obtain ⟨t, rfl⟩ := rx; exact SeqAt.EqAt.none_int b t
    | str b => obtain ⟨t, rfl⟩ := rx; exact SeqAt.EqAt.none_str b t
    | _ => exact absurd (show false = true from fx) Bool.false_ne_true
  | bl a =>
    cases ry
    cases x with
    | non => cases rx; exact SeqAt.EqAt.bool_none a
    | bl b => cases rx; exact SeqAt.EqAt.bool_bool a b
    | int b => obtain ⟨t, rfl⟩ := rx; exact SeqAt.EqAt.bool_int a b t
    | str b => obtain ⟨t, rfl⟩ := rx; exact SeqAt.EqAt.bool_str a b t
    | _ => exact absurd (show false = true from fx) Bool.false_ne_true
  | int a =>
    obtain ⟨t', rfl⟩ := ry
    cases x with
    | non => cases rx; exact SeqAt.EqAt.int_none a t'
    | bl b => cases rx; exact SeqAt.EqAt.int_bool a t' b
    | int b => obtain ⟨t, rfl⟩ := rx; exact SeqAt.EqAt.int_int a t' b t
    | str b => obtain ⟨t, rfl⟩ := rx; exact SeqAt.EqAt.int_str a t' b t
    | _ => exact absurd (show false = true from fx) Bool.false_ne_true
  | str a =>
    obtain ⟨t', rfl⟩ := ry
    cases x with
    | non => cases rx; exact SeqAt.EqAt.str_none a t'
    | bl b => cases rx; exact SeqAt.EqAt.str_bool a t' b
    | int b => obtain ⟨t, rfl⟩ := rx; exact SeqAt.EqAt.str_int a t' b t
    | str b => obtain ⟨t, rfl⟩ := rx; exact SeqAt.EqAt.str_str a t' b t
    | _ => exact absurd (show false = true from fx) Bool.false_ne_true
  | _ => exact absurd (show false = true from fy) Bool.false_ne_true

def eqU (x : V) (u : Value) : Bool := match u with
  | .none => eqV .non x
  | .bool b => eqV (.bl b) x
  | .int i _ => eqV (.int i) x
  | .str z _ => eqV (.str z) x
  | _ => false
theorem eqU_of {x y : V} {u : Value} (r : RelV y u) (f : flatV y = true) : eqU x u = eqV y x := by
  cases y with
  | non => cases r; rfl
  | bl b => cases r; rfl
  | int i => obtain ⟨t, rfl⟩ := r; rfl
  | str z => obtain ⟨t, rfl⟩ := r; rfl
  | _ => exact absurd (show false = true from f) Bool.false_ne_true
theorem any_eqU {x : V} : ∀ {xs : List V} {us : List Value}, Vals xs us → xs.all flatV = true → us.any (eqU x) = xs.any fun y => eqV y x
  | _, _, .nil, _ => rfl
  | y :: xs, u :: us, .cons r t, f => by
    rw [List.all_cons, Bool.and_eq_true] at f
    rw [List.any_cons, List.any_cons, eqU_of r f.1, any_eqU t f.2]
theorem mem_eqAt {A : Around} {s : Shared} {x : V} {v : Value} (rx : RelV x v) (fx : flatV x = true) : ∀ {xs : List V} {us : List Value}, Vals xs us → xs.all flatV = true → ∀ u ∈ us, SeqAt.EqAt A s u v (eqU x u)
  | _, _, .nil, _ => fun u hu => by cases hu
  | y :: xs, u :: us, .cons r t, f => fun u' hu => by
    rw [List.all_cons, Bool.and_eq_true] at f
    rcases List.mem_cons.mp hu with rfl | hu
    · rw [eqU_of r f.1]; exact eqAt_V r rx f.1 fx
    · exact mem_eqAt rx fx t f.2 u' hu
def inV (x : V) (xs : List V) : Bool := xs.any fun y => eqV y x

def rIn (K : PySem.W.Frag) (neg : Bool) : R2 := fun x y H Q => ∃ p xs, y = .ref p ∧ (SqL K H p xs ∨ SqT K H p xs) ∧ flatV x = true ∧ xs.all flatV = true ∧ Q (.bl (if neg then !inV x xs else inV x xs)) H
theorem op_in_seq : OpR X (compareOp .In) (rIn X.K false) := by
  constructor
  intro pins s σ H x y v u Q I rx ry h
  obtain ⟨p, xs, rfl, hq, fx, fs, q⟩ := h
  cases ry
  rcases hq with hq | hq
  · obtain ⟨its, r, pl, hz⟩ := I.list hq
    refine SeqAt.in_listAt (eqU x) pl.isList (fun w hw => mem_eqAt rx fx r fs w (by simpa using hw)) ⟨.bl _, H, I, rfl, ?_⟩
    rw [show its.toArray.any (eqU x) = its.any (eqU x) by simp, any_eqU r fs]
    exact q
  · obtain ⟨its, r, pl, hz⟩ := I.tuple hq
    refine SeqAt.in_tupleAt (eqU x) pl (fun w hw => mem_eqAt rx fx r fs w (by simpa using hw)) ⟨.bl _, H, I, rfl, ?_⟩
    rw [show its.toArray.any (eqU x) = its.any (eqU x) by simp, any_eqU r fs]
    exact q
theorem op_notIn_seq : OpR X (compareOp .NotIn) (rIn X.K true) := by
  constructor
  intro pins s σ H x y v u Q I rx ry h
  obtain ⟨p, xs, rfl, hq, fx, fs, q⟩ := h
  cases ry
  rcases hq with hq | hq
  · obtain ⟨its, r, pl, hz⟩ := I.list hq
    refine SeqAt.notIn_listAt (eqU x) pl.isList (fun w hw => mem_eqAt rx fx r fs w (by simpa using hw)) ⟨.bl _, H, I, rfl, ?_⟩
    rw [show its.toArray.any (eqU x) = its.any (eqU x) by simp, any_eqU r fs]
    exact q
  · obtain ⟨its, r, pl, hz⟩ := I.tuple hq
    refine SeqAt.notIn_tupleAt (eqU x) pl (fun w hw => mem_eqAt rx fx r fs w (by simpa using hw)) ⟨.bl _, H, I, rfl, ?_⟩
    rw [show its.toArray.any (eqU x) = its.any (eqU x) by simp, any_eqU r fs]
    exact q
theorem call_len_seq : CallR X (.builtin "len") (fun xs H Q => ∃ p ys, xs = [.ref p] ∧ (SqL X.K H p ys ∨ SqT X.K H p ys) ∧ Q (.int ys.length) H) := by
  constructor
  intro pins s σ H xs us Q I r h
  obtain ⟨p, ys, rfl, hq, q⟩ := h
  obtain ⟨u, rfl, rx⟩ := vals1 r
  cases rx
  have hn := line63
  rcases hq with hq | hq
  · obtain ⟨its, r', pl, hz⟩ := I.list hq
    have hlen := r'.length
    exact Calls.call_len_list pl.isList (by simp only [List.size_toArray] <;> omega) ⟨.int ys.length, H, I.tok _, ⟨s.toks + 1, by rw [List.size_toArray, hlen]⟩, q⟩
  · obtain ⟨its, r', pl, hz⟩ := I.tuple hq
    have hlen := r'.length
    exact len_tuple pl (by simp only [List.size_toArray] <;> omega) ⟨.int ys.length, H, I.tok _, ⟨s.toks + 1, by rw [List.size_toArray, hlen]⟩, q⟩
theorem call_len_str : CallR X (.builtin "len") (fun xs H Q => ∃ z, xs = [.str z] ∧ z.length ≤ sizeLine ∧ Q (.int z.length) H) := by
  constructor
  intro pins s σ H xs us Q I r h
  obtain ⟨z, rfl, hz, q⟩ := h
  obtain ⟨u, rfl, t, rfl⟩ := vals1 r
  have hn := line63
  exact len_str (by omega) ⟨.int z.length, H, I.tok _, ⟨_, rfl⟩, q⟩
theorem call_list_of : CallR X (.type "list") (fun xs H Q => ∃ p ys, xs = [.ref p] ∧ (SqL X.K H p ys ∨ SqT X.K H p ys) ∧ ∀ l, H l = none → Q (.ref l) (upd H l (.lst ys))) := by
  constructor
  intro pins s σ H xs us Q I r h
  obtain ⟨p, ys, rfl, hq, q⟩ := h
  obtain ⟨u, rfl, rx⟩ := vals1 r
  cases rx
  have fin : ∀ (its : List Value), Vals ys its → ys.length ≤ sizeLine → ∀ (h' : Heap) (c' : Nat), (∀ b o', s.heap.get? b = some o' → h'.get? b = some o') →
      h'.get? s.heap.objs.size = some { cls := .type "list", dict := none, data := .seq its.toArray c', slots := #[] } → EP X pins σ Q (.ref s.heap.objs.size) { s with heap := h' } := fun its r' hz h' c' kp e =>
    ⟨.ref s.heap.objs.size, _, I.laid (t' := s.toks) kp (Nat.le_refl _) (show ObjOk X.prog X.w _ h' _ (.lst ys) from ⟨hz, its, c', r', e⟩), rfl, q _ (I.hok.fresh (Nat.le_refl _))⟩
  rcases hq with hq | hq
  · obtain ⟨its, r', pl, hz⟩ := I.list hq
    have hlen := r'.length
    obtain ⟨o, ho, hc, n, hd⟩ := pl.isList
    exact call_list_seq p (.inl rfl) ho hc hd (fun h' c' kp e => fin its r' hz h' c' kp e) (by simp only [List.size_toArray] <;> omega)
  · obtain ⟨its, r', pl, hz⟩ := I.tuple hq
    have hlen := r'.length
    obtain ⟨o, ho, hc, n, hd⟩ := pl
    exact call_list_seq p (.inr rfl) ho hc hd (fun h' c' kp e => fin its r' hz h' c' kp e) (by simp only [List.size_toArray] <;> omega)
theorem call_tuple_of : CallR X (.type "tuple") (fun xs H Q => ∃ p ys, xs = [.ref p] ∧ ((SqL X.K H p ys ∧ ∀ l, H l = none → Q (.ref l) (upd H l (.tup ys))) ∨ (SqT X.K H p ys ∧ Q (.ref p) H))) := by
  constructor
  intro pins s σ H xs us Q I r h
  obtain ⟨p, ys, rfl, h⟩ := h
  obtain ⟨u, rfl, rx⟩ := vals1 r
  cases rx
  rcases h with ⟨hq, q⟩ | ⟨hq, q⟩
  · obtain ⟨its, r', pl, hz⟩ := I.list hq
    have hlen := r'.length
    refine call_tuple_list pl.isList (fun h' kp => ?_) (by simp only [List.size_toArray] <;> omega)
    have I1 : Inv X pins σ H { s with heap := h' } := I.kept (t' := s.toks) kp
    have I2 : Inv X pins σ (upd H h'.objs.size (.tup ys)) { s with heap := h'.push { cls := .type "tuple", data := .seq its.toArray } } :=
      I1.laid (t' := s.toks) (fun b o e => Heap.get?_push_of_some _ e) (Nat.le_refl _) (show ObjOk X.prog X.w _ _ _ (.tup ys) from ⟨hz, its, r', TupN.new _ _⟩)
    exact ⟨.ref h'.objs.size, _, I2, rfl, q _ (I1.hok.fresh (Nat.le_refl _))⟩
  · obtain ⟨its, r', pl, hz⟩ := I.tuple hq
    exact call_tuple_same pl ⟨.ref p, H, I, rfl, q⟩



def tyV (K : PySem.W.Frag) (T : String) (x : V) (H : Hp) : Prop := match x with
  | .str _ => T = "str"
  | .int _ => T = "int"
  | .ref p => (T = "list" ∧ ∃ xs, SqL K H p xs) ∨ (T = "tuple" ∧ ∃ o, K.lookup p = some o ∧ o.cls = .type "tuple" ∧ o.dict = none) ∨
      (T = "dict" ∧ ((∃ kvs, H p = some (.dK kvs)) ∨ ∃ kvs, H p = some (.dT kvs))) ∨ (T = "set" ∧ ∃ S n, H p = some (.set S n))
  | _ => False
theorem tyV_is {pins : List (Addr × Obj)} {σ : St} {H : Hp} {s : Shared} {T : String} {x : V} {v : Value} (I : Inv X pins σ H s) (r : RelV x v) (ty : tyV X.K T x H) :
    s.TypeIs v T ∧ ∀ a, v = .ref a → ∃ ob, s.heap.get? a = some ob ∧ ob.dict = none := by
  cases x with
  | str z =>
    obtain ⟨t, rfl⟩ := r
    cases (show T = "str" from ty)
    exact ⟨typeIs_str s z t, fun _ e => nomatch e⟩
  | int i =>
    obtain ⟨t, rfl⟩ := r
    cases (show T = "int" from ty)
    exact ⟨typeIs_int s i t, fun _ e => nomatch e⟩
  | ref p =>
    cases r
    rcases ty with ⟨rfl, xs, hq⟩ | ⟨rfl, o, hk, hc, hd⟩ | ⟨rfl, hk⟩ | ⟨rfl, S, n, hk⟩
    · obtain ⟨its, _, pl, _⟩ := I.list hq
      refine ⟨pl.isList.typeIs, fun a e => ?_⟩
      cases e
      obtain ⟨o, n, e, c, hd, _⟩ := pl
      exact ⟨o, e, hd⟩
    · refine ⟨⟨o, I.kIn p o hk, hc⟩, fun a e => ?_⟩
      cases e
      exact ⟨o, I.kIn _ o hk, hd⟩
    · have z : ∃ o, s.heap.get? p = some o ∧ o.ExactDict := by
        rcases hk with ⟨kvs, hk⟩ | ⟨kvs, hk⟩
        · obtain ⟨_, _, _, _, o, _, _, e, ex, _⟩ := I.hok p _ hk
          exact ⟨o, e, ex⟩
        · obtain ⟨_, _, _, _, o, _, _, e, ex, _⟩ := I.hok p _ hk
          exact ⟨o, e, ex⟩
      obtain ⟨o, e, ex⟩ := z
      refine ⟨⟨o, e, ex.1⟩, fun a e2 => ?_⟩
      cases e2
      exact ⟨o, e, ex.2.1⟩
    · obtain ⟨o, _, _, _, e, ex, _⟩ := I.hok p _ hk
      refine ⟨⟨o, e, ex.1⟩, fun a e2 => ?_⟩
      cases e2
      exact ⟨o, e, ex.2.1⟩
  | _ => exact False.elim ty
def tBM0 (K : PySem.W.Frag) (T : String) (r : V → List V → Hp → VK → Prop) (to : TE) : TE := fun σ H Q => to σ H fun x H1 => tyV K T x H1 ∧ r x [] H1 Q
def tBM (K : PySem.W.Frag) (T : String) (r : V → List V → Hp → VK → Prop) (to : TE) (t : TA) : TE := fun σ H Q => to σ H fun x H1 => tyV K T x H1 ∧ t σ H1 fun xs H2 => r x xs H2 Q
variable {o e : Expr} {es : List Expr} {to : TE} {t : TA} {name : Str} {apos cpos : Pos} {T id : String} {r : V → List V → Hp → VK → Prop}
theorem pe_bm (pa : PlainAttrs T) (slot : Slot T name id) (hty : typeOf (.builtin id) = pure (.type "method_descriptor")) (hm : MtR X id r) (ho : PE X o to) (ha : PA X (e :: es) t)
    (hbase : attributeBase o name X.env (eval o X.env) = eval o X.env := by rfl)
    (hfew : ((backTo cpos (starEach (e :: es) X.env)).all (fun x => !x.1) && (backToKw cpos (keywordEach [] X.env)).all (fun x => x.1.isSome)
      && decide ((e :: es).length + ([] : List Keyword).length + (if ([] : List Keyword).isEmpty then 0 else 1) < 30)) = true := by rfl)
    (hline : (apos.endLine == cpos.line) = true := by rfl) (hs : starEach (e :: es) X.env = (false, eval e X.env) :: starEach es X.env := by rfl) (hplain : (backTo cpos (starEach es X.env)).any (·.1) = false := by rfl) :
    PE X (.Call (.Attribute o name apos) (e :: es) [] cpos) (tBM X.K T r to t) := by
  constructor
  intro pins s σ H Q I h
  refine wpAny_Call_method_late hbase hfew hline rfl (thn (ho pins s σ H _ I h) fun v s1 ⟨x, H1, I1, r1, ty, q1⟩ => ?_)
  obtain ⟨h1, h2⟩ := tyV_is I1 r1 ty
  refine ⟨T, id, pa, slot, hty, h1, h2, ?_⟩
  have hA := ha cpos pins s1 σ H1 _ I1 q1
  rw [hs] at hA ⊢
  refine Calls.callWith_builtin (by show (false || (backTo cpos (starEach es X.env)).any (·.1)) = false; rw [hplain] <;> rfl) (Calls.evalArgs_plain ?_)
  exact thn hA fun us s2 ⟨vs, H2, I2, r2, q2⟩ => hm pins s2 σ H2 x vs v us Q I2 r1 r2 q2

end
end L2

namespace L2
open PySem PySem.Spec PyProof.Rows

structure MtM (X : Cx) (id : String) (r : V → List V → Hp → VK → Prop) : Prop where
  run :
    ∀ (pins : List (Addr × Obj)) (s : Shared) (σ : St) (H : Hp) (x : V) (xs : List V) (v : Value) (us : List Value) (Q : VK), Inv X pins σ H s → RelV x v → Vals xs us → r x xs H Q →
      wpAny (model X.prog X.w) X.A (call (.builtin id) (v :: us)) (EP X pins σ Q) X.xe s
instance {X : Cx} {id : String} {r : V → List V → Hp → VK → Prop} : CoeFun (MtM X id r) (fun _ =>
  ∀ (pins : List (Addr × Obj)) (s : Shared) (σ : St) (H : Hp) (x : V) (xs : List V) (v : Value) (us : List Value) (Q : VK), Inv X pins σ H s → RelV x v → Vals xs us → r x xs H Q →
    wpAny (model X.prog X.w) X.A (call (.builtin id) (v :: us)) (EP X pins σ Q) X.xe s) := ⟨MtM.run⟩


theorem Vals.one : ∀ {x : V} {us : List Value}, Vals [x] us → ∃ u, us = [u] ∧ RelV x u
  | _, _, .cons r .nil => ⟨_, rfl, r⟩
theorem Vals.eraseIdx : ∀ {xs : List V} {us : List Value} (i : Nat), Vals xs us → Vals (xs.eraseIdx i) (us.eraseIdx i)
  | _, _, _, .nil => .nil
  | _, _, 0, .cons _ t => t
  | _, _, i + 1, .cons r t => .cons r (Vals.eraseIdx i t)
theorem len_erase {α : Type} : ∀ (l : List α) (i : Nat), (l.eraseIdx i).length ≤ l.length
  | [], _ => Nat.le_refl _
  | _ :: _, 0 => Nat.le_succ _
  | _ :: r, i + 1 => Nat.succ_le_succ (len_erase r i)
section
variable {X : Cx} {pins : List (Addr × Obj)} {σ : St} {H : Hp} {s : Shared} {l b : Addr} {xs ys zs : List V}


theorem Inv.lset {its its' : List Value} {n : Nat} {f : Array Value → Array Value} {t' : Nat} (I : Inv X pins σ H s) (hH : H l = some (.lst xs))
    (e : s.heap.get? l = some { cls := .type "list", data := .seq its.toArray n }) (hf : f its.toArray = its'.toArray) (hv : Vals ys its') (hz : ys.length ≤ sizeLine) :
    Inv X pins σ (upd H l (.lst ys)) { s with heap := s.heap.update l (Obj.mapSeq f), toks := t' } := by
  have q := PySem.IsL.update e f
  rw [hf] at q
  refine I.write (x := l) (e := l) (by rw [hH]; exact trivial) (.inl rfl) (fun b' u hb hu => (Heap.get?_update_other s.heap (Obj.mapSeq f) (Ne.symm hb)).trans hu) ⟨_, q⟩ ?_
  exact ⟨hz, its', _, hv, q⟩
theorem Inv.lstM (I : Inv X pins σ H s) (hH : H l = some (.lst xs)) : xs.length ≤ sizeLine ∧ ∃ (its : List Value) (n : Nat), Vals xs its ∧ xs.length = its.length ∧ s.heap.get? l = some { cls := .type "list", data := .seq its.toArray n } := by
  obtain ⟨z, its, n, r, e⟩ := I.hok l _ hH
  exact ⟨z, its, n, r, r.length, e⟩

end

section
variable {X : Cx}


def rAppend : V → List V → Hp → VK → Prop := fun x vs H Q => ∃ l xs y, x = .ref l ∧ vs = [y] ∧ H l = some (.lst xs) ∧ xs.length < sizeLine ∧ Q .non (upd H l (.lst (xs ++ [y])))
theorem mt_append : MtM X "list.append" rAppend := by
  constructor
  intro pins s σ H x vs v us Q I rx rv h
  obtain ⟨l, xs, y, rfl, rfl, hH, hz, q⟩ := h
  cases rx
  obtain ⟨u, rfl, ru⟩ := rv.one
  obtain ⟨z, its, n, r, hl, e⟩ := I.lstM hH
  refine call_meets F.slot_list_append ⟨_, e, rfl⟩ F.entry_list_append (F.args_list_append_2 _ _) (PySem.list_append l its.toArray n u (by rw [List.size_toArray]; omega)) ⟨e, ?_⟩
  refine ⟨.non, _, I.lset (its' := its ++ [u]) hH e (by simp) (r.append (.cons ru .nil)) ?_, rfl, q⟩
  rw [List.length_append, List.length_singleton]
  omega

def rExtend : V → List V → Hp → VK → Prop := fun x vs H Q => ∃ l b xs zs, x = .ref l ∧ vs = [.ref b] ∧ H l = some (.lst xs) ∧ H b = some (.lst zs) ∧ xs.length + zs.length ≤ sizeLine ∧ Q .non (upd H l (.lst (xs ++ zs)))
def rPop : V → List V → Hp → VK → Prop := fun x vs H Q => ∃ l xs y, x = .ref l ∧ vs = [] ∧ H l = some (.lst xs) ∧ xs[xs.length - 1]? = some y ∧ Q y (upd H l (.lst xs.dropLast))
def rPopAt : V → List V → Hp → VK → Prop := fun x vs H Q => ∃ l xs i k y, x = .ref l ∧ vs = [.int i] ∧ H l = some (.lst xs) ∧ -(2 ^ 63) ≤ i ∧ i < 2 ^ 63 ∧ seqIndex? i xs.length = some k ∧ xs[k]? = some y ∧ Q y (upd H l (.lst (xs.eraseIdx k)))
def rReverse : V → List V → Hp → VK → Prop := fun x vs H Q => ∃ l xs, x = .ref l ∧ vs = [] ∧ H l = some (.lst xs) ∧ Q .non (upd H l (.lst xs.reverse))
def rClear : V → List V → Hp → VK → Prop := fun x vs H Q => ∃ l xs, x = .ref l ∧ vs = [] ∧ H l = some (.lst xs) ∧ Q .non (upd H l (.lst []))
def rCat : R2 := fun x y H Q => ∃ l b xs zs, x = .ref l ∧ y = .ref b ∧ H l = some (.lst xs) ∧ H b = some (.lst zs) ∧ xs.length + zs.length ≤ sizeLine ∧ ∀ p, H p = none → Q (.ref p) (upd H p (.lst (xs ++ zs)))
def rRep : R2 := fun x y H Q => ∃ l k xs, x = .ref l ∧ y = .int k ∧ H l = some (.lst xs) ∧ -(2 ^ 63) ≤ k ∧ k < 2 ^ 63 ∧ xs.length * k.toNat ≤ sizeLine ∧
  ∀ p, H p = none → Q (.ref p) (upd H p (.lst (List.replicate k.toNat xs).flatten))
end


section
variable {prog : Program} {w : World} {A : Around} {E : Value → Shared → Prop} {s : Shared}
end

section
variable {X : Cx}

end
end L2

namespace L2
open PySem PySem.Spec PyProof.Rows

theorem Vals.ints : ∀ {ns : List Int} {us : List Value}, Vals (ns.map V.int) us → IntsAre us ns
  | [], us, h => by
    rw [List.map_nil] at h
    cases h
    exact IntsAre.nil
  | n :: ns, us, h => by
    rw [List.map_cons] at h
    cases h with
    | cons r t =>
      obtain ⟨k, rfl⟩ := r
      exact IntsAre.cons n k (Vals.ints t)
theorem Vals.strs : ∀ {xs : List Str} {us : List Value}, Vals (xs.map V.str) us → StrsAre us xs
  | [], us, h => by
    rw [List.map_nil] at h
    cases h
    exact StrsAre.nil
  | x :: xs, us, h => by
    rw [List.map_cons] at h
    cases h with
    | cons r t =>
      obtain ⟨k, rfl⟩ := r
      exact StrsAre.cons x k (Vals.strs t)
theorem Vals.bls : ∀ {bs : List Bool} {us : List Value}, Vals (bs.map V.bl) us → us = bs.map Value.bool
  | [], us, h => by
    rw [List.map_nil] at h
    cases h
    rfl
  | b :: bs, us, h => by
    rw [List.map_cons] at h
    cases h with
    | cons r t =>
      cases r
      rw [Vals.bls t, List.map_cons]
theorem Vals.ref1 {a : Addr} {us : List Value} (r : Vals [V.ref a] us) : us = [Value.ref a] := by
  cases r with
  | cons r t =>
    cases t
    cases r
    rfl
section
variable {prog : Program} {w : World} {A : Around} {E : Value → Shared → Prop} {s : Shared} {l : Addr} {its : List Value} {ns : List Int} {Q : Value → Shared → Prop}
end


section
variable {X : Cx}

def rSum (K : PySem.W.Frag) : List V → Hp → VK → Prop := fun vs H Q => ∃ (a : Addr) (ns : List Int), vs = [V.ref a] ∧ SqL K H a (ns.map V.int) ∧ Q (.int ns.sum) H

def rMax (K : PySem.W.Frag) : List V → Hp → VK → Prop := fun vs H Q => ∃ (a : Addr) (ns : List Int), vs = [V.ref a] ∧ SqL K H a (ns.map V.int) ∧ 0 < ns.length ∧ ∀ m, m ∈ ns → (∀ y, y ∈ ns → y ≤ m) → Q (.int m) H
def rMin (K : PySem.W.Frag) : List V → Hp → VK → Prop := fun vs H Q => ∃ (a : Addr) (ns : List Int), vs = [V.ref a] ∧ SqL K H a (ns.map V.int) ∧ 0 < ns.length ∧ ∀ m, m ∈ ns → (∀ y, y ∈ ns → m ≤ y) → Q (.int m) H
def rSorted (K : PySem.W.Frag) : List V → Hp → VK → Prop := fun vs H Q => ∃ (a : Addr) (ns : List Int), vs = [V.ref a] ∧ SqL K H a (ns.map V.int) ∧ ns.length < 64 ∧
  ∀ (ns' : List Int) (p : Addr), ns'.Perm ns → ns'.Pairwise (· ≤ ·) → H p = none → Q (.ref p) (upd H p (.lst (ns'.map V.int)))
def rSortedS (K : PySem.W.Frag) : List V → Hp → VK → Prop := fun vs H Q => ∃ (a : Addr) (xs : List Str), vs = [V.ref a] ∧ SqL K H a (xs.map V.str) ∧ xs.length < 64 ∧
  ∀ (ys : List Str) (p : Addr), ys.Perm xs → sortedS ys = true → H p = none → Q (.ref p) (upd H p (.lst (ys.map V.str)))
def rSort : V → List V → Hp → VK → Prop := fun x xs H Q => ∃ (a : Addr) (ns : List Int), x = V.ref a ∧ xs = [] ∧ H a = some (.lst (ns.map V.int)) ∧ ns.length < 64 ∧
  ∀ ns' : List Int, ns'.Perm ns → ns'.Pairwise (· ≤ ·) → Q .non (upd H a (.lst (ns'.map V.int)))
end


section
variable {X : Cx}
def rIndex (K : PySem.W.Frag) : V → List V → Hp → VK → Prop := fun x xs H Q => ∃ (a : Addr) (ys : List V) (y : V) (j : Nat) (z : V), x = V.ref a ∧ xs = [y] ∧ SqL K H a ys ∧ flatV y = true ∧ ys.all flatV = true ∧ ys[j]? = some z ∧ eqV z y = true ∧
  (∀ (m : Nat) (z' : V), m < j → ys[m]? = some z' → eqV z' y = false) ∧ Q (.int (j : Nat)) H
theorem flat_at {ys : List V} (f : ys.all flatV = true) {j : Nat} {z : V} (h : ys[j]? = some z) : flatV z = true := List.all_eq_true.mp f z (List.mem_of_getElem? h)
theorem mt_index : MtR X "list.index" (rIndex X.K) := by
  constructor
  intro pins s σ H x xs v us Q I rx rxs h
  obtain ⟨a, ys, y, j, z, rfl, rfl, hs, fy, fys, hz, hzj, hno, q⟩ := h
  cases rx
  cases rxs with
  | cons ry rt =>
    rename_i uy ut
    cases rt
    obtain ⟨its, rv, ⟨⟨cls, dd, data, sl⟩, n, ho, hc, hdn, hd⟩, hlen⟩ := I.list hs
    simp only at hc hd
    subst hc hd
    obtain ⟨u, hu, ru⟩ := rv.get hz
    obtain ⟨hjl, hje⟩ := List.getElem?_eq_some_iff.mp hu
    have hvl := rv.length
    have hj : j < its.toArray.size := by simpa using hjl
    have hsl := sizeLine_eq
    refine call_meets PySem.F.slot_list_index ⟨_, ho, rfl⟩ PySem.F.entry_list_index (PySem.F.args_list_index_2 _ _)
      (SeqAt.list_indexAt a its.toArray n dd sl uy (eqU y) j hj (by omega) ?_ ?_) ⟨ho, fun u' hu' => mem_eqAt ry fy rv fys u' (by simpa using hu'), ?_⟩
    · have e1 : its.toArray[j] = u := by simpa using hje
      rw [e1, eqU_of ru (flat_at fys hz)]
      exact hzj
    · intro m hm hmj
      have hml : m < its.length := by simpa using hm
      have hmy : m < ys.length := by omega
      have hy' : ys[m]? = some ys[m] := List.getElem?_eq_getElem hmy
      obtain ⟨u2, hu2, ru2⟩ := rv.get hy'
      obtain ⟨_, hme⟩ := List.getElem?_eq_some_iff.mp hu2
      have e1 : its.toArray[m] = u2 := by simpa using hme
      rw [e1, eqU_of ru2 (flat_at fys hy')]
      exact hno m _ hmj hy'
    · exact ⟨.int (j : Nat), H, I.tok _, ⟨_, rfl⟩, q⟩
end


section
variable {X : Cx}
end


theorem iter_any {prog : Program} {w : World} {A : Around} {E : Value → Shared → Prop} {s : Shared} {l : Addr} {items : Array Value} {Q : Value → Shared → Prop} (hl : s.heap.IsList l items)
    (h : ∀ s₂ : Shared, s₂ = { s with heap := s.heap.push { cls := .type "list_iterator", data := .fields #[.ref l, .int 0 0] } } →
      (s₂.heap.IsListIter s.heap.objs.size l 0 ∧ s₂.heap.IsList l items) → l ≠ s.heap.objs.size → Q (.ref s.heap.objs.size) s₂) : wpAny (model prog w) A (pyIter (.ref l)) Q E s := by
  have hlt : l < s.heap.objs.size := by obtain ⟨_, e, _⟩ := hl; exact Heap.lt_size e
  exact wpAny_pyIter_list hl (h _ rfl ⟨⟨_, Heap.get?_push_size _ rfl, rfl, rfl⟩, hl.push _⟩ (Nat.ne_of_lt hlt))
theorem truth_bools {prog : Program} {w : World} {A : Around} {bs : List Bool} {its : List Value} (e : its = bs.map Value.bool) :
    TruthOf prog w A (fun i v => its.toArray[i]? = some v) (fun i => bs.getD i false) := fun i v s Q E hv hq => by
  have hv' : its[i]? = some v := by simpa using hv
  rw [e, List.getElem?_map] at hv'
  obtain ⟨b, hb, rfl⟩ := Option.map_eq_some_iff.mp hv'
  have hg : bs.getD i false = b := by rw [List.getD_eq_getElem?_getD, hb] <;> rfl
  have hq' : Q (bs.getD i false) s := hq
  rw [hg] at hq'
  exact wpAny_truthy_bool hq'
theorem all_range : ∀ bs : List Bool, (List.range bs.length).all (fun i => bs.getD i false) = bs.all id
  | [] => rfl
  | b :: bs => by
    rw [List.length_cons, List.range_succ_eq_map, List.all_cons, List.all_map, List.all_cons, ← all_range bs]
    all_goals rfl
section
variable {X : Cx}
def rAny (K : PySem.W.Frag) : List V → Hp → VK → Prop := fun vs H Q => ∃ (a : Addr) (bs : List Bool), vs = [V.ref a] ∧ SqL K H a (bs.map V.bl) ∧ Q (.bl (bs.any id)) H
def rAll (K : PySem.W.Frag) : List V → Hp → VK → Prop := fun vs H Q => ∃ (a : Addr) (bs : List Bool), vs = [V.ref a] ∧ SqL K H a (bs.map V.bl) ∧ Q (.bl (bs.all id)) H
theorem cr_all (hc : X.calm = true) : CallR X (.builtin "all") (rAll X.K) := by
  constructor
  intro pins s σ H vs us Q I r h
  obtain ⟨a, bs, rfl, hs, q⟩ := h
  obtain ⟨its, rv, hl, _⟩ := I.list hs
  rw [Vals.ref1 r]
  have hb := rv.bls
  refine call_all_walk (iter_any hl.isList fun s₂ e2 st hne => ?_)
  subst e2
  refine ⟨_, _, _, _, _, _, _, rfl, Walks.list (A := X.A.in1) (I.ok.hd hc) _ a hne its.toArray, st, truth_bools hb, fun h' tk hk => ?_⟩
  refine ⟨.bl _, H, I.kept fun b o eo => hk b o (fun hmem => ?_) (Heap.get?_push_of_some _ eo), ?_, q⟩
  · rcases List.mem_cons.mp hmem with e1 | hmem
    · exact absurd (e1 ▸ Heap.lt_size eo) (Nat.lt_irrefl _)
    · cases hmem
  · show Value.bool _ = Value.bool _
    rw [← all_range, hb, List.size_toArray, List.length_map]
end


mutual
inductive Dp (K : PySem.W.Frag) (H : Hp) : V → PyData → Prop
  | non : Dp K H .non .none
  | bl (b : Bool) : Dp K H (.bl b) (.bool b)
  | int (i : Int) : Dp K H (.int i) (.int i)
  | str (x : Str) : Dp K H (.str x) (.str x)
  | lst {a : Addr} {xs : List V} {ds : List PyData} : SqL K H a xs → DpAll K H xs ds → Dp K H (.ref a) (.list ds)
  | tup {a : Addr} {xs : List V} {ds : List PyData} : SqT K H a xs → DpAll K H xs ds → Dp K H (.ref a) (.tuple ds)
inductive DpAll (K : PySem.W.Frag) (H : Hp) : List V → List PyData → Prop
  | nil : DpAll K H [] []
  | cons {v : V} {vs : List V} {d : PyData} {ds : List PyData} : Dp K H v d → DpAll K H vs ds → DpAll K H (v :: vs) (d :: ds)
end
section
variable {X : Cx} {pins : List (Addr × Obj)} {σ : St} {H : Hp} {s : Shared}
mutual
theorem Dp.reads (I : Inv X pins σ H s) : ∀ (d : PyData) (v : V) (u : Value), Dp X.K H v d → RelV v u → ∃ as, Reads s.heap u d as
  | .none, _, _, h, r => by
    cases h
    cases r
    exact ⟨_, Reads.none⟩
  | .bool b, _, _, h, r => by
    cases h
    cases r
    exact ⟨_, Reads.bool b⟩
  | .int i, _, _, h, r => by
    cases h
    obtain ⟨t, rfl⟩ := r
    exact ⟨_, Reads.int i t⟩
  | .str x, _, _, h, r => by
    cases h
    obtain ⟨t, rfl⟩ := r
    exact ⟨_, Reads.str x t⟩
  | .list ds, _, _, h, r => by
    cases h with
    | lst hs ha =>
      cases r
      obtain ⟨its, rv, ⟨o, n, ho, hc, _, hd⟩, _⟩ := I.list hs
      obtain ⟨as, hr⟩ := Dp.readsAll I ds _ its ha rv
      exact ⟨_, Reads.list ho hc hd hr⟩
  | .tuple ds, _, _, h, r => by
    cases h with
    | tup hs ha =>
      cases r
      obtain ⟨its, rv, ⟨o, ho, hc, n, hd⟩, _⟩ := I.tuple hs
      obtain ⟨as, hr⟩ := Dp.readsAll I ds _ its ha rv
      exact ⟨_, Reads.tuple ho hc hd hr⟩
  | .dict _, _, _, h, _ => by cases h
theorem Dp.readsAll (I : Inv X pins σ H s) : ∀ (ds : List PyData) (vs : List V) (us : List Value), DpAll X.K H vs ds → Vals vs us → ∃ as, ReadsAll s.heap us ds as
  | [], _, _, h, r => by
    cases h
    cases r
    exact ⟨_, ReadsAll.nil⟩
  | d :: ds, _, _, h, r => by
    cases h with
    | cons h1 h2 =>
      cases r with
      | cons r1 r2 =>
        obtain ⟨as, q1⟩ := Dp.reads I d _ _ h1 r1
        obtain ⟨bs, q2⟩ := Dp.readsAll I ds _ _ h2 r2
        exact ⟨_, ReadsAll.cons q1 q2⟩
end
end
section
variable {X : Cx}
def rEqD (K : PySem.W.Frag) : R2 := fun x y H Q => ∃ d e, Dp K H x d ∧ Dp K H y e ∧ SeqAt.shaped d = true ∧ SeqAt.shaped e = true ∧ Q (.bl (PyData.eqv d e)) H
def rNeD (K : PySem.W.Frag) : R2 := fun x y H Q => ∃ d e, Dp K H x d ∧ Dp K H y e ∧ SeqAt.shaped d = true ∧ SeqAt.shaped e = true ∧ Q (.bl (!PyData.eqv d e)) H
theorem op_eqD (hu : X.A.units + 64 < cLine) : OpR X (compareOp .Eq) (rEqD X.K) := by
  constructor
  intro pins s σ H x y v u Q I rx ry h
  obtain ⟨d, e, hd, he, sd, se, q⟩ := h
  obtain ⟨as, r1⟩ := Dp.reads I d x v hd rx
  obtain ⟨bs, r2⟩ := Dp.reads I e y u he ry
  exact SeqAt.compareEq_shaped r1 r2 sd se hu ⟨.bl _, H, I, rfl, q⟩
theorem op_neD (hu : X.A.units + 64 < cLine) : OpR X (compareOp .NotEq) (rNeD X.K) := by
  constructor
  intro pins s σ H x y v u Q I rx ry h
  obtain ⟨d, e, hd, he, sd, se, q⟩ := h
  obtain ⟨as, r1⟩ := Dp.reads I d x v hd rx
  obtain ⟨bs, r2⟩ := Dp.reads I e y u he ry
  exact SeqAt.compareNe_shaped r1 r2 sd se hu ⟨.bl _, H, I, rfl, q⟩
end
end L2

namespace L2
open PySem PySem.Spec PyProof.Rows
abbrev CellAt (h : Heap) (c : Addr) (v : Option Value) : Prop := h.IsCell c v
def relS (scope sc : Scope) : Scope :=
  { scope with names := scope.names.map fun (n, k) => if (k == .free && sc.kind == .function && sc.names.lookup n == some .cell) then (n, .cell) else (n, k) }

def cloFrom (cells : List (Str × Addr)) : List (Str × NameKind) → List (Str × Addr) → List (Str × Addr)
  | [], acc => acc
  | (n, k) :: r, acc => if k == .free then cloFrom cells r ((n, (cells.lookup n).getD 0) :: acc) else cloFrom cells r acc

theorem closure_loop (env : Env) (f : Str × NameKind → List (Str × Addr) → Sem (ForInStep (List (Str × Addr))))
    (hf : ∀ n k c, f (n, k) c = if k == .free then (do let a ← cellOf env n; pure (.yield ((n, a) :: c))) else pure (.yield c)) :
    ∀ (names : List (Str × NameKind)) (acc : List (Str × Addr)), (∀ y ∈ names, y.2 = .free → ∃ c, env.cells.lookup y.1 = some c) → forIn names acc f = pure (cloFrom env.cells names acc)
  | [], acc, _ => by rw [List.forIn_nil]; rfl
  | (n, k) :: r, acc, h => by
    rw [List.forIn_cons, hf]
    have ih := fun acc => closure_loop env f hf r acc fun y hy => h y (List.mem_cons_of_mem _ hy)
    unfold cloFrom
    by_cases hk : (k == NameKind.free) = true
    · rw [if_pos hk, if_pos hk]
      obtain ⟨c, hc⟩ := h (n, k) List.mem_cons_self (by simpa using hk)
      have e : cellOf env n = pure c := by unfold cellOf; rw [hc]
      rw [e]
      have e2 : (env.cells.lookup n).getD 0 = c := by rw [hc]; rfl
      rw [e2]
      exact ih _
    · rw [if_neg hk, if_neg hk]
      exact ih _
theorem closure_ok {scope : Scope} {env : Env} (h : ∀ y ∈ scope.names, y.2 = .free → ∃ c, env.cells.lookup y.1 = some c) : closureFor scope env = pure (cloFrom env.cells scope.names []) := by
  simp only [closureFor]
  rw [closure_loop env _ (fun n k c => rfl) scope.names [] h]
  rfl

theorem mem_lookup {α : Type} : ∀ {l : List (Str × α)} {n : Str} {c : α}, (n, c) ∈ l → ∃ c', l.lookup n = some c'
  | (k, v) :: r, n, c, h => by
    rw [List.lookup_cons]
    cases hb : n == k with
    | true => exact ⟨_, rfl⟩
    | false =>
      rcases List.mem_cons.mp h with e | h
      · cases e; simp at hb
      · exact mem_lookup h

theorem cloFrom_mem {cells : List (Str × Addr)} : ∀ {names : List (Str × NameKind)} {acc : List (Str × Addr)} {n : Str} {c : Addr}, (n, c) ∈ cloFrom cells names acc → (n, c) ∈ acc ∨ ((n, .free) ∈ names ∧ c = (cells.lookup n).getD 0)
  | [], _, _, _, h => .inl h
  | (m, k) :: r, acc, n, c, h => by
    unfold cloFrom at h
    split at h
    · rename_i hk
      have hk : k = .free := by simpa using hk
      rcases cloFrom_mem h with h | ⟨h1, h2⟩
      · rcases List.mem_cons.mp h with e | h
        · cases e; exact .inr ⟨hk ▸ List.mem_cons_self, rfl⟩
        · exact .inl h
      · exact .inr ⟨List.mem_cons_of_mem _ h1, h2⟩
    · rcases cloFrom_mem h with h | ⟨h1, h2⟩
      · exact .inl h
      · exact .inr ⟨List.mem_cons_of_mem _ h1, h2⟩
theorem cloFrom_acc {cells : List (Str × Addr)} : ∀ {names : List (Str × NameKind)} {acc : List (Str × Addr)} {p : Str × Addr}, p ∈ acc → p ∈ cloFrom cells names acc
  | [], _, _, h => h
  | (m, k) :: r, acc, p, h => by
    unfold cloFrom
    split
    · exact cloFrom_acc (List.mem_cons_of_mem _ h)
    · exact cloFrom_acc h
theorem cloFrom_has {cells : List (Str × Addr)} : ∀ {names : List (Str × NameKind)} {acc : List (Str × Addr)} {n : Str}, (n, .free) ∈ names → (n, (cells.lookup n).getD 0) ∈ cloFrom cells names acc
  | (m, k) :: r, acc, n, h => by
    unfold cloFrom
    rcases List.mem_cons.mp h with e | h
    · cases e
      exact cloFrom_acc List.mem_cons_self
    · split
      · exact cloFrom_has h
      · exact cloFrom_has h

theorem cells_mem : ∀ {names : List (Str × NameKind)} {h : Heap} {acc : List (Str × Addr)} {x : Str} {c : Addr}, (x, c) ∈ cellsFrom h.objs.size names acc →
    (x, c) ∈ acc ∨ ((x, .cell) ∈ names ∧ h.objs.size ≤ c ∧ CellAt (pushCells h names) c none)
  | [], _, _, _, _, h => .inl h
  | (n, k) :: r, h, acc, x, c, hm => by
    unfold cellsFrom at hm
    unfold pushCells
    split at hm
    · rename_i hk
      rw [if_pos hk]
      have hk : k = .cell := by simpa using hk
      rw [← Heap.size_push h { cls := .type "cell", data := .cell none }] at hm
      rcases cells_mem hm with hm | ⟨h1, h2, h3⟩
      · rcases List.mem_cons.mp hm with e | hm
        · cases e
          exact .inr ⟨hk ▸ List.mem_cons_self, Nat.le_refl _, _, pushCells_keeps r _ _ _ (Heap.get?_push_size _ rfl), rfl⟩
        · exact .inl hm
      · rw [Heap.size_push] at h2
        exact .inr ⟨List.mem_cons_of_mem _ h1, Nat.le_of_succ_le h2, h3⟩
    · rename_i hk
      rw [if_neg hk]
      rcases cells_mem hm with hm | ⟨h1, h2, h3⟩
      · exact .inl hm
      · exact .inr ⟨List.mem_cons_of_mem _ h1, h2, h3⟩
theorem cells_acc : ∀ {names : List (Str × NameKind)} {n : Nat} {acc : List (Str × Addr)} {p : Str × Addr}, p ∈ acc → p ∈ cellsFrom n names acc
  | [], _, _, _, h => h
  | (m, k) :: r, n, acc, p, h => by
    unfold cellsFrom
    split
    · exact cells_acc (List.mem_cons_of_mem _ h)
    · exact cells_acc h
theorem cells_has : ∀ {names : List (Str × NameKind)} {n : Nat} {acc : List (Str × Addr)} {x : Str}, (x, .cell) ∈ names → ∃ c, (x, c) ∈ cellsFrom n names acc
  | (m, k) :: r, n, acc, x, h => by
    unfold cellsFrom
    rcases List.mem_cons.mp h with e | h
    · cases e
      exact ⟨n, cells_acc List.mem_cons_self⟩
    · split
      · exact cells_has h
      · exact cells_has h
theorem cells_inj : ∀ {names : List (Str × NameKind)} {h : Heap} {acc : List (Str × Addr)} {x y : Str} {c : Addr}, (∀ p ∈ acc, p.2 < h.objs.size) → (∀ x y c, (x, c) ∈ acc → (y, c) ∈ acc → x = y) →
    (x, c) ∈ cellsFrom h.objs.size names acc → (y, c) ∈ cellsFrom h.objs.size names acc → x = y
  | [], _, _, _, _, _, _, hi, h1, h2 => hi _ _ _ h1 h2
  | (n, k) :: r, h, acc, x, y, c, hl, hi, h1, h2 => by
    unfold cellsFrom at h1 h2
    split at h1
    · rename_i hk
      rw [if_pos hk] at h2
      rw [← Heap.size_push h { cls := .type "cell", data := .cell none }] at h1 h2
      refine cells_inj (h := h.push _) (fun p hp => ?_) (fun x y c a b => ?_) h1 h2
      · rw [Heap.size_push]
        rcases List.mem_cons.mp hp with rfl | hp
        · exact Nat.lt_succ_self _
        · exact Nat.lt_succ_of_lt (hl p hp)
      · rcases List.mem_cons.mp a with e | a <;> rcases List.mem_cons.mp b with e' | b
        · cases e; cases e'; rfl
        · cases e; exact absurd (hl _ b) (Nat.lt_irrefl _)
        · cases e'; exact absurd (hl _ a) (Nat.lt_irrefl _)
        · exact hi _ _ _ a b
    · rename_i hk
      rw [if_neg hk] at h2
      exact cells_inj hl hi h1 h2

theorem newEnv_comp {M : Model} {A : Around} {E : Value → Shared → Prop} {s : Shared} {scope : Scope} {globals : Addr} {closure : List (Str × Addr)} {qual : Str} {func : Option Addr} {code : Value} {around : Env} {builtins : Addr} {Q : Env → Shared → Prop}
    (h : Q (newEnv scope s.heap.objs.size globals (cellsFrom (s.heap.objs.size + 1) scope.names closure) qual func code (some around) builtins)
      { s with heap := pushCells (s.heap.push { cls := .type "dict", data := .dict #[] }) scope.names }) :
    wpAny M A (newFunctionEnv scope globals closure [] qual func code (some around) builtins) Q E s := by
  simp only [newFunctionEnv, Option.isSome_some, if_true]
  refine wpAny_bind (wpAny_alloc ?_)
  refine wpAny_bind (wpAny_layCells _ (fun n k c => rfl) scope.names closure _ _ ?_)
  rw [show ({ s with heap := s.heap.push { cls := .type "dict", data := .dict #[] } } : Shared).heap.objs.size = s.heap.objs.size + 1 from Heap.size_push ..]
  rw [List.forIn_nil]
  exact wpAny_bind (wpAny_pure (wpAny_pure h))


theorem lookup_relS {sc : Scope} : ∀ {names : List (Str × NameKind)} {x : Str} {k : NameKind},
    (names.map fun (n, k) => if (k == NameKind.free && sc.kind == .function && sc.names.lookup n == some .cell) then (n, NameKind.cell) else (n, k)).lookup x = some k →
    ∃ k', names.lookup x = some k' ∧ (k = k' ∨ (k' = .free ∧ k = .cell))
  | [], _, _, h => by simp at h
  | (n, k₀) :: r, x, k, h => by
    have ih := @lookup_relS sc r x k
    have h' : List.lookup x ((if (k₀ == NameKind.free && sc.kind == .function && sc.names.lookup n == some .cell) = true then (n, NameKind.cell) else (n, k₀)) :: (r.map _)) = some k := h
    cases hx : x == n with
    | true =>
      simp only [List.lookup_cons, hx]
      by_cases hc : (k₀ == NameKind.free && sc.kind == .function && sc.names.lookup n == some .cell) = true
      · rw [if_pos hc] at h'
        simp only [List.lookup_cons, hx] at h'
        cases h'
        simp only [Bool.and_eq_true, beq_iff_eq] at hc
        exact ⟨k₀, rfl, .inr ⟨hc.1.1, rfl⟩⟩
      · rw [if_neg hc] at h'
        simp only [List.lookup_cons, hx] at h'
        cases h'
        exact ⟨_, rfl, .inl rfl⟩
    | false =>
      simp only [List.lookup_cons, hx]
      by_cases hc : (k₀ == NameKind.free && sc.kind == .function && sc.names.lookup n == some .cell) = true
      · rw [if_pos hc] at h'
        simp only [List.lookup_cons, hx] at h'
        exact ih h'
      · rw [if_neg hc] at h'
        simp only [List.lookup_cons, hx] at h'
        exact ih h'
structure BlkOk (N : List Str) (sc scope : Scope) (own : List (Str × Nat)) : Prop where
  kind : scope.kind = .function
  uniq : ∀ y ∈ scope.names, scope.names.lookup y.1 = some y.2
  ix : ∀ p ∈ own, N[p.2]? = some p.1
  free : ∀ y ∈ scope.names, y.2 = .free → sc.names.lookup y.1 = some .cell ∨ sc.names.lookup y.1 = some .free
  own : ∀ y ∈ scope.names, y.2 = .local ∨ y.2 = .cell → y.1 ∈ own.map (·.1) ∨ y.1 ∉ N

def wipe (σ : St) : List Nat → St
  | [] => σ
  | v :: vs => (wipe σ vs).set v none
theorem wipe_length (σ : St) : ∀ vs : List Nat, (wipe σ vs).length = σ.length
  | [] => rfl
  | v :: vs => by unfold wipe; rw [List.length_set, wipe_length σ vs]
theorem wipe_some {σ : St} {i : Nat} {x : V} : ∀ {vs : List Nat}, (wipe σ vs)[i]? = some (some x) → σ[i]? = some (some x) ∧ i ∉ vs
  | [], h => ⟨h, by simp⟩
  | v :: vs, h => by
    unfold wipe at h
    by_cases hi : v = i
    · subst hi
      by_cases hv : v < (wipe σ vs).length
      · rw [List.getElem?_set_self hv] at h; cases h
      · rw [List.getElem?_eq_none (by simpa using hv)] at h; cases h
    · rw [List.getElem?_set_ne hi] at h
      obtain ⟨h1, h2⟩ := wipe_some h
      exact ⟨h1, by simp only [List.mem_cons, not_or]; exact ⟨fun e => hi e.symm, h2⟩⟩


abbrev Cx.blk (X : Cx) (s : Shared) (H : Hp) (scope : Scope) (cenv : Env) (fp : List Addr) : Cx := { X with s_0 := s, H_0 := H, env := cenv, outer := X.stack, ex := fp, fn := fun x => scope.names.lookup x == some .cell, pn := [], xe := fun _ _ => False }
section
variable {X : Cx} {pins : List (Addr × Obj)} {σ : St} {H : Hp} {s : Shared}
theorem block_start {scope : Scope} {own : List (Str × Nat)} {fp : List Addr} (I : Inv X pins σ H s) (ok : BlkOk X.N X.env.scope scope own) (hN : X.N.Nodup) (hfp : ∀ b ∈ fp, FpOk X pins H b ∧ b < s.heap.objs.size) :
    Inv (X.blk s H scope (compEnvC scope (cellsFrom (s.heap.objs.size + 1) scope.names (cloFrom X.env.cells scope.names [])) s.heap.objs.size X.env) fp) [] (wipe σ (own.map (·.2))) H { s with heap := pushCells (s.heap.push { cls := .type "dict", data := .dict #[] }) scope.names } := by
  have hfree : ∀ y ∈ scope.names, y.2 = .free → ∃ c, X.env.cells.lookup y.1 = some c := fun y hy e => by
    rcases ok.free y hy e with k | k
    · exact I.ok.has _ (.inl k)
    · exact I.ok.has _ (.inr k)
  generalize hcenv : compEnvC scope (cellsFrom (s.heap.objs.size + 1) scope.names (cloFrom X.env.cells scope.names [])) s.heap.objs.size X.env = cenv
  have kp : ∀ b o, s.heap.get? b = some o → (pushCells (s.heap.push { cls := .type "dict", data := .dict #[] }) scope.names).get? b = some o := fun b o e => pushCells_keeps _ _ _ _ (Heap.get?_push_of_some _ e)
  have hL : cenv.locals = s.heap.objs.size := by rw [← hcenv]; rfl
  have hcl : cenv.cells = cellsFrom (s.heap.objs.size + 1) scope.names (cloFrom X.env.cells scope.names []) := by rw [← hcenv]; rfl
  have hsc : cenv.scope = relS scope X.env.scope := by rw [← hcenv]; rfl
  rw [← Heap.size_push s.heap { cls := .type "dict", data := .dict #[] }] at hcl
  have cm : ∀ {y c}, (y, c) ∈ cloFrom X.env.cells scope.names [] → X.env.cells.lookup y = some c ∧ c < s.heap.objs.size := fun {y c} hm => by
    rcases cloFrom_mem hm with hm | ⟨h1, rfl⟩
    · cases hm
    · obtain ⟨c, hc⟩ := hfree _ h1 rfl
      rw [hc]
      obtain ⟨w, z⟩ := I.cell _ _ hc
      exact ⟨rfl, z.lt⟩
  have mem : ∀ {y c}, cenv.cells.lookup y = some c → (X.env.cells.lookup y = some c ∧ c < s.heap.objs.size) ∨ (s.heap.objs.size + 1 ≤ c ∧ CellAt (pushCells (s.heap.push { cls := .type "dict", data := .dict #[] }) scope.names) c none) := fun {y c} e => by
    rw [hcl] at e
    rcases cells_mem (PySem.mem_of_lookup e) with hm | ⟨_, h2, h3⟩
    · exact .inl (cm hm)
    · rw [Heap.size_push] at h2; exact .inr ⟨h2, h3⟩
  have look : ∀ {y}, scope.names.lookup y = some .free → ∃ c, cenv.cells.lookup y = some c ∧ X.env.cells.lookup y = some c := fun {y} hl => by
    have hy : (y, NameKind.free) ∈ scope.names := PySem.mem_of_lookup hl
    obtain ⟨c', e'⟩ := mem_lookup (cells_acc (names := scope.names) (n := (s.heap.push { cls := .type "dict", data := .dict #[] }).objs.size) (cloFrom_has (cells := X.env.cells) (acc := []) hy))
    rw [← hcl] at e'
    refine ⟨c', e', ?_⟩
    rw [hcl] at e'
    rcases cells_mem (PySem.mem_of_lookup e') with hm | ⟨h1, _, _⟩
    · exact (cm hm).1
    · have := ok.uniq _ h1
      rw [hl] at this; cases this
  have okB : (X.blk s H scope cenv fp).Ok := by
    refine ⟨I.ok.mod, by show cenv.scope.kind = _; rw [hsc]; exact ok.kind, by show cenv.globals = _; rw [← hcenv]; exact I.ok.glob, by show cenv.builtins = _; rw [← hcenv]; exact I.ok.blt, by show s.heap.objs.size ≤ cenv.locals; rw [hL]; exact Nat.le_refl _,
      fun y z c e1 e2 => ?_, fun y hy => ?_, fun y c z e => ?_, I.ok.hd, I.ok.frames, .inl rfl, fun b hb => ⟨?_, fun y c e z => ?_⟩, I.bs, Nat.le_trans I.ok.bsz I.sz, fun b o e hb => ?_, fun b hb z => ?_, I.stack, I.stkFree⟩
    · have e1 : cenv.cells.lookup y = some c := e1
      have e2 : cenv.cells.lookup z = some c := e2
      rw [hcl] at e1 e2
      refine cells_inj (fun p hp => ?_) (fun y z c a b => I.ok.inj y z c (cm a).1 (cm b).1) (PySem.mem_of_lookup e1) (PySem.mem_of_lookup e2)
      rw [Heap.size_push]
      exact Nat.lt_succ_of_lt (cm (y := p.1) (c := p.2) hp).2
    · show ∃ c, cenv.cells.lookup y = some c
      have key : ∀ k, cenv.kindOf y = some k → (k = .cell ∨ k = .free) → ∃ c, cenv.cells.lookup y = some c := fun k hk hk' => by
        unfold Env.kindOf at hk
        rw [hsc] at hk
        obtain ⟨k', e, r⟩ := lookup_relS hk
        have : k' = .cell ∨ k' = .free := by
          rcases r with rfl | ⟨rfl, _⟩
          · exact hk'
          · exact .inr rfl
        rcases this with rfl | rfl
        · obtain ⟨c, hm⟩ := cells_has (n := (s.heap.push { cls := .type "dict", data := .dict #[] }).objs.size) (acc := cloFrom X.env.cells scope.names []) (PySem.mem_of_lookup e)
          obtain ⟨c', e'⟩ := mem_lookup hm
          exact ⟨c', by rw [hcl]; exact e'⟩
        · obtain ⟨c, h1, _⟩ := look e
          exact ⟨c, h1⟩
      rcases hy with hy | hy
      · exact key _ hy (.inl rfl)
      · exact key _ hy (.inr rfl)
    · have z : (scope.names.lookup y == some NameKind.cell) = true := z
      have z : scope.names.lookup y = some .cell := by simpa using z
      have e : cenv.cells.lookup y = some c := e
      rw [hcl] at e
      rcases cells_mem (PySem.mem_of_lookup e) with hm | ⟨_, h2, _⟩
      · rcases cloFrom_mem hm with hm | ⟨h1, _⟩
        · cases hm
        · have q := ok.uniq _ h1
          rw [z] at q; cases q
      · rw [Heap.size_push] at h2
        exact Nat.le_of_succ_le h2
    · show b ≠ cenv.locals
      rw [hL]; exact Nat.ne_of_lt (hfp b hb).2
    · have e : cenv.cells.lookup y = some c := e
      rcases mem e with ⟨h1, _⟩ | ⟨h1, _⟩
      · exact (hfp b hb).1.2.2.2.2.1 y c h1 z
      · have h2 : s.heap.objs.size + 1 ≤ b := by rw [← z]; exact h1
        exact absurd (Nat.lt_of_lt_of_le (hfp b hb).2 (Nat.le_of_succ_le h2)) (Nat.lt_irrefl _)
    · rcases (hfp b hb).1.2.2.2.1 with z | z
      · exact I.ok.noex b o e z
      · exact absurd (Nat.lt_of_lt_of_le (Heap.lt_size e) (Nat.le_trans I.ok.bsz z)) (Nat.lt_irrefl _)
    · rcases List.mem_cons.mp (I.stkSub b z) with z | z
      · exact (hfp b hb).1.2.1 z
      · exact (hfp b hb).1.2.2.1 z
  refine ⟨okB, rfl, I.bare, Un.kept kp, ⟨fun _ => none, ?_, fun i y av e1 e2 e3 => ?_⟩, fun y c e => ?_, ?_, fun y c e => ?_, fun p hp => ?_, I.hok.kept kp, by rw [wipe_length]; exact I.len⟩
  · show Heap.Ns _ cenv.locals _
    rw [hL]
    exact Heap.Ns.keeps (Heap.Ns.new ..) fun b o e => pushCells_keeps _ _ _ _ e
  · obtain ⟨e2, hne⟩ := wipe_some e2
    have hfr : scope.names.lookup y = some .free ∧ (cenv.kindOf y = some .cell ∨ cenv.kindOf y = some .free) := by
      have key : ∀ k, cenv.scope.names.lookup y = some k → k = .local ∨ k = .cell ∨ k = .free → scope.names.lookup y = some .free ∧ (cenv.kindOf y = some .cell ∨ cenv.kindOf y = some .free) := fun k hk hk' => by
        have hk0 := hk
        rw [hsc] at hk
        obtain ⟨k', e, r⟩ := lookup_relS hk
        have no : ¬ (k' = .local ∨ k' = .cell) := fun hh => by
          rcases ok.own _ (PySem.mem_of_lookup e) hh with e' | e'
          · obtain ⟨p, hp, hpy⟩ := List.mem_map.mp e'
            have e3 := ok.ix p hp
            have : p.1 = y := hpy
            rw [this] at e3
            exact hne (List.mem_map.mpr ⟨p, hp, nodup_ix hN e3 e1⟩)
          · exact e' (List.mem_of_getElem? e1)
        rcases r with rfl | ⟨rfl, rfl⟩
        · rcases hk' with rfl | rfl | rfl
          · exact absurd (.inl rfl) no
          · exact absurd (.inr rfl) no
          · exact ⟨e, .inr hk0⟩
        · exact ⟨e, .inl hk0⟩
      have e3 : Vis cenv.scope y := e3
      rcases e3 with e3 | e3 | e3
      · exact key _ e3 (.inl rfl)
      · exact key _ e3 (.inr (.inl rfl))
      · exact key _ e3 (.inr (.inr rfl))
    obtain ⟨m, hn, hl⟩ := I.loc
    have hvis : Vis X.env.scope y := (ok.free _ (PySem.mem_of_lookup hfr.1) rfl).elim (fun k => .inr (.inl k)) (fun k => .inr (.inr k))
    obtain ⟨w, r, q⟩ := hl i y av e1 e2 hvis
    refine ⟨w, r, .inr ⟨hfr.2, ?_⟩⟩
    obtain ⟨c, h1, h2⟩ := look hfr.1
    rcases q with ⟨k, _⟩ | ⟨_, c', e', z⟩
    · have k : X.env.scope.names.lookup y = some .local := k
      rcases ok.free _ (PySem.mem_of_lookup hfr.1) rfl with k' | k' <;> rw [show X.env.scope.names.lookup y = _ from k'] at k <;> cases k
    · rw [h2] at e'; cases e'
      exact ⟨c, h1, z.keeps kp⟩
  · have e : cenv.cells.lookup y = some c := e
    rcases mem e with ⟨h1, _⟩ | ⟨_, z⟩
    · obtain ⟨w, z⟩ := I.cell y c h1
      exact ⟨w, z.keeps kp⟩
    · exact ⟨_, z⟩
  · show H cenv.locals = none
    rw [hL]; exact I.hok.fresh (Nat.le_refl _)
  · have e : cenv.cells.lookup y = some c := e
    rcases mem e with ⟨h1, _⟩ | ⟨h1, _⟩
    · exact I.freeC y c h1
    · exact I.hok.fresh (Nat.le_of_succ_le h1)
  · exact absurd (show p ∈ ([] : List (Addr × Obj)) ++ [] from hp) (by simp)


theorem app_ok {E : Value → Shared → Prop} {D : Addr} {xs : List V} {y : V} {v : Value} {Q : Value → Shared → Prop} (I : Inv X pins σ H s) (hD : H D = some (.lst xs)) (hz : xs.length < sizeLine) (r : RelV y v)
    (h : ∀ s', Inv X pins σ (upd H D (.lst (xs ++ [y]))) s' → Q .none s') : wpAny (model X.prog X.w) X.A (call (.builtin "list.append") [.ref D, v]) Q E s := by
  obtain ⟨hz', its, n, ri, e⟩ := I.hok D _ hD
  have hl := ri.length
  refine append_at (hsz := by rw [List.size_toArray]; omega) e fun h' sb ho' => ?_
  refine h { s with heap := h' } (I.write (t' := s.toks) (by rw [hD]; trivial) (.inl rfl) (fun b u hb q => (sb.2 b hb).trans q) ⟨_, ho'⟩ ⟨by rw [List.length_append]; exact hz, its ++ [v], n + 1, ri.append (.cons r .nil), ?_⟩)
  rw [ho']
  simp


structure PTs (X : Cx) (ifs : List Expr) (t : TT) : Prop where
  run :
    ∀ (pins : List (Addr × Obj)) (s : Shared) (σ : St) (H : Hp) (Q : Bool → Hp → Prop), Inv X pins σ H s → t σ H Q →
      wpAny (model X.prog X.w) X.A (forIn ifs true fun c r => if r = true then do let ok ← isTrue c X.env (eval c X.env); pure (ForInStep.yield ok) else pure (ForInStep.yield r)) (TP X pins σ Q) X.xe s
instance {X : Cx} {ifs : List Expr} {t : TT} : CoeFun (PTs X ifs t) (fun _ =>
  ∀ (pins : List (Addr × Obj)) (s : Shared) (σ : St) (H : Hp) (Q : Bool → Hp → Prop), Inv X pins σ H s → t σ H Q →
    wpAny (model X.prog X.w) X.A (forIn ifs true fun c r => if r = true then do let ok ← isTrue c X.env (eval c X.env); pure (ForInStep.yield ok) else pure (ForInStep.yield r)) (TP X pins σ Q) X.xe s) := ⟨PTs.run⟩
def tYes : TT := fun _ H Q => Q true H
theorem pts_nil : PTs X [] tYes := ⟨fun _ _ _ H _ I h => wpAny_tests_nil ⟨H, I, h⟩⟩
end

theorem thnF {α : Type} {t : Sem α} {Q Q' : α → Shared → Prop} {M : Model} {A : Around} {E : Value → Shared → Prop} {s : Shared} (h : wpAny M A t Q (fun _ _ => False) s) (hQ : ∀ a s, Q a s → Q' a s) : wpAny M A t Q' E s := wpAny_mono h hQ fun _ _ z => False.elim z


theorem compLoop_any {prog : Program} {w : World} {A : Around} {R : Result → Shared → Prop} {s : Shared} {elt target iter : Expr} {ifs : List Expr} {scope : Scope} {pos : Pos} {it acc : Value} {env : Env} (I : Nat → Shared → Prop)
    (turn : ∀ n s, I n s → wpAny (model prog w) A (pyNext it) (fun r s₁ => match r with
      | none => R (.ok .next) s₁
      | some v => wpAny (model prog w) A (letOwnedTupleGo target it v) (fun _ s₁' => wpAny (model prog w) A (assign target env v) (fun _ s₂ =>
          wpAny (model prog w) A (forIn ifs true fun c r => if r = true then do let ok ← isTrue c env (eval c env); pure (ForInStep.yield ok) else pure (ForInStep.yield r)) (fun ok s₃ =>
            if ok = true then wpAny (model prog w) A (eval elt env) (fun x s₄ =>
              wpAny (model prog w) A (call (.builtin "list.append") [acc, x]) (fun _ s₅ => ∃ m, m < n ∧ I m s₅) (notedBy (model prog w) A env fun e s' => R (.error e) s') s₄) (notedBy (model prog w) A env fun e s' => R (.error e) s') s₃
            else ∃ m, m < n ∧ I m s₃) (notedBy (model prog w) A env fun e s' => R (.error e) s') s₂) (notedBy (model prog w) A env fun e s' => R (.error e) s') s₁') (notedBy (model prog w) A env fun e s' => R (.error e) s') s₁) (notedBy (model prog w) A env fun e s' => R (.error e) s') s)
    (n : Nat) (h : I n s) :
    codeAny (model prog w) A (.compLoop (.ListComp elt [⟨target, iter, ifs, 0⟩] scope pos) 0 it acc env) R s := by
  refine codeAny_loop rfl I (fun n s hI => ?_) n h
  show wpAny _ A ((compTurn (.ListComp elt [⟨target, iter, ifs, 0⟩] scope pos) 0 it acc env).onRaise (fun x => do noteFrame x env; theTreesLotGoes x)) _ _ s
  refine wpAny_noted ?_
  rw [compTurn_list]
  refine wpAny_bind (wpAny_standAt (wpAny_bind (wpAny_mono (turn n s hI) (fun r s₁ h₁ => ?_) fun _ _ h' => h')))
  cases r with
  | none => exact wpAny_pure h₁
  | some v =>
    refine wpAny_bind (wpAny_mono h₁ (fun _ s₁' h₁' => ?_) fun _ _ h' => h')
    refine wpAny_bind (wpAny_mono h₁' (fun _ s₂ h₂ => wpAny_bind (wpAny_mono h₂ (fun ok s₃ h₃ => ?_) fun _ _ h' => h')) fun _ _ h' => h')
    cases ok with
    | false => exact wpAny_pure ⟨rfl, h₃⟩
    | true =>
      exact wpAny_bind (wpAny_bind (wpAny_mono h₃ (fun x s₄ h₄ => wpAny_bind (wpAny_mono h₄ (fun _ s₅ h₅ => wpAny_pure (wpAny_pure ⟨rfl, h₅⟩)) fun _ _ h' => h')) fun _ _ h' => h'))

section
variable {X : Cx}

def tLc (wi : TI) (g : TG) (tt : TT) (te : TE) (vs : List Nat) : TE := fun σ H Q => wi σ H fun J H1 => ∀ D, H1 D = none → ∃ W : Nat → Nat → Hp → Prop, (∃ m, W 0 m (upd H1 D (.lst []))) ∧ ∀ i m H, W i m H →
  (J.stop i H ∧ Q (.ref D) H) ∨ (J.go i H ∧ ∃ Nx : Hp → Prop, (∀ H', Nx H' → ∃ m', m' < m ∧ W (i + 1) m' H') ∧ ∀ x H', J.yld i H x H' → g x (wipe σ vs) H' fun σ2 H2 => wipe σ2 vs = wipe σ vs ∧ tt σ2 H2 fun b H3 =>
    if b = true then te σ2 H3 fun y H4 => ∃ acc, H4 D = some (.lst acc) ∧ acc.length < sizeLine ∧ Nx (upd H4 D (.lst (acc ++ [y]))) else Nx H3)
theorem lc_core {pins : List (Addr × Obj)} {s : Shared} {σ : St} {H : Hp} {Q : VK} {elt tg iter : Expr} {ifs : List Expr} {scope : Scope} {own : List (Str × Nat)} {pos pos' : Pos} {wi : TI} {g : TG} {tt : TT} {te : TE} {use : Option (Value → Sem Unit)} {Qf : Value → Shared → Prop}
    (hc : X.calm = true) (hN : X.N.Nodup) (I : Inv X pins σ H s) (hi : PI X tg iter wi) (ok : BlkOk X.N X.env.scope scope own)
    (hg : ∀ (s : Shared) (H : Hp) (C : Addr) (cl : List (Str × Addr)) (fp : List Addr), PG (X.blk s H scope (compEnvC scope cl C X.env) fp) tg g) (ht : ∀ (s : Shared) (H : Hp) (C : Addr) (cl : List (Str × Addr)) (fp : List Addr), PTs (X.blk s H scope (compEnvC scope cl C X.env) fp) ifs tt)
    (he : ∀ (s : Shared) (H : Hp) (C : Addr) (cl : List (Str × Addr)) (fp : List Addr), PE (X.blk s H scope (compEnvC scope cl C X.env) fp) elt te) (hs : ∀ x, foldedSetIterable iter X.env x = pure x)
    (h : tLc wi g tt te (own.map (·.2)) σ H Q)
    (hRR : ∀ D C s' m H', Inv X pins σ H' s' → Q (.ref D) H' → s'.heap.Ns C m → FpOk X pins H' C → compPost (model X.prog X.w) X.A X.xe use Qf (.ref D) C (.ok .next) s') :
    wpAny (model X.prog X.w) X.A (comprehension (.ListComp elt [⟨tg, iter, ifs, 0⟩] scope pos) scope X.env pos' (newList []) false (eval iter X.env) use) Qf X.xe s := by
  have hfree : ∀ y ∈ scope.names, y.2 = .free → ∃ c, X.env.cells.lookup y.1 = some c := fun y hy e => by
    rcases ok.free y hy e with k | k
    · exact I.ok.has _ (.inl k)
    · exact I.ok.has _ (.inr k)
  refine wpAny_comprehension_free (use := use) rfl hs (closure_ok hfree) ok.kind (fun y hy e => by rw [ok.uniq y hy, e])
    (thn (hi pins s σ H _ I h) fun xv s1 hx => thn hx fun itv s2 h2 => ?_)
  obtain ⟨it, fp, tn, J, H2, e, I2, T, st2, f2, q⟩ := h2
  subst e
  refine wpAny_newObj_type (newEnv_comp ?_) (by show 0 ≤ sizeLine; decide)
  generalize hD : s2.heap.objs.size = D
  have hDn : H2 D = none := I2.hok.fresh (Nat.le_of_eq hD)
  obtain ⟨W, ⟨m0, w0⟩, turn⟩ := q D hDn
  -- the new list
  generalize hs3 : ({ s2 with heap := s2.heap.push { cls := .type "list", data := .seq ([] : List Value).toArray } } : Shared) = s3
  have I3 : Inv X pins σ (upd H2 D (.lst [])) s3 := by
    rw [← hs3]
    refine I2.laid (t' := s2.toks) (fun b o e => Heap.get?_push_of_some _ e) (Nat.le_of_eq hD) ⟨Nat.zero_le _, [], 0, .nil, ?_⟩
    rw [← hD]
    exact Heap.get?_push_size _ rfl
  have h3 : s3.heap = s2.heap.push { cls := .type "list", data := .seq ([] : List Value).toArray } := by rw [← hs3]
  have sz : ∀ b ∈ fp, b < s2.heap.objs.size := fun b hb => by
    obtain ⟨o, e, _⟩ := T.obj _ _ st2 b hb
    exact Heap.lt_size e
  have f3 : ∀ b ∈ fp, FpOk X pins (upd H2 D (.lst [])) b ∧ b < s3.heap.objs.size := fun b hb => by
    have hlt := sz b hb
    refine ⟨⟨?_, (f2 b hb).2⟩, by rw [h3, Heap.size_push]; exact Nat.lt_succ_of_lt hlt⟩
    rw [upd_ne (by rw [← hD]; exact Nat.ne_of_lt hlt)]
    exact (f2 b hb).1
  have st3 : tn 0 s3.heap := T.keep _ _ _ st2 fun b _ o e => by rw [h3]; exact Heap.get?_push_of_some _ e
  have I4 := block_start I3 ok hN f3
  have pg := hg s3 (upd H2 D (.lst [])) s3.heap.objs.size (cellsFrom (s3.heap.objs.size + 1) scope.names (cloFrom X.env.cells scope.names [])) fp
  have pt := ht s3 (upd H2 D (.lst [])) s3.heap.objs.size (cellsFrom (s3.heap.objs.size + 1) scope.names (cloFrom X.env.cells scope.names [])) fp
  have pe := he s3 (upd H2 D (.lst [])) s3.heap.objs.size (cellsFrom (s3.heap.objs.size + 1) scope.names (cloFrom X.env.cells scope.names [])) fp
  show codeAny _ _ (.compStart (.ListComp elt [⟨tg, iter, ifs, 0⟩] scope pos) 0 (.ref it) (.ref D) (compEnvC scope (cellsFrom (s3.heap.objs.size + 1) scope.names (cloFrom X.env.cells scope.names [])) s3.heap.objs.size X.env)) (compPost (model X.prog X.w) X.A X.xe use Qf (.ref D) s3.heap.objs.size) { s3 with heap := pushCells (s3.heap.push { cls := .type "dict", data := .dict #[] }) scope.names }
  have nfp : ∀ b ∈ fp, (upd H2 D (.lst [])) b = none := fun b hb => (f3 b hb).1.1
  generalize hce : compEnvC scope (cellsFrom (s3.heap.objs.size + 1) scope.names (cloFrom X.env.cells scope.names [])) s3.heap.objs.size X.env = ce at I4 pg pt pe ⊢
  have cL : ce.locals = s3.heap.objs.size := by subst hce; rfl
  generalize hH3 : upd H2 D (.lst []) = H3 at I3 I4 pg pt pe w0 nfp f3
  generalize hs4 : ({ s3 with heap := pushCells (s3.heap.push { cls := .type "dict", data := .dict #[] }) scope.names } : Shared) = s4 at I4 ⊢
  have st4 : tn 0 s4.heap := T.keep _ _ _ st3 fun b _ o e => by rw [← hs4]; exact pushCells_keeps _ _ _ _ (Heap.get?_push_of_some _ e)
  have stat : ∀ {σ' : St} {H' : Hp} {s' : Shared}, Inv (X.blk s3 H3 scope ce fp) [] σ' H' s' → (∀ b ∈ fp, H' b = none) → ∀ b ∈ fp, FpOk (X.blk s3 H3 scope ce fp) [] H' b := fun {σ' H' s'} I' hn b hb =>
    ⟨hn b hb, (I'.ok.exf b hb).1, I'.ok.exfs b hb, .inl hb, fun x c e => (I'.ok.exf b hb).2 x c e, fun p hp => absurd (show p ∈ ([] : List (Addr × Obj)) ++ [] from hp) (by simp)⟩
  have loop : codeAny (model X.prog X.w) X.A (.compLoop (.ListComp elt [⟨tg, iter, ifs, 0⟩] scope pos) 0 (.ref it) (.ref D) ce) (compPost (model X.prog X.w) X.A X.xe use Qf (.ref D) s3.heap.objs.size) s4 := by
    refine compLoop_any (fun n s' => ∃ i H', Inv (X.blk s3 H3 scope ce fp) [] (wipe σ (own.map (·.2))) H' s' ∧ tn i s'.heap ∧ (∀ b ∈ fp, H' b = none) ∧ W i n H') ?_ m0 ⟨0, H3, I4, st4, nfp, w0⟩
    rintro n s5 ⟨i, H5, I5, st5, n5, w5⟩
    rcases turn i n H5 w5 with ⟨stop, qq⟩ | ⟨go, Nx, hNx, step⟩
    · have td := T.done (X.blk s3 H3 scope ce fp) rfl rfl rfl hc i [] s5 _ H5 (fun _ _ => False) I5 (stat I5 n5) st5 stop
      refine thnF td fun r s6 ⟨hr, I6⟩ => ?_
      subst hr
      -- back in the def's context
      have I7 : Inv X pins σ H5 s6 := I3.call' (ch := fp) I6.os I6.base I6.hok I6.bare fun b hb => ⟨(f3 b hb).1.2.2.2.1, (f3 b hb).1.2.1, (f3 b hb).1.2.2.2.2.1, (f3 b hb).1.2.2.2.2.2⟩
      have nC : H5 s3.heap.objs.size = none := by
        have z : H5 ce.locals = none := I6.free
        rw [cL] at z
        exact z
      obtain ⟨m, hn, _⟩ := I6.loc
      have hn : s6.heap.Ns ce.locals m := hn
      rw [cL] at hn
      exact hRR D s3.heap.objs.size s6 m H5 I7 qq hn (I3.fpOk (Nat.le_refl _) nC)
    · have ti := T.item (X.blk s3 H3 scope ce fp) rfl rfl rfl hc i [] s5 _ H5 (fun _ _ => False) I5 (stat I5 n5) st5 go
      refine thnF ti fun r s6 ⟨u, hr, h6⟩ => ?_
      subst hr
      refine thnF h6 fun _ s7 ⟨x, H7, I7, r7, y7, st7, n7⟩ => ?_
      have I7' := I7.pinned (stat I7 n7) (T.obj _ _ st7)
      refine thnF (pg _ s7 _ H7 x u _ I7' r7 (step x H7 y7)) fun _ s8 ⟨σ8, H8, I8, hw8, q8⟩ => ?_
      refine thnF (pt _ s8 σ8 H8 _ I8 q8) fun b s9 ⟨H9, I9, q9⟩ => ?_
      -- the turn's end
      have fin : ∀ {s' : Shared} {H' : Hp}, Inv (X.blk s3 H3 scope ce fp) ([] ++ pinsAt fp s7.heap) σ8 H' s' → Nx H' → ∃ m, m < n ∧ ∃ i H', Inv (X.blk s3 H3 scope ce fp) [] (wipe σ (own.map (·.2))) H' s' ∧ tn i s'.heap ∧ (∀ b ∈ fp, H' b = none) ∧ W i m H' := fun {s' H'} I' nx => by
        obtain ⟨m', hm, w'⟩ := hNx H' nx
        have pin' : ∀ b ∈ fp, ∀ o, s7.heap.get? b = some o → s'.heap.get? b = some o ∧ H' b = none := fun b hb o e =>
          let z := I'.pin (b, o) (List.mem_append_right _ (List.mem_append_right _ (mem_pinsAt hb e)))
          ⟨z.1, z.2.1⟩
        have hl : (wipe σ (own.map (·.2))).length = σ8.length := by rw [← hw8, wipe_length]
        refine ⟨m', hm, i + 1, H', (I'.unpinned (pins := [])).weak hl (fun j v e => ?_), T.keep _ _ _ st7 fun b hb o e => (pin' b hb o e).1, fun b hb => ?_, w'⟩
        · rw [← hw8] at e
          exact (wipe_some e).1
        · obtain ⟨o, e, _⟩ := T.obj _ _ st7 b hb
          exact (pin' b hb o e).2
      cases b with
      | false =>
        simp only [Bool.false_eq_true, if_false] at q9 ⊢
        exact fin I9 q9
      | true =>
        simp only [if_true] at q9 ⊢
        refine thnF (pe _ s9 σ8 H9 _ I9 q9) fun z s10 ⟨yv, H10, I10, r10, acc, hD10, hz10, nx⟩ => ?_
        exact app_ok (X := X.blk s3 H3 scope ce fp) I10 hD10 hz10 r10 fun s11 I11 => fin I11 nx
  exact codeAny_compStart_list loop (T.self X.A 0 _ _ _ st4 loop)

theorem pe_lc {elt tg iter : Expr} {ifs : List Expr} {scope : Scope} {own : List (Str × Nat)} {pos : Pos} {wi : TI} {g : TG} {tt : TT} {te : TE} (hc : X.calm = true) (hN : X.N.Nodup) (hi : PI X tg iter wi) (ok : BlkOk X.N X.env.scope scope own)
    (hg : ∀ (s : Shared) (H : Hp) (C : Addr) (cl : List (Str × Addr)) (fp : List Addr), PG (X.blk s H scope (compEnvC scope cl C X.env) fp) tg g) (ht : ∀ (s : Shared) (H : Hp) (C : Addr) (cl : List (Str × Addr)) (fp : List Addr), PTs (X.blk s H scope (compEnvC scope cl C X.env) fp) ifs tt)
    (he : ∀ (s : Shared) (H : Hp) (C : Addr) (cl : List (Str × Addr)) (fp : List Addr), PE (X.blk s H scope (compEnvC scope cl C X.env) fp) elt te) (hs : ∀ x, foldedSetIterable iter X.env x = pure x := by intro _; rfl) :
    PE X (.ListComp elt [⟨tg, iter, ifs, 0⟩] scope pos) (tLc wi g tt te (own.map (·.2))) := by
  constructor
  intro pins s σ H Q I h
  rw [eval_ListComp]
  refine lc_core hc hN I hi ok hg ht he hs h fun D C s' m H' I' q hn f => ⟨m, hn, fun h'' sb => ?_⟩
  obtain ⟨f0, f1, f2, f3, f4, f5⟩ := f
  exact ⟨.ref D, H', I'.turned (t' := s'.toks) (fun b o hb e => (sb.2 b hb).trans e) f0 f1 f3 f4 f5, rfl, q⟩

end



theorem lc_range {lo : Int} {n : Nat} {g : TG} {tt : TT} {te : TE} {vs : List Nat} {σ : St} {H1 : Hp} {D : Addr} {Qd : Hp → Prop} (Pv : Nat → Hp → Prop) (h0 : Pv 0 (upd H1 D (.lst [])))
    (hs : ∀ i H, i < n → Pv i H → g (.int (lo + i)) (wipe σ vs) H fun σ2 H2 => wipe σ2 vs = wipe σ vs ∧ tt σ2 H2 fun b H3 =>
      if b = true then te σ2 H3 fun y H4 => ∃ acc, H4 D = some (.lst acc) ∧ acc.length < sizeLine ∧ Pv (i + 1) (upd H4 D (.lst (acc ++ [y]))) else Pv (i + 1) H3) (hd : ∀ H, Pv n H → Qd H) :
    ∃ W : Nat → Nat → Hp → Prop, (∃ m, W 0 m (upd H1 D (.lst []))) ∧ ∀ i m H, W i m H →
      ((Itr lo n).stop i H ∧ Qd H) ∨ ((Itr lo n).go i H ∧ ∃ Nx : Hp → Prop, (∀ H', Nx H' → ∃ m', m' < m ∧ W (i + 1) m' H') ∧ ∀ x H', (Itr lo n).yld i H x H' → g x (wipe σ vs) H' fun σ2 H2 => wipe σ2 vs = wipe σ vs ∧ tt σ2 H2 fun b H3 =>
        if b = true then te σ2 H3 fun y H4 => ∃ acc, H4 D = some (.lst acc) ∧ acc.length < sizeLine ∧ Nx (upd H4 D (.lst (acc ++ [y]))) else Nx H3) := by
  refine ⟨fun i m H => m = n - i ∧ i ≤ n ∧ Pv i H, ⟨n, by simp, Nat.zero_le _, h0⟩, ?_⟩
  rintro i m H ⟨rfl, hi, p⟩
  by_cases hlt : i < n
  · refine .inr ⟨hlt, Pv (i + 1), fun H' p' => ⟨n - (i + 1), by omega, rfl, hlt, p'⟩, fun x H' y => ?_⟩
    obtain ⟨e, y⟩ := y
    subst e y
    exact hs i _ hlt p
  · have e : i = n := by omega
    subst e
    exact .inl ⟨Nat.le_refl _, hd H p⟩

theorem lc_list {K : PySem.W.Frag} {a : Addr} {xs : List V} {g : TG} {tt : TT} {te : TE} {vs : List Nat} {σ : St} {H1 : Hp} {D : Addr} {Qd : Hp → Prop} (Pv : Nat → Hp → Prop) (h0 : Pv 0 (upd H1 D (.lst []))) (hl : ∀ i H, i ≤ xs.length → Pv i H → SqL K H a xs)
    (hs : ∀ i x H, xs[i]? = some x → Pv i H → g x (wipe σ vs) H fun σ2 H2 => wipe σ2 vs = wipe σ vs ∧ tt σ2 H2 fun b H3 =>
      if b = true then te σ2 H3 fun y H4 => ∃ acc, H4 D = some (.lst acc) ∧ acc.length < sizeLine ∧ Pv (i + 1) (upd H4 D (.lst (acc ++ [y]))) else Pv (i + 1) H3) (hd : ∀ H, Pv xs.length H → Qd H) :
    ∃ W : Nat → Nat → Hp → Prop, (∃ m, W 0 m (upd H1 D (.lst []))) ∧ ∀ i m H, W i m H →
      ((Itl K a).stop i H ∧ Qd H) ∨ ((Itl K a).go i H ∧ ∃ Nx : Hp → Prop, (∀ H', Nx H' → ∃ m', m' < m ∧ W (i + 1) m' H') ∧ ∀ x H', (Itl K a).yld i H x H' → g x (wipe σ vs) H' fun σ2 H2 => wipe σ2 vs = wipe σ vs ∧ tt σ2 H2 fun b H3 =>
        if b = true then te σ2 H3 fun y H4 => ∃ acc, H4 D = some (.lst acc) ∧ acc.length < sizeLine ∧ Nx (upd H4 D (.lst (acc ++ [y]))) else Nx H3) := by
  refine ⟨fun i m H => m = xs.length - i ∧ i ≤ xs.length ∧ Pv i H, ⟨xs.length, by simp, Nat.zero_le _, h0⟩, ?_⟩
  rintro i m H ⟨rfl, hi, p⟩
  have q := hl i H hi p
  by_cases hlt : i < xs.length
  · refine .inr ⟨⟨xs, xs[i], q, by simp [hlt]⟩, Pv (i + 1), fun H' p' => ⟨xs.length - (i + 1), by omega, rfl, hlt, p'⟩, fun x H' y => ?_⟩
    obtain ⟨e, y⟩ := y
    subst e
    exact hs i x _ (y xs q) p
  · have e : i = xs.length := by omega
    subst e
    exact .inl ⟨⟨xs, q, Nat.le_refl _⟩, hd H p⟩

theorem lc_tup {K : PySem.W.Frag} {a : Addr} {xs : List V} {g : TG} {tt : TT} {te : TE} {vs : List Nat} {σ : St} {H1 : Hp} {D : Addr} {Qd : Hp → Prop} (Pv : Nat → Hp → Prop) (h0 : Pv 0 (upd H1 D (.lst []))) (hl : ∀ i H, i ≤ xs.length → Pv i H → SqT K H a xs)
    (hs : ∀ i x H, xs[i]? = some x → Pv i H → g x (wipe σ vs) H fun σ2 H2 => wipe σ2 vs = wipe σ vs ∧ tt σ2 H2 fun b H3 =>
      if b = true then te σ2 H3 fun y H4 => ∃ acc, H4 D = some (.lst acc) ∧ acc.length < sizeLine ∧ Pv (i + 1) (upd H4 D (.lst (acc ++ [y]))) else Pv (i + 1) H3) (hd : ∀ H, Pv xs.length H → Qd H) :
    ∃ W : Nat → Nat → Hp → Prop, (∃ m, W 0 m (upd H1 D (.lst []))) ∧ ∀ i m H, W i m H →
      ((Itt K a).stop i H ∧ Qd H) ∨ ((Itt K a).go i H ∧ ∃ Nx : Hp → Prop, (∀ H', Nx H' → ∃ m', m' < m ∧ W (i + 1) m' H') ∧ ∀ x H', (Itt K a).yld i H x H' → g x (wipe σ vs) H' fun σ2 H2 => wipe σ2 vs = wipe σ vs ∧ tt σ2 H2 fun b H3 =>
        if b = true then te σ2 H3 fun y H4 => ∃ acc, H4 D = some (.lst acc) ∧ acc.length < sizeLine ∧ Nx (upd H4 D (.lst (acc ++ [y]))) else Nx H3) := by
  refine ⟨fun i m H => m = xs.length - i ∧ i ≤ xs.length ∧ Pv i H, ⟨xs.length, by simp, Nat.zero_le _, h0⟩, ?_⟩
  rintro i m H ⟨rfl, hi, p⟩
  have q := hl i H hi p
  by_cases hlt : i < xs.length
  · refine .inr ⟨⟨xs, xs[i], q, by simp [hlt]⟩, Pv (i + 1), fun H' p' => ⟨xs.length - (i + 1), by omega, rfl, hlt, p'⟩, fun x H' y => ?_⟩
    obtain ⟨e, y⟩ := y
    subst e
    exact hs i x _ (y xs q) p
  · have e : i = xs.length := by omega
    subst e
    exact .inl ⟨⟨xs, q, Nat.le_refl _⟩, hd H p⟩
def blkC (N : List Str) (sc scope : Scope) (own : List (Str × Nat)) : Bool :=
  (match scope.kind with | .function => true | _ => false) && (scope.names.all fun y => decide (scope.names.lookup y.1 = some y.2)) && (own.all fun p => decide (N[p.2]? = some p.1)) &&
    (scope.names.all fun y => match y.2 with
      | .free => (match sc.names.lookup y.1 with | some .cell => true | some .free => true | _ => false)
      | .local => decide (y.1 ∈ own.map (·.1)) || decide (y.1 ∉ N)
      | .cell => decide (y.1 ∈ own.map (·.1)) || decide (y.1 ∉ N)
      | _ => true)
theorem blkOk_by {N : List Str} {sc scope : Scope} {own : List (Str × Nat)} (h : blkC N sc scope own = true) : BlkOk N sc scope own := by
  unfold blkC at h
  simp only [Bool.and_eq_true, List.all_eq_true, decide_eq_true_eq] at h
  obtain ⟨⟨⟨h1, h2⟩, h3⟩, h4⟩ := h
  refine ⟨?_, h2, h3, fun y hy e => ?_, fun y hy e => ?_⟩
  · split at h1
    · assumption
    · cases h1
  · have q := h4 y hy
    simp only [e] at q
    split at q <;> first | exact .inl (by assumption) | exact .inr (by assumption) | cases q
  · have q := h4 y hy
    rcases e with e | e <;> (simp only [e, Bool.or_eq_true, decide_eq_true_eq] at q; exact q)
end L2

namespace L2
open PySem PySem.Spec PyProof.Rows

section
variable {prog : Program} {w : World} {A : Around} {R : Result → Shared → Prop} {s : Shared} {elt t0 i0 t1 i1 : Expr} {ifs0 ifs1 : List Expr} {scope : Scope} {pos : Pos} {it acc : Value} {env : Env}

end

section
variable {X : Cx}

def tLc2 (wi : TI) (g : TG) (tt : TT) (wi1 : TI) (g1 : TG) (tt1 : TT) (te : TE) (vs vs1 : List Nat) : TE := fun σ H Q => wi σ H fun J H1 => ∀ D, H1 D = none → ∃ W : Nat → Nat → Hp → Prop, (∃ m, W 0 m (upd H1 D (.lst []))) ∧ ∀ i m H, W i m H →
  (J.stop i H ∧ Q (.ref D) H) ∨ (J.go i H ∧ ∃ Nx : Hp → Prop, (∀ H', Nx H' → ∃ m', m' < m ∧ W (i + 1) m' H') ∧ ∀ x H', J.yld i H x H' → g x (wipe σ vs) H' fun σ2 H2 => wipe σ2 vs = wipe σ vs ∧ tt σ2 H2 fun b H3 =>
    if b = true then wi1 σ2 H3 fun J1 H4 => ∃ W1 : Nat → Nat → Hp → Prop, (∃ m, W1 0 m H4) ∧ ∀ j k H, W1 j k H →
      (J1.stop j H ∧ Nx H) ∨ (J1.go j H ∧ ∃ Nx1 : Hp → Prop, (∀ H', Nx1 H' → ∃ k', k' < k ∧ W1 (j + 1) k' H') ∧ ∀ x H', J1.yld j H x H' → g1 x (wipe σ2 vs1) H' fun σ3 H5 => wipe σ3 vs1 = wipe σ2 vs1 ∧ tt1 σ3 H5 fun b H6 =>
        if b = true then te σ3 H6 fun y H7 => ∃ acc, H7 D = some (.lst acc) ∧ acc.length < sizeLine ∧ Nx1 (upd H7 D (.lst (acc ++ [y]))) else Nx1 H6)
    else Nx H3)
end
end L2

namespace L2
open PySem PySem.Spec PyProof.Rows


section
variable {κ : Type} [DecidableEq κ]
def valV (kvs : List (κ × V)) (k : κ) : Option V := (kvs.find? fun kv => decide (kv.1 = k)).map (·.2)

def putK (kvs : List (κ × V)) (k : κ) (v : V) : List (κ × V) :=
  if (kvs.any fun kv => decide (kv.1 = k)) = true then kvs.map (fun kv => if kv.1 = k then (kv.1, v) else kv) else kvs ++ [(k, v)]
def dropK (kvs : List (κ × V)) (k : κ) : List (κ × V) := kvs.filter fun kv => decide (kv.1 ≠ k)

theorem valV_pos {p : κ × V} {r : List (κ × V)} {k : κ} (e : p.1 = k) : valV (p :: r) k = some p.2 := by simp [valV, List.find?_cons, e]
theorem valV_neg {p : κ × V} {r : List (κ × V)} {k : κ} (e : ¬ p.1 = k) : valV (p :: r) k = valV r k := by simp [valV, List.find?_cons, e]
theorem valV_any (k : κ) : ∀ kvs : List (κ × V), (kvs.any fun kv => decide (kv.1 = k)) = (valV kvs k).isSome
  | [] => rfl
  | p :: r => by
    rw [List.any_cons]
    by_cases e : p.1 = k
    · simp only [valV_pos e, decide_eq_true e, Bool.true_or, Option.isSome_some]
    · rw [valV_neg e, decide_eq_false e, Bool.false_or]; exact valV_any k r
theorem length_putK (kvs : List (κ × V)) (k : κ) (v : V) : (putK kvs k v).length ≤ kvs.length + 1 := by
  unfold putK
  split
  · rw [List.length_map]; omega
  · rw [List.length_append, List.length_cons, List.length_nil]; omega
theorem RelO.isSome_eq {o : Option V} {u : Option Value} (r : RelO o u) : o.isSome = u.isSome := by
  cases o with
  | none => cases u with
    | none => rfl
    | some _ => exact (show False from r).elim
  | some _ => cases u with
    | none => exact (show False from r).elim
    | some _ => rfl
theorem KV.val {kvs : List (κ × V)} {vs : List (κ × Value)} (r : KV kvs vs) (k : κ) : RelO (valV kvs k) (valueAt vs k) := by
  unfold KV at r
  induction r with
  | nil => exact True.intro
  | @cons p q ps qs h t ih =>
    obtain ⟨h1, h2⟩ := h
    by_cases e : p.1 = k
    · have e' : q.1 = k := h1.symm.trans e
      have b : valueAt (q :: qs) k = some q.2 := by simp [valueAt, List.find?_cons, e']
      rw [valV_pos e, b]; exact h2
    · have e' : ¬ q.1 = k := fun z => e (h1.trans z)
      have b : valueAt (q :: qs) k = valueAt qs k := by simp [valueAt, List.find?_cons, e']
      rw [valV_neg e, b]; exact ih
theorem KV.any {kvs : List (κ × V)} {vs : List (κ × Value)} (r : KV kvs vs) (k : κ) : (kvs.any fun kv => decide (kv.1 = k)) = vs.any fun kv => decide (kv.1 = k) := by
  unfold KV at r
  induction r with
  | nil => rfl
  | cons h t ih => rw [List.any_cons, List.any_cons, ih, h.1]
theorem KV.repl {kvs : List (κ × V)} {vs : List (κ × Value)} (r : KV kvs vs) (k : κ) {y : V} {u : Value} (ry : RelV y u) :
    KV (kvs.map fun kv => if kv.1 = k then (kv.1, y) else kv) (vs.map fun kv => if kv.1 = k then (kv.1, u) else kv) := by
  unfold KV at r ⊢
  induction r with
  | nil => exact .nil
  | @cons p q ps qs h t ih =>
    rw [List.map_cons, List.map_cons]
    refine .cons ?_ ih
    obtain ⟨h1, h2⟩ := h
    by_cases e : p.1 = k
    · rw [if_pos e, if_pos (h1.symm.trans e)]; exact ⟨h1, ry⟩
    · rw [if_neg e, if_neg (fun z => e (h1.trans z))]; exact ⟨h1, h2⟩
theorem KV.put {kvs : List (κ × V)} {vs : List (κ × Value)} (r : KV kvs vs) (k : κ) {y : V} {u : Value} (ry : RelV y u) : KV (putK kvs k y) (stored vs k u) := by
  unfold putK stored
  rw [r.any k]
  by_cases e : (vs.any fun kv => decide (kv.1 = k)) = true
  · rw [if_pos e, if_pos e]; exact r.repl k ry
  · rw [if_neg e, if_neg e]; exact Paired.snoc r ⟨rfl, ry⟩
theorem KV.drop {kvs : List (κ × V)} {vs : List (κ × Value)} (r : KV kvs vs) (k : κ) : KV (dropK kvs k) (without vs k) := by
  unfold KV at r ⊢
  unfold dropK without
  induction r with
  | nil => exact .nil
  | @cons p q ps qs h t ih =>
    obtain ⟨h1, h2⟩ := h
    rw [List.filter_cons, List.filter_cons]
    by_cases e : p.1 = k
    · have a : ¬ decide (p.1 ≠ k) = true := by simp [e]
      have b : ¬ decide (q.1 ≠ k) = true := by simp [h1.symm.trans e]
      rw [if_neg a, if_neg b]; exact ih
    · have e' : ¬ q.1 = k := fun z => e (h1.trans z)
      have a : decide (p.1 ≠ k) = true := by simp [e]
      have b : decide (q.1 ≠ k) = true := by simp [e']
      rw [if_pos a, if_pos b]; exact .cons ⟨h1, h2⟩ ih
theorem KV.length {kvs : List (κ × V)} {vs : List (κ × Value)} (r : KV kvs vs) : kvs.length = vs.length := Paired.length r
theorem dropK_le (kvs : List (κ × V)) (k : κ) : (dropK kvs k).length ≤ kvs.length := List.length_filter_le _ _
end



theorem kV_is {P : Program} {w : World} {k : Key} {u : Value} (r : RelV (kV k) u) : (mixKind P w).is k u = true := by
  cases k with
  | inl i => obtain ⟨t, e⟩ := (show ∃ t, u = Value.int i t from r); subst e; exact mixKind_int P w i t
  | inr x => obtain ⟨t, e⟩ := (show ∃ t, u = Value.str x t from r); subst e; exact mixKind_str P w x t
theorem items_are {P : Program} {w : World} : ∀ {ks : List Key} {us : List Value}, Vals (ks.map kV) us → ItemsAre (mixKind P w) ks us
  | [], _, r => by rw [List.map_nil] at r; cases r; exact .nil
  | k :: ks, _, r => by
    rw [List.map_cons] at r
    cases r with
    | cons h t => exact .cons (kV_is h) (items_are t)


abbrev KT (H : Hp) : List (List Key × V) → List (List Key × Addr × Value) → Prop := Paired fun p q => p.1 = q.1 ∧ H q.2.1 = some (.tup (p.1.map kV)) ∧ RelV p.2 q.2.2
theorem KT.val {H : Hp} {kvs : List (List Key × V)} {xs : List (List Key × Addr × Value)} (r : KT H kvs xs) (k : List Key) : RelO (valV kvs k) ((atKey xs k).map (·.2)) := by
  induction r with
  | nil => exact True.intro
  | @cons p q ps qs h t ih =>
    obtain ⟨h1, _, h2⟩ := h
    by_cases e : p.1 = k
    · have e' : q.1 = k := h1.symm.trans e
      have b : atKey (q :: qs) k = some q.2 := by simp [atKey, List.find?_cons, e']
      rw [valV_pos e, b]; exact h2
    · have e' : ¬ q.1 = k := fun z => e (h1.trans z)
      have b : atKey (q :: qs) k = atKey qs k := by simp [atKey, List.find?_cons, e']
      rw [valV_neg e, b]; exact ih
theorem KT.repl {H : Hp} {kvs : List (List Key × V)} {xs : List (List Key × Addr × Value)} (r : KT H kvs xs) (k : List Key) {y : V} {u : Value} (ry : RelV y u) :
    KT H (kvs.map fun kv => if kv.1 = k then (kv.1, y) else kv) (xs.map (putAt k u)) := by
  induction r with
  | nil => exact .nil
  | @cons p q ps qs h t ih =>
    rw [List.map_cons, List.map_cons]
    refine .cons ?_ ih
    obtain ⟨h1, h2, h3⟩ := h
    unfold putAt
    by_cases e : p.1 = k
    · rw [if_pos e, if_pos (h1.symm.trans e)]; exact ⟨h1, h2, ry⟩
    · rw [if_neg e, if_neg (fun z => e (h1.trans z))]; exact ⟨h1, h2, h3⟩
theorem KT.put {H : Hp} {kvs : List (List Key × V)} {xs : List (List Key × Addr × Value)} (r : KT H kvs xs) (k : List Key) {b : Addr} {y : V} {u : Value} (hb : H b = some (.tup (k.map kV))) (ry : RelV y u) :
    KT H (putK kvs k y) (storedH xs k b u) := by
  have e : (kvs.any fun kv => decide (kv.1 = k)) = (atKey xs k).isSome := by
    rw [valV_any, (r.val k).isSome_eq, Option.isSome_map]
  unfold putK storedH
  rw [e]
  by_cases q : (atKey xs k).isSome = true
  · rw [if_pos q, if_pos q]; exact r.repl k ry
  · rw [if_neg q, if_neg q]; exact Paired.snoc r ⟨rfl, hb, ry⟩
theorem KT.keeps {H H' : Hp} {kvs : List (List Key × V)} {xs : List (List Key × Addr × Value)} (r : KT H kvs xs) (ht : ∀ b ys, H b = some (.tup ys) → H' b = some (.tup ys)) : KT H' kvs xs :=
  Paired.mapP r fun _ _ z => ⟨z.1, ht _ _ z.2.1, z.2.2⟩

section
variable {P : Program} {w : World} {H : Hp} {h : Heap} {a : Addr}
theorem rd_of {u : HO} (ok : HOk P w H h) (e : Rd H a u) : ObjOk P w H h a u := e.ok ok
theorem dk_rd {kvs : List (Key × V)} (ok : HOk P w H h) (e : Rd H a (.dK kvs)) : kvs.length ≤ sizeLine ∧ (a == sysModules) = false ∧ ∃ vs, KV kvs vs ∧ h.DictOf (mixKind P w) a vs :=
  show ObjOk P w H h a (.dK kvs) from rd_of ok e
theorem dk_of {kvs : List (Key × V)} (ok : HOk P w H h) (e : H a = some (.dK kvs)) : kvs.length ≤ sizeLine ∧ (a == sysModules) = false ∧ ∃ vs, KV kvs vs ∧ h.DictOf (mixKind P w) a vs := dk_rd ok (.inl e)

theorem key_of {ks : List Key} (ok : HOk P w H h) (e : H a = some (.tup (ks.map kV))) : (tupleKind (mixKind P w)).is h ks a := by
  obtain ⟨_, its, r, o, h1, h2, ⟨n, h3⟩, _⟩ := (show ObjOk P w H h a (.tup (ks.map kV)) from ok a _ e)
  exact ⟨o, its.toArray, n, h1, h2, h3, by simpa using items_are r⟩
theorem dt_rd {kvs : List (List Key × V)} (ok : HOk P w H h) (e : Rd H a (.dT kvs)) : kvs.length ≤ sizeLine ∧ (a == sysModules) = false ∧
    ∃ xs, KT H kvs xs ∧ h.DictOfH (tupleKind (mixKind P w)) a xs := by
  obtain ⟨z, y, xs, r, o, es, ep, h1, h2, h3, h4, h5⟩ := (show ObjOk P w H h a (.dT kvs) from rd_of ok e)
  refine ⟨z, y, xs, r, o, es, ep, h1, h2, h3, h4, fun x hx => ?_, h5⟩
  have all : ∀ {l : List (List Key × V)} {m : List (List Key × Addr × Value)}, KT H l m → ∀ x ∈ m, (tupleKind (mixKind P w)).is h x.1 x.2.1 := by
    intro l m q
    induction q with
    | nil => intro x hx; exact nomatch hx
    | @cons p q ps qs hq t ih =>
      intro x hx
      rcases List.mem_cons.mp hx with e | hx
      · subst e
        exact key_of ok (by rw [← hq.1]; exact hq.2.1)
      · exact ih x hx
  exact all r x hx
theorem dt_of {kvs : List (List Key × V)} (ok : HOk P w H h) (e : H a = some (.dT kvs)) : kvs.length ≤ sizeLine ∧ (a == sysModules) = false ∧
    ∃ xs, KT H kvs xs ∧ h.DictOfH (tupleKind (mixKind P w)) a xs := dt_rd ok (.inl e)
end


def DGet (H : Hp) (a : Addr) (y : V) (r : Option V) : Prop :=
  (∃ kvs k, Rd H a (.dK kvs) ∧ y = kV k ∧ r = valV kvs k) ∨ ∃ kvs k b, Rd H a (.dT kvs) ∧ y = .ref b ∧ H b = some (.tup (k.map kV)) ∧ r = valV kvs k

def DPut (H : Hp) (a : Addr) (y v : V) (H' : Hp) : Prop :=
  (∃ kvs k, H a = some (.dK kvs) ∧ y = kV k ∧ kvs.length < sizeLine ∧ H' = upd H a (.dK (putK kvs k v))) ∨
  ∃ kvs k b, H a = some (.dT kvs) ∧ y = .ref b ∧ H b = some (.tup (k.map kV)) ∧ kvs.length < sizeLine ∧ H' = upd H a (.dT (putK kvs k v))
theorem DGet.k {H : Hp} {a : Addr} {kvs : List (Key × V)} {k : Key} (e : H a = some (.dK kvs)) : DGet H a (kV k) (valV kvs k) := .inl ⟨kvs, k, .inl e, rfl, rfl⟩
theorem DPut.k {H : Hp} {a : Addr} {kvs : List (Key × V)} {k : Key} {v : V} (e : H a = some (.dK kvs)) (hl : kvs.length < sizeLine) : DPut H a (kV k) v (upd H a (.dK (putK kvs k v))) := .inl ⟨kvs, k, e, rfl, hl, rfl⟩
section
variable {X : Cx} {pins : List (Addr × Obj)} {σ : St} {H : Hp} {s : Shared} {a : Addr} {y v : V} {u r : Value} {o : Option V} {A : Around} {E : Value → Shared → Prop}

theorem Inv.big (I : Inv X pins σ H s) : sysModules < s.heap.objs.size := by
  have h : mainGlobals < s.heap.objs.size := (I.mod.glob.keeps I.bk).lt
  exact Nat.lt_trans (by decide) h


theorem d_getItem {Q : Value → Shared → Prop} (hu : A.units + 1 < cLine) (I : Inv X pins σ H s) (g : DGet H a y (some v)) (ry : RelV y u) (h : ∀ w' s', Inv X pins σ H s' → RelV v w' → Q w' s') :
    wpAny (model X.prog X.w) A (getItem (.ref a) u) Q E s := by
  rcases g with ⟨kvs, k, e, ey, l⟩ | ⟨kvs, k, b, e, ey, eb, l⟩
  · subst ey
    obtain ⟨z, hd, vs, rel, dd⟩ := dk_rd I.hok e
    obtain ⟨w', hw, rw'⟩ := RelO.some_of (v := v) (o := valueAt vs k) (by rw [l]; exact rel.val k)
    exact wpAny_getItem_of (kV_is ry) dd.mapOf hw (h w' _ (I.tok _) rw')
  · subst ey
    cases (show u = Value.ref b from ry)
    obtain ⟨z, hd, xs, rel, dd⟩ := dt_rd I.hok e
    obtain ⟨w', hw, rw'⟩ := RelO.some_of (v := v) (o := (atKey xs k).map (·.2)) (by rw [l]; exact rel.val k)
    obtain ⟨p, hp, hp2⟩ := Option.map_eq_some_iff.mp hw
    refine wpAny_getItem_heap (tupleKind_room_in1 hu) (key_of I.hok eb) dd hp ?_
    rw [hp2]
    exact h w' _ (I.tok _) rw'

theorem d_notIn {Q : Value → Shared → Prop} (hu : A.units + 1 < cLine) (I : Inv X pins σ H s) (g : DGet H a y o) (ry : RelV y u) (h : ∀ s', Inv X pins σ H s' → Q (.bool (!o.isSome)) s') :
    wpAny (model X.prog X.w) A (compareOp .NotIn u (.ref a)) Q E s := by
  rcases g with ⟨kvs, k, e, ey, l⟩ | ⟨kvs, k, b, e, ey, eb, l⟩
  · subst ey
    obtain ⟨z, hd, vs, rel, dd⟩ := dk_rd I.hok e
    refine wpAny_notIn_of (kV_is ry) hd dd.mapOf ?_
    rw [← (rel.val k).isSome_eq, ← l]
    exact h _ (I.tok _)
  · subst ey
    cases (show u = Value.ref b from ry)
    obtain ⟨z, hd, xs, rel, dd⟩ := dt_rd I.hok e
    refine wpAny_notIn_heap (tupleKind_room_in1 hu) (key_of I.hok eb) hd dd ?_
    have q := (rel.val k).isSome_eq
    rw [Option.isSome_map] at q
    rw [← q, ← l]
    exact h _ (I.tok _)

theorem d_write {h' : Heap} {t' : Nat} {ob : HO} (I : Inv X pins σ H s) (mu : Mut (H a)) (hs : Heap.SameBut a s.heap h') (he : ∃ q, h'.get? a = some q) (new : ObjOk X.prog X.w (upd H a ob) h' a ob) :
    Inv X pins σ (upd H a ob) { s with heap := h', toks := t' } :=
  I.write (x := a) (e := a) mu (.inl rfl) (fun b q hb z => (hs.2 b hb).trans z) he new
theorem dk_new {P : Program} {w : World} {H' : Hp} {h' : Heap} {kvs : List (Key × V)} {vs : List (Key × Value)} (z : kvs.length ≤ sizeLine) (hd : (a == sysModules) = false) (rel : KV kvs vs) (dd : h'.DictOf (mixKind P w) a vs) :
    ObjOk P w H' h' a (.dK kvs) := ⟨z, hd, vs, rel, dd⟩

theorem d_setItem {H' : Hp} {Q : Unit → Shared → Prop} (hu : A.units + 1 < cLine) (I : Inv X pins σ H s) (g : DPut H a y v H') (ry : RelV y u) (rv : RelV v r) (h : ∀ s', Inv X pins σ H' s' → Q () s') :
    wpAny (model X.prog X.w) A (setItem (.ref a) u r) Q E s := by
  rcases g with ⟨kvs, k, e, ey, l, eH⟩ | ⟨kvs, k, b, e, ey, eb, l, eH⟩
  · subst ey eH
    obtain ⟨z, hd, vs, rel, dd⟩ := dk_of I.hok e
    have hz : vs.length ≤ sizeLine := by rw [← rel.length]; exact z
    have hl : (putK kvs k v).length ≤ sizeLine := by have := length_putK kvs k v; omega
    refine wpAny_setItem_pairs (hsz := hz) (kV_is ry) dd fun h' dd' hs => h _ ?_
    have he : ∃ q, h'.get? a = some q := let ⟨q, _, _, hq, _⟩ := dd'; ⟨q, hq⟩
    exact d_write I (by rw [e]; exact True.intro) hs he (dk_new hl hd (rel.put k rv) dd')
  · subst ey eH
    cases (show u = Value.ref b from ry)
    obtain ⟨z, hd, xs, rel, dd⟩ := dt_of I.hok e
    have hz : xs.length ≤ sizeLine := by rw [← Paired.length rel]; exact z
    have hl : (putK kvs k v).length ≤ sizeLine := by have := length_putK kvs k v; omega
    refine wpAny_setItem_heap (hsz := hz) (tupleKind_room_in1 hu) (key_of I.hok eb) dd fun h' dd' hs => h _ ?_
    obtain ⟨q, es, ep, hq, h2, h3, h4, _, h5⟩ := dd'
    refine d_write I (by rw [e]; exact True.intro) hs ⟨q, hq⟩ ⟨hl, hd, _, (rel.put k eb rv).keeps fun c ys ec => ?_, q, es, ep, hq, h2, h3, h4, h5⟩
    rw [upd_ne (ne_of ec e (fun z => nomatch z))]
    exact ec
end

section
variable {X : Cx} {pins : List (Addr × Obj)} {σ : St} {H : Hp} {s : Shared} {a : Addr} {kvs : List (Key × V)} {k : Key} {u : Value} {A : Around} {E : Value → Shared → Prop}

theorem d_delItem {Q : Unit → Shared → Prop} (I : Inv X pins σ H s) (e : H a = some (.dK kvs)) (ry : RelV (kV k) u) (l : (valV kvs k).isSome = true) (h : ∀ s', Inv X pins σ (upd H a (.dK (dropK kvs k))) s' → Q () s') :
    wpAny (model X.prog X.w) A (delItem (.ref a) u) Q E s := by
  obtain ⟨z, hd, vs, rel, dd⟩ := dk_of I.hok e
  refine wpAny_delItem_slot dd.typeIs (by decide) PySem.F.slot_dict_delitem
    (call_meetsIn PySem.F.slot_dict_delitem dd.typeIs PySem.F.entry_dict_delitem (PySem.F.args_dict_delitem_2 _ _) (meets_dict_delitem_pairs (mixKind X.prog X.w) a (kV_is ry)) ⟨vs, dd, by rw [← rel.length]; exact z, by rw [← (rel.val k).isSome_eq]; exact l, fun h' dd' hs => h _ ?_⟩)
  have he : ∃ q, h'.get? a = some q := let ⟨q, _, _, hq, _⟩ := dd'; ⟨q, hq⟩
  exact d_write I (by rw [e]; exact True.intro) hs he (dk_new (Nat.le_trans (dropK_le kvs k) z) hd (rel.drop k) dd')

theorem d_pop {v : V} {more : List Value} {Q : Value → Shared → Prop} (I : Inv X pins σ H s) (e : H a = some (.dK kvs)) (ry : RelV (kV k) u) (l : valV kvs k = some v) (hm : more = [] ∨ ∃ x, more = [x])
    (h : ∀ w' s', Inv X pins σ (upd H a (.dK (dropK kvs k))) s' → RelV v w' → Q w' s') : wpAny (model X.prog X.w) A (call (.builtin "dict.pop") (.ref a :: u :: more)) Q E s := by
  obtain ⟨z, hd, vs, rel, dd⟩ := dk_of I.hok e
  obtain ⟨w', hw, rw'⟩ := RelO.some_of (v := v) (o := valueAt vs k) (by rw [← l]; exact rel.val k)
  have hp : (keyPart u).isSome = true := by
    cases k with
    | inl i => obtain ⟨t, q⟩ := (show ∃ t, u = Value.int i t from ry); subst q; rfl
    | inr x => obtain ⟨t, q⟩ := (show ∃ t, u = Value.str x t from ry); subst q; rfl
  have ha : argsOk "dict.pop" ⟨.ref a :: u :: more, []⟩ := by
    rcases hm with q | ⟨x, q⟩
    · subst q; exact PySem.F.args_dict_pop_2 _ _
    · subst q; exact PySem.F.args_dict_pop_3 _ _ _
  refine call_meetsIn PySem.F.slot_dict_pop dd.typeIs PySem.F.entry_dict_pop ha (meets_dict_pop_there (mixKind X.prog X.w) a (kV_is ry) more hm hp)
    ⟨vs, w', dd, by rw [← rel.length]; exact z, hw, fun h' dd' hs => h w' _ ?_ rw'⟩
  have he : ∃ q, h'.get? a = some q := let ⟨q, _, _, hq, _⟩ := dd'; ⟨q, hq⟩
  exact d_write I (by rw [e]; exact True.intro) hs he (dk_new (Nat.le_trans (dropK_le kvs k) z) hd (rel.drop k) dd')

end




def NoSl (i : Expr) : Prop := ∀ ov iv, subscripted i false ov iv = operate [ov, iv] (getItem ov iv)
theorem subD_of {prog : Program} {w : World} {A : Around} {E : Value → Shared → Prop} {s : Shared} {env : Env} {value slice : Expr} {pos : Pos} {T id : String} {Q : Value → Shared → Prop}
    (hl : typeLookup (.type T) "__getitem__" = pure (some (.builtin id))) (hs : NoSl slice)
    (h : wpAny (model prog w) A (eval value env) (fun o s₁ => wpAny (model prog w) A (eval slice env) (fun i s₂ => s₂.TypeIs o T ∧ wpAny (model prog w) A (getItem o i) Q E s₂) E s₁) E s) :
    wpAny (model prog w) A (eval (.Subscript value slice pos) env) Q E s := by
  refine Subscript_ (wpAny_mono h (fun o s₁ h₁ => wpAny_mono h₁ (fun i s₂ h₂ => ?_) fun _ _ x => x) fun _ _ x => x)
  obtain ⟨hT, h₂⟩ := h₂
  unfold subscriptTail
  refine wpAny_bind ?_
  rw [getitemInPython_of_ne hT.not_modules]
  refine wpAny_bind (wpAny_specialOf hT hl ?_)
  have fin : wpAny (model prog w) A (subscripted slice false o i) (fun r s₃ => wpAny (model prog w) A (letTemporaryGo value o r >>= fun _ => pure r) Q E s₃) E s₂ := by
    rw [hs o i]
    exact wpAny_operating (wpAny_mono h₂ (fun r s₃ h₃ => wpAny_bind (wpAny_letTemporaryGo (wpAny_pure h₃))) fun _ _ x => x)
  first
    | exact wpAny_pure (wpAny_bind fin)
    | exact wpAny_bind (wpAny_pure (wpAny_bind fin))
    | exact wpAny_bind fin

theorem dict_typeIs {X : Cx} {pins : List (Addr × Obj)} {σ : St} {H : Hp} {s : Shared} {a : Addr} {y : V} {o : Option V} (I : Inv X pins σ H s) (g : DGet H a y o) : s.TypeIs (.ref a) "dict" := by
  rcases g with ⟨kvs, k, e, _, _⟩ | ⟨kvs, k, b, e, _, _, _⟩
  · obtain ⟨_, _, vs, _, dd⟩ := dk_rd I.hok e
    exact dd.typeIs
  · obtain ⟨_, _, xs, _, dd⟩ := dt_rd I.hok e
    exact dd.typeIs
def tDGet (td ty : TE) : TE := fun σ H Q => td σ H fun x H1 => ty σ H1 fun y H2 => ∃ a v, x = .ref a ∧ DGet H2 a y (some v) ∧ Q v H2

def tDIn (ty td : TE) : TE := fun σ H Q => ty σ H fun y H1 => td σ H1 fun x H2 => ∃ a o, x = .ref a ∧ DGet H2 a y o ∧ Q (.bl o.isSome) H2
def tDNotIn (ty td : TE) : TE := fun σ H Q => ty σ H fun y H1 => td σ H1 fun x H2 => ∃ a o, x = .ref a ∧ DGet H2 a y o ∧ Q (.bl (!o.isSome)) H2

def sDPut (td ty tv : TE) : TS := fun D σ H => tv σ H fun v H1 => td σ H1 fun x H2 => ty σ H2 fun y H3 => ∃ a H4, x = .ref a ∧ DPut H3 a y v H4 ∧ D.nx σ H4

def sDAug (td ty tv : TE) (rd : V → V → Hp → VK → Prop) : TS := fun D σ H => td σ H fun x H1 => ty σ H1 fun y H2 => ∃ a v, x = .ref a ∧ DGet H2 a y (some v) ∧
  tv σ H2 fun y2 H3 => rd v y2 H3 fun z H4 => ∃ H5, DPut H4 a y z H5 ∧ D.nx σ H5

def sDDel (td ty : TE) : TS := fun D σ H => td σ H fun x H1 => ty σ H1 fun y H2 => ∃ a kvs k, x = .ref a ∧ H2 a = some (.dK kvs) ∧ y = kV k ∧ (valV kvs k).isSome = true ∧ D.nx σ (upd H2 a (.dK (dropK kvs k)))

section
variable {X : Cx} {o i e value : Expr} {pos pos' tpos : Pos} {td ty tv : TE}
theorem pe_dget (hu : X.A.units + 1 < cLine) (ho : PE X o td) (hi : PE X i ty) (hs : NoSl i) : PE X (.Subscript o i pos) (tDGet td ty) := by
  constructor
  intro pins s σ H Q I h
  refine subD_of PySem.F.slot_dict_getitem.lookup hs (thn (ho pins s σ H _ I h) fun u s1 ⟨x, H1, I1, rx, q1⟩ => thn (hi pins s1 σ H1 _ I1 q1) fun iv s2 ⟨y, H2, I2, ry, a, v, ex, g, q2⟩ => ?_)
  subst ex
  obtain rfl : u = Value.ref a := rx
  exact ⟨dict_typeIs I2 g, d_getItem hu I2 g ry fun w' s3 I3 rw' => ⟨v, H2, I3, rw', q2⟩⟩
theorem pc_dnotin (hu : X.A.units + 1 < cLine) (hi : PE X i ty) (ho : PE X o td) : PC X .NotIn i o (tDNotIn ty td) := by
  constructor
  intro pins s σ H Q I h
  refine thn (hi pins s σ H _ I h) fun iv s1 ⟨y, H1, I1, ry, q1⟩ => thn (ho pins s1 σ H1 _ I1 q1) fun u s2 ⟨x, H2, I2, rx, a, ov, ex, g, q2⟩ => ?_
  subst ex
  obtain rfl : u = Value.ref a := rx
  exact d_notIn hu I2 g ry fun s3 I3 => ⟨.bl (!ov.isSome), H2, I3, rfl, q2⟩
theorem ps_dput (hu : X.A.units + 1 < cLine) (ho : PE X o td) (hi : PE X i ty) (hv : PE X value tv) (hs : swapsWith value (some (.Subscript o i pos')) pos.line X.env = pure false) :
    PS X (.Assign [.Subscript o i pos'] value pos) (sDPut td ty tv) := by
  constructor
  intro pins s σ H D I h
  refine wpAny_Assign_Subscript (thn (hv pins s σ H _ I h) fun r s1 ⟨v, H1, I1, rv, q1⟩ => thn (ho pins s1 σ H1 _ I1 q1) fun u s2 ⟨x, H2, I2, rx, q2⟩ => thn (hi pins s2 σ H2 _ I2 q2) fun iv s3 ⟨y, H3, I3, ry, a, H4, ex, g, q3⟩ => ?_) hs
  subst ex
  obtain rfl : u = Value.ref a := rx
  exact d_setItem hu I3 g ry rv fun s4 I4 => ⟨σ, H4, I4, q3⟩
theorem ps_ddel (ho : PE X o td) (hi : PE X i ty) : PS X (.Delete [.Subscript o i tpos] pos) (sDDel td ty) := by
  constructor
  intro pins s σ H D I h
  refine wpAny_Delete (wpAny_deleteEach_cons (wpAny_delete_Subscript (thn (ho pins s σ H _ I h) fun u s1 ⟨x, H1, I1, rx, q1⟩ => thn (hi pins s1 σ H1 _ I1 q1) fun iv s2 ⟨y, H2, I2, ry, a, kvs, k, ex, e, ey, l, q2⟩ => ?_)))
  subst ex ey
  obtain rfl : u = Value.ref a := rx
  exact d_delItem I2 e ry l fun s3 I3 => wpAny_deleteEach_nil ⟨σ, _, I3, q2⟩
end



theorem dk_empty {P : Program} {w : World} {H : Hp} (h : Heap) (hb : sysModules < h.objs.size) : ObjOk P w H (h.push { cls := .type "dict", data := .dict #[] }) h.objs.size (.dK []) :=
  ⟨Nat.zero_le _, beq_eq_false_iff_ne.mpr (Ne.symm (Nat.ne_of_lt hb)), [], .nil, Heap.DictOf.new h⟩
def tDNewK : TE := fun _ H Q => ∀ p, H p = none → Q (.ref p) (upd H p (.dK []))
def tDNewT : TE := fun _ H Q => ∀ p, H p = none → Q (.ref p) (upd H p (.dT []))
section
variable {X : Cx} {pos : Pos}
theorem pe_dnewK : PE X (.Dict [] [] pos) tDNewK := ⟨fun pins s σ H Q I h =>
  wpAny_Dict_empty ⟨.ref s.heap.objs.size, _, I.laid (a := s.heap.objs.size) (o := .dK []) (t' := s.toks) (fun _ _ q => Heap.get?_push_of_some _ q) (Nat.le_refl _) (dk_empty s.heap I.big), rfl, h _ (I.hok.fresh (Nat.le_refl _))⟩⟩
end


def tPairs : List (TE × TE) → St → Hp → (List (V × V) → Hp → Prop) → Prop
  | [], _, H, Q => Q [] H
  | (tk, tv) :: r, σ, H, Q => tk σ H fun x H1 => tv σ H1 fun y H2 => tPairs r σ H2 fun ps H3 => Q ((x, y) :: ps) H3
abbrev VV : List (V × V) → List (Value × Value) → Prop := Paired fun p q => RelV p.1 q.1 ∧ RelV p.2 q.2
def PPs (X : Cx) (pos : Pos) (keys : List (Option Expr)) (values : List Expr) (trs : List (TE × TE)) : Prop :=
  ∀ (pins : List (Addr × Obj)) (s : Shared) (σ : St) (H : Hp) (Q : List (V × V) → Hp → Prop), Inv X pins σ H s → tPairs trs σ H Q →
    wpAny (model X.prog X.w) X.A (evalPairs (pairTrees keys values X.env pos)) (fun vs s' => ∃ ps H', Inv X pins σ H' s' ∧ VV ps vs ∧ Q ps H') X.xe s
def mergeK (kvs more : List (Key × V)) : List (Key × V) := more.foldl (fun acc kv => putK acc kv.1 kv.2) kvs
def tDisp (trs : List (TE × TE)) : TE := fun σ H Q => ∀ p, H p = none → tPairs trs σ (upd H p (.dK [])) fun ps H2 => H2 p = some (.dK []) ∧ ∃ kvs : List (Key × V), ps = kvs.map (fun kv => (kV kv.1, kv.2)) ∧ kvs.length ≤ 15 ∧ Q (.ref p) (upd H2 p (.dK (mergeK [] kvs)))
structure M1 (X : Cx) (o : Expr) (m : Str) (apos : Pos) (e : Expr) (cpos : Pos) : Prop where
  base : attributeBase o m X.env (eval o X.env) = eval o X.env
  few : ((backTo cpos (starEach [e] X.env)).all (fun x => !x.1) && (backToKw cpos (keywordEach [] X.env)).all (fun x => x.1.isSome)
    && decide (([e] : List Expr).length + ([] : List Keyword).length + (if ([] : List Keyword).isEmpty then 0 else 1) < 30)) = true
  line : (apos.endLine == cpos.line) = true
  trees : backTo cpos (starEach [e] X.env) = [(false, eval e X.env)]
structure M2 (X : Cx) (o : Expr) (m : Str) (apos : Pos) (e f : Expr) (cpos : Pos) : Prop where
  base : attributeBase o m X.env (eval o X.env) = eval o X.env
  few : ((backTo cpos (starEach [e, f] X.env)).all (fun x => !x.1) && (backToKw cpos (keywordEach [] X.env)).all (fun x => x.1.isSome)
    && decide (([e, f] : List Expr).length + ([] : List Keyword).length + (if ([] : List Keyword).isEmpty then 0 else 1) < 30)) = true
  line : (apos.endLine == cpos.line) = true
  trees : backTo cpos (starEach [e, f] X.env) = [(false, eval e X.env), (false, eval f X.env)]


def IsD (H : Hp) (a : Addr) : Prop := (∃ kvs, Rd H a (.dK kvs)) ∨ ∃ kvs, Rd H a (.dT kvs)
theorem isD_at {X : Cx} {pins : List (Addr × Obj)} {σ : St} {H : Hp} {s : Shared} {a : Addr} (I : Inv X pins σ H s) (d : IsD H a) :
    s.TypeIs (.ref a) "dict" ∧ (∀ b, Value.ref a = .ref b → ∃ ob, s.heap.get? b = some ob ∧ ob.dict = none) ∧ (a == sysModules) = false := by
  rcases d with ⟨kvs, e⟩ | ⟨kvs, e⟩
  · obtain ⟨_, hd, vs, _, dd⟩ := dk_rd I.hok e
    refine ⟨dd.typeIs, fun b q => ?_, hd⟩
    cases q
    obtain ⟨ob, _, _, h1, h2, _⟩ := dd
    exact ⟨ob, h1, h2.2.1⟩
  · obtain ⟨_, hd, xs, _, dd⟩ := dt_rd I.hok e
    refine ⟨dd.typeIs, fun b q => ?_, hd⟩
    cases q
    obtain ⟨ob, _, _, h1, h2, _⟩ := dd
    exact ⟨ob, h1, h2.2.1⟩

section
variable {X : Cx} {pins : List (Addr × Obj)} {σ : St} {H : Hp} {s : Shared} {a : Addr} {y d : V} {u r : Value} {o : Option V} {A : Around} {E : Value → Shared → Prop}

end

def tDGet1 (td ty : TE) : TE := fun σ H Q => td σ H fun x H1 => ∃ a, x = .ref a ∧ IsD H1 a ∧ ty σ H1 fun y H2 => ∃ o, DGet H2 a y o ∧ Q (o.getD .non) H2
def tDGet2 (td ty tx : TE) : TE := fun σ H Q => td σ H fun x H1 => ∃ a, x = .ref a ∧ IsD H1 a ∧ ty σ H1 fun y H2 => tx σ H2 fun z H3 => ∃ o, DGet H3 a y o ∧ Q (o.getD z) H3

def tDPop1 (td ty : TE) : TE := fun σ H Q => td σ H fun x H1 => ∃ a, x = .ref a ∧ IsD H1 a ∧ ty σ H1 fun y H2 => ∃ kvs k v, H2 a = some (.dK kvs) ∧ y = kV k ∧ valV kvs k = some v ∧ Q v (upd H2 a (.dK (dropK kvs k)))
def tDPop2 (td ty tx : TE) : TE := fun σ H Q => td σ H fun x H1 => ∃ a, x = .ref a ∧ IsD H1 a ∧ ty σ H1 fun y H2 => tx σ H2 fun z H3 => ∃ kvs k, H3 a = some (.dK kvs) ∧ y = kV k ∧
  (∀ v, valV kvs k = some v → Q v (upd H3 a (.dK (dropK kvs k)))) ∧ (valV kvs k = none → Q z H3)
section
variable {X : Cx} {o e f : Expr} {apos cpos : Pos} {td ty tx : TE}
theorem pe_dpop1 (ho : PE X o td) (he : PE X e ty) (m : M1 X o "pop" apos e cpos) : PE X (.Call (.Attribute o "pop" apos) [e] [] cpos) (tDPop1 td ty) := by
  constructor
  intro pins s σ H Q I h
  refine wpAny_Call_method m.base m.few m.line PySem.F.plainAttrs_dict PySem.F.slot_dict_pop PySem.F.type_dict_pop (thn (ho pins s σ H _ I h) fun u s1 ⟨x, H1, I1, rx, a, ex, d, q1⟩ => ?_)
  subst ex
  obtain rfl : u = Value.ref a := rx
  obtain ⟨t1, t2, _⟩ := isD_at I1 d
  refine ⟨t1, t2, ?_⟩
  rw [m.trees]
  refine Calls.callWith_builtin rfl (Calls.evalArgs_plain (Calls.spliced_cons (thn (he pins s1 σ H1 _ I1 q1) fun iv s2 ⟨y, H2, I2, ry, kvs, k, v, ea, ey, l, q2⟩ => Calls.spliced_nil ?_)))
  subst ey
  exact d_pop I2 ea ry l (.inl rfl) fun w' s3 I3 rw' => ⟨v, _, I3, rw', q2⟩
end


section
variable {X : Cx} {pins : List (Addr × Obj)} {σ : St} {H : Hp} {s : Shared} {a : Addr} {kvs : List (Key × V)} {A : Around} {E : Value → Shared → Prop}
end


section
variable {X : Cx} {pins : List (Addr × Obj)} {σ : St} {H : Hp} {s : Shared} {a : Addr} {y : V} {u : Value} {A : Around} {E : Value → Shared → Prop}

end
end L2

namespace L2
open PySem PySem.Spec PyProof.Rows

section
variable {prog : Program} {w : World} {A : Around} {E : Value → Shared → Prop}

end

section
variable {X : Cx}
end
end L2

namespace L2
open PySem PySem.Spec PyProof.Rows

section
variable {X : Cx} {pins : List (Addr × Obj)} {σ : St} {H : Hp} {s : Shared} {h' : Heap}

theorem Inv.turnedL {t' : Nat} {ch : List Addr} (I : Inv X pins σ H s) (k : ∀ b o, b ∉ ch → s.heap.get? b = some o → h'.get? b = some o) (hf : ∀ b ∈ ch, FpOk X pins H b) : Inv X pins σ H { s with heap := h', toks := t' } := by
  have nit : ∀ b u, H b = some u → b ∉ ch := fun b u e z => by
    have q := (hf b z).1
    rw [q] at e; cases e
  refine I.step (g' := s.gens) (d' := s.drawn) (ch := ch) (fun b hb => ⟨(hf b hb).2.2.2.1, (hf b hb).2.1, (hf b hb).2.2.2.2.1, (hf b hb).2.2.2.2.2⟩) (fun b o _ _ hc e _ => k b o hc e) (fun b o _ _ hc e _ => ⟨o.slots, k b o hc e⟩)
    (fun _ _ _ _ n => n) (fun b o hc e => ⟨o, k b o hc e⟩) (fun _ _ e => e) (fun _ _ _ e => e) (fun b ps e => ⟨#[], by rw [e]; simp⟩) (fun m hm => ?_) (fun b u e => ?_) I.bare
  · obtain ⟨o, es, ep, ho, r⟩ := hm
    exact ⟨o, es, ep, k _ o (fun z => (hf _ z).2.1 rfl) ho, r⟩
  · refine (I.hok b u e).stay (fun c v hc q => k c v ?_ q) (fun _ q => q) fun _ _ q => q
    rcases hc with z | z
    · rw [z]; exact nit b u e
    · exact nit c _ z

theorem Inv.turnedNew {t' : Nat} {ch : List Addr} {T : Addr} {ob : HO} (I : Inv X pins σ H s) (k : ∀ b o, b ∉ ch → s.heap.get? b = some o → h'.get? b = some o) (hf : ∀ b ∈ ch, FpOk X pins H b) (hT : s.heap.objs.size ≤ T)
    (new : ObjOk X.prog X.w (upd H T ob) h' T ob) : Inv X pins σ (upd H T ob) { s with heap := h', toks := t' } := by
  have hn : H T = none := I.hok.fresh hT
  have nit : ∀ b u, H b = some u → b ∉ ch := fun b u e z => by
    have q := (hf b z).1
    rw [q] at e; cases e
  refine I.step (g' := s.gens) (d' := s.drawn) (ch := ch) (fun b hb => ⟨(hf b hb).2.2.2.1, (hf b hb).2.1, (hf b hb).2.2.2.2.1, (hf b hb).2.2.2.2.2⟩) (fun b o _ _ hc e _ => k b o hc e) (fun b o _ _ hc e _ => ⟨o.slots, k b o hc e⟩)
    (fun b o _ e n => ?_) (fun b o hc e => ⟨o, k b o hc e⟩) (fun b xs e => ?_) (fun b o u e => ?_) (fun b ps e => ⟨#[], ?_⟩) (fun m hm => ?_) (fun b u e => ?_) I.bare
  · rw [upd_ne (Nat.ne_of_lt (Nat.lt_of_lt_of_le (Heap.lt_size e) hT))]; exact n
  · rw [upd_ne (ne_of_none e hn)]; exact e
  · rw [upd_ne (ne_of_none e hn)]; exact e
  · rw [upd_ne (ne_of_none e hn), e]; simp
  · obtain ⟨o, es, ep, ho, r⟩ := hm
    exact ⟨o, es, ep, k _ o (fun z => (hf _ z).2.1 rfl) ho, r⟩
  · by_cases hb : b = T
    · subst hb
      rw [upd_same] at e
      cases e
      exact new
    · rw [upd_ne hb] at e
      refine (I.hok b u e).stay (fun c v hc q => k c v ?_ q) (fun c q => by rw [upd_ne (ne_of_none q hn)]; exact q) fun c xs q => by rw [upd_ne (ne_of_none q hn)]; exact q
      rcases hc with z | z
      · rw [z]; exact nit b u e
      · exact nit c _ z


theorem Inv.lock {d : Addr} {u : HO} (I : Inv X pins σ H s) (h : H d = some u) (mu : Mut (some u)) : ∃ od, Inv X pins σ (upd H d (.frz od u)) s := by
  have x := I.hok d u h
  have ex : ∃ od, s.heap.get? d = some od := by
    cases u with
    | lst xs => obtain ⟨_, _, _, _, e⟩ := x; exact ⟨_, e⟩
    | dK kvs => obtain ⟨_, _, _, _, o, _, _, e, _⟩ := x; exact ⟨o, e⟩
    | dT kvs => obtain ⟨_, _, _, _, o, _, _, e, _⟩ := x; exact ⟨o, e⟩
    | set S n => obtain ⟨o, _, _, _, e, _⟩ := x; exact ⟨o, e⟩
    | ins C dx fs => obtain ⟨_, _, _, e, _⟩ := x; exact ⟨_, e⟩
    | ext φ => obtain ⟨_, ⟨_, e⟩, _⟩ := x; exact ⟨_, e⟩
    | _ => exact False.elim mu
  obtain ⟨od, e⟩ := ex
  have new : ObjOk X.prog X.w (upd H d (.frz od u)) s.heap d (.frz od u) := by
    refine ⟨e, x.stay (fun b v _ q => q) (fun b q => ?_) fun b xs q => ?_⟩
    · rw [upd_ne (fun z => by rw [z, h] at q; cases q; exact mu)]; exact q
    · rw [upd_ne (fun z => by rw [z, h] at q; cases q; exact mu)]; exact q
  exact ⟨od, I.write (x := d) (e := d) (t' := s.toks) (h' := s.heap) (by rw [h]; exact mu) (.inl rfl) (fun b v _ q => q) ⟨od, e⟩ new⟩
theorem Inv.nofrz {d : Addr} {u : HO} (I : Inv X pins σ H s) (h : H d = some u) (mu : Mut (some u)) : ∀ o' u', X.H_0 d ≠ some (.frz o' u') := fun o' u' e => by
  have q := I.base.frzs d o' u' e
  rw [h] at q
  cases q
  exact mu
theorem Inv.unlock {d : Addr} {od : Obj} {u : HO} (I : Inv X pins σ H s) (h : H d = some (.frz od u)) (hn : ∀ o' u', X.H_0 d ≠ some (.frz o' u')) : Inv X pins σ (upd H d u) s := by
  have neH : ∀ b o, H b = some o → (∀ o' u', o ≠ .frz o' u') → b ≠ d := fun b o e hne z => by
    rw [z, h] at e
    cases e
    exact hne _ _ rfl
  have neN : ∀ b, H b = none → b ≠ d := fun b e z => by rw [z, h] at e; cases e
  refine ⟨I.ok, I.os, I.bare, ⟨I.base.keep, I.base.slot, fun b o e n hx => ?_, I.base.there, fun b xs e => ?_, fun b o x e => ?_, fun b ps e => ?_⟩, I.loc, I.cell, ?_, fun x c e => ?_, fun p hp => ?_, fun b o e => ?_, I.len⟩
  · rw [upd_ne (neN b (I.base.free b o e n hx))]; exact I.base.free b o e n hx
  · have q := I.base.tups b xs e
    rw [upd_ne (neH b _ q (fun _ _ z => nomatch z))]; exact q
  · have q := I.base.frzs b o x e
    rw [upd_ne (fun z => by rw [z] at e; exact hn _ _ e)]; exact q
  · obtain ⟨m, q⟩ := I.base.tbls b ps e
    exact ⟨m, by rw [upd_ne (neH b _ q (fun _ _ z => nomatch z))]; exact q⟩
  · rw [upd_ne (neN _ I.free)]; exact I.free
  · rw [upd_ne (neN c (I.freeC x c e))]; exact I.freeC x c e
  · obtain ⟨e, n, r⟩ := I.pin p hp
    exact ⟨e, by rw [upd_ne (neN _ n)]; exact n, r⟩
  · by_cases hb : b = d
    · rw [hb, upd_same] at e
      cases e
      rw [hb]
      obtain ⟨_, x⟩ := I.hok d _ h
      exact x.stay (fun c v _ q => q) (fun c q => by rw [upd_ne (neH c _ q (fun _ _ z => nomatch z))]; exact q) fun c xs q => by rw [upd_ne (neH c _ q (fun _ _ z => nomatch z))]; exact q
    · rw [upd_ne hb] at e
      exact (I.hok b o e).stay (fun c v _ q => q) (fun c q => by rw [upd_ne (neH c _ q (fun _ _ z => nomatch z))]; exact q) fun c xs q => by rw [upd_ne (neH c _ q (fun _ _ z => nomatch z))]; exact q
end

def tLock (t : TS) : TS := fun D σ H => ∃ d u, H d = some u ∧ Mut (some u) ∧ ∀ od, t ⟨fun σ' H' => H' d = some (.frz od u) ∧ D.nx σ' (upd H' d u), fun v H' => H' d = some (.frz od u) ∧ D.rt v (upd H' d u), fun σ' H' => H' d = some (.frz od u) ∧ D.bk σ' (upd H' d u), fun σ' H' => H' d = some (.frz od u) ∧ D.ct σ' (upd H' d u)⟩ σ (upd H d (.frz od u))
def tLockE (t : TE) : TE := fun σ H Q => ∃ d u, H d = some u ∧ Mut (some u) ∧ ∀ od, t σ (upd H d (.frz od u)) fun v H' => H' d = some (.frz od u) ∧ Q v (upd H' d u)
section
variable {X : Cx}
theorem pe_lock {e : Expr} {t : TE} (h : PE X e t) : PE X e (tLockE t) := by
  constructor
  intro pins s σ H Q I hw
  obtain ⟨d, u, hd, mu, hw⟩ := hw
  obtain ⟨od, I1⟩ := I.lock hd mu
  refine thn (h pins s σ _ _ I1 (hw od)) fun v s1 ⟨x, H1, I2, r, e2, q⟩ => ?_
  exact ⟨x, _, I2.unlock e2 (I.nofrz hd mu), r, q⟩


theorem pi_one {tg : Expr} {pins : List (Addr × Obj)} {σ : St} {H : Hp} {s : Shared} {R : It → Hp → Prop} {J : It} {tn : Nat → Heap → Prop} {tk : Nat} (I : Inv X pins σ H s) (o : Obj)
    (T : Turn X.prog X.w X.K tg J [s.heap.objs.size] s.heap.objs.size tn) (st : tn 0 (s.heap.push o)) (q : R J H) : PIE X pins σ tg R (.ref s.heap.objs.size) { s with heap := s.heap.push o, toks := tk } := by
  refine ⟨s.heap.objs.size, [s.heap.objs.size], tn, J, H, rfl, I.kept fun b ob e => Heap.get?_push_of_some _ e, T, st, fun b hb => ?_, q⟩
  have e : b = s.heap.objs.size := by simpa using hb
  subst e
  exact I.fpOk (Nat.le_refl _) (I.hok.fresh (Nat.le_refl _))
end



def Itc (lo c : Int) (n : Nat) : It := ⟨fun i _ => i < n, fun i H x H' => H' = H ∧ x = .int (lo + (i : Nat) * c), fun i _ => n ≤ i⟩
def RgC (i j c : Int) (n : Nat) : Prop := c ≠ 0 ∧ c.natAbs < 1073741824 ∧ Builtin.Range.small i j c = true ∧ Builtin.Range.rangeSize i j c = n
def iRng3 (ta : TA) : TI := fun σ H R => ta σ H fun vs H1 => ∃ (i j c : Int) (n : Nat), vs = [.int i, .int j, .int c] ∧ RgC i j c n ∧ R (Itc i c n) H1
section
variable {X : Cx} {tg : Expr}
end

def Itv (K : PySem.W.Frag) (a : Addr) (n : Nat) : It :=
  ⟨fun i H => i < n ∧ ∃ (xs : List V) (x : V), SqL K H a xs ∧ xs[n - 1 - i]? = some x, fun i H x H' => H' = H ∧ ∀ xs, SqL K H a xs → xs[n - 1 - i]? = some x, fun i _ => n ≤ i⟩
def iRev (K : PySem.W.Frag) (ta : TA) : TI := fun σ H R => ta σ H fun vs H1 => ∃ (a : Addr) (xs : List V), vs = [.ref a] ∧ SqL K H1 a xs ∧ R (Itv K a xs.length) H1
section
variable {X : Cx} {tg : Expr}
end


def Its (x : Str) : It := ⟨fun i _ => i < x.cps.size, fun i H v H' => H' = H ∧ ∃ c, x.cps[i]? = some c ∧ v = .str ⟨#[c]⟩, fun i _ => x.cps.size ≤ i⟩
theorem turn_str {P : Program} {w : World} {K : PySem.W.Frag} {tg : Expr} (it : Addr) (x : Str) (t : Tok) (ty : String) (hty : ty = "str_ascii_iterator" ∨ ty = "str_iterator") :
    Turn P w K tg (Its x) [it] it (fun i h => h.IsStrIter it ty x t i) where
  mem := by simp
  obj := fun i h st b hb => by
    have e : b = it := by simpa using hb
    subst e
    obtain ⟨o, e, c, d⟩ := st
    exact ⟨o, e, fun v z => by rw [d] at z; cases z⟩
  keep := fun i h h' st k => let ⟨o, ho, r⟩ := st; ⟨o, k it (by simp) o ho, r⟩
  item := by
    intro X hP hw hK hc i pins s σ H E I hf st hg
    subst hP hw hK
    obtain ⟨f0, f1, f2, f3, f4, f5⟩ := hf it (by simp)
    have W : Walks X.prog X.w X.A it [it] [it] x.cps.size (SignAt x) (fun i h => h.IsStrIter it ty x t i) := by
      rcases hty with e | e
      · rw [e]; exact Walks.strAscii (I.ok.hd hc) it x t
      · rw [e]; exact Walks.strWide (I.ok.hd hc) it x t
    have hno : ["enumerate", "zip", "dict_itemiterator", "dict_reverseitemiterator", "odict_iterator", "itertools.zip_longest", "itertools.pairwise"].contains ty = false := by
      rcases hty with e | e
      · rw [e]; decide
      · rw [e]; decide
    refine W.item i s _ _ hg st fun v h' tk hv st' kk => ?_
    obtain ⟨c, u, hcx, rfl⟩ := hv
    have I1 : Inv X pins σ H { s with heap := h', toks := tk } := I.turned (fun b o hb e => kk b o (by simpa using hb) e) f0 f1 f3 f4 f5
    obtain ⟨oi, e, cc, dd⟩ := id st'
    exact ⟨_, rfl, go_of (s := { s with heap := h', toks := tk }) e cc dd hno ⟨.str ⟨#[c]⟩, H, I1, ⟨u, rfl⟩, ⟨rfl, c, hcx, rfl⟩, st', fun b hb => (hf b hb).1⟩⟩
  done := by
    intro X hP hw hK hc i pins s σ H E I hf st hg
    subst hP hw hK
    obtain ⟨f0, f1, f2, f3, f4, f5⟩ := hf it (by simp)
    have hx : x.cps[i]? = none := Array.getElem?_eq_none hg
    rcases hty with e | e
    · rw [e] at st
      exact wpAny_pyNext_ascii_end (I.ok.hd hc) st hx fun h' eb => ⟨rfl, I.turned (t' := s.toks) (fun b o hb e => eb b o hb e) f0 f1 f3 f4 f5⟩
    · rw [e] at st
      exact wpAny_pyNext_wide_end (I.ok.hd hc) st hx fun h' eb => ⟨rfl, I.turned (t' := s.toks) (fun b o hb e => eb b o hb e) f0 f1 f3 f4 f5⟩
  self := fun A i s Q E st h => by
    rcases hty with e | e
    · rw [e] at st; exact wpAny_pyIter_striter_ascii st h
    · rw [e] at st; exact wpAny_pyIter_striter_wide st h
def iStr (te : TE) : TI := fun σ H R => te σ H fun v H1 => ∃ x, v = .str x ∧ R (Its x) H1
theorem pi_str {X : Cx} {tg e : Expr} {te : TE} (he : PE X e te) : PI X tg e (iStr te) := by
  constructor
  intro pins s σ H R I h
  refine thn (he pins s σ H _ I h) fun v s1 ⟨y, H1, I1, r1, x, ex, q⟩ => ?_
  subst ex
  obtain ⟨t, rfl⟩ := r1
  cases ha : x.cps.all (· < 128)
  · exact wpAny_pyIter_wide ha (pi_one (tk := s1.toks) I1 _ (turn_str _ x t "str_iterator" (.inr rfl)) ⟨_, Heap.get?_push_size _ rfl, rfl, rfl⟩ q)
  · exact wpAny_pyIter_ascii ha (pi_one (tk := s1.toks) I1 _ (turn_str _ x t "str_ascii_iterator" (.inl rfl)) ⟨_, Heap.get?_push_size _ rfl, rfl, rfl⟩ q)


section
variable {prog : Program} {w : World} {A : Around} {E : Value → Shared → Prop} {s : Shared}
theorem iter_keys {d : Addr} {o : Obj} {es : Array DictEntry} {ep : Nat} {Q : Value → Shared → Prop} (hd : (d == sysModules) = false) (ho : s.heap.get? d = some o) (hc : o.ExactDict) (hdat : o.data = .dict es ep)
    (hQ : Q (.ref s.heap.objs.size) { s with heap := s.heap.push { cls := .type "dict_keyiterator", data := .fields #[.ref d, .int 0 0, .int es.size 0, .int ep 0] } }) :
    wpAny (model prog w) A (pyIter (.ref d)) Q E s := by
  have hT : s.TypeIs (.ref d) "dict" := ⟨o, ho, hc.1⟩
  refine wpAny_pyIter_slot hT F.slot_dict_iter (wpAny_call_entry F.slot_dict_iter hT F.entry_dict_iter ?_ (F.args_dict_iter_1 _))
  unfold Builtin.«dict.__iter__»
  refine wpAny_bind ?_
  unfold Builtin.Dict.dictSlotNone
  refine wpAny_bind (wpAny_notOrdered_dict hT ?_)
  show wpAny _ _ (pure (Value.ref d)) _ _ s
  refine wpAny_pure ?_
  show wpAny _ _ (Builtin.Dict.showsAll d >>= _) _ _ s
  unfold Builtin.Dict.showsAll
  rw [if_neg (by rw [hd]; exact Bool.false_ne_true)]
  refine wpAny_bind (wpAny_pure ?_)
  refine wpAny_bind (wpAny_dictEntries ho hdat ?_)
  refine wpAny_bind (wpAny_dictEpoch ho hdat ?_)
  refine wpAny_bind (wpAny_newObj_type (wpAny_pure ⟨_, rfl, "dict_keyiterator", _, ⟨_, Heap.get?_push_size _ rfl, rfl⟩, F.slot_dict_keyiterator_next.lookup, ?_⟩))
  simpa [rawInt] using hQ
theorem next_key_item {it d : Addr} {i n ep : Nat} {od : Obj} {es : Array DictEntry} {en : DictEntry} {Q : Option Value → Shared → Prop} (hit : s.heap.IsKeyIter it d i n ep) (hod : s.heap.get? d = some od) (hdd : od.data = .dict es ep)
    (hsz : es.size = n) (hx : es[i]? = some en) (hQ : ∀ h', h'.IsKeyIter it d (i + 1) n ep → Heap.SameBut it s.heap h' → Q (some en.key) { s with heap := h' }) : wpAny (model prog w) A (pyNext (.ref it)) Q E s := by
  obtain ⟨o, ho, hc, hd⟩ := id hit
  unfold pyNext
  refine wpAny_bind (wpAny_attempt (wpAny_callSpecial?_slot (name := Str.ofString "__next__") hit.typeIs F.slot_dict_keyiterator_next
    (wpAny_call_entry F.slot_dict_keyiterator_next hit.typeIs F.entry_dict_keyiterator_next ?_ (F.args_dict_keyiterator_next_1 _))))
  refine wpAny_bind (wpAny_pure ?_)
  refine wpAny_bind ?_
  refine wpAny_bind ?_
  first | refine wpAny_bind (wpAny_typeNameOfWhole_keyiter hit.typeIs (wpAny_pure ?_)) | refine wpAny_bind (wpAny_typeNameOf_keyiter hit.typeIs (wpAny_pure ?_))
  refine wpAny_bind (wpAny_fieldsOf ho hd ?_)
  have hown : Builtin.Dict_items.ownsTuple "dict_keyiterator" = false := by decide
  simp only [hown, Bool.false_eq_true, if_false]
  show wpAny _ _ (if (Value.ref d == Value.none) = true then _ else _) _ _ s
  rw [if_neg (show ¬ ((Value.ref d == Value.none) = true) from Bool.false_ne_true)]
  refine wpAny_bind (wpAny_pure ?_)
  refine wpAny_bind (wpAny_dictEntries hod hdd ?_)
  rw [if_neg (by rw [hsz]; simp)]
  refine wpAny_bind (wpAny_pure ?_)
  refine wpAny_bind (wpAny_dictEpoch hod hdd ?_)
  rw [if_neg (by simp)]
  refine wpAny_pure ?_
  obtain ⟨hlt', hen⟩ := Array.getElem?_eq_some_iff.mp hx
  simp only [show ¬ ((i : Int) < 0) from by omega, if_false, Int.toNat_natCast, Array.getElem?_eq_getElem hlt']
  refine wpAny_bind ?_
  first | refine wpAny_bind (wpAny_typeNameOfWhole_keyiter hit.typeIs (wpAny_pure ?_)) | refine wpAny_bind (wpAny_typeNameOf_keyiter hit.typeIs (wpAny_pure ?_))
  refine wpAny_bind (wpAny_isOneOf_keyiter hit.typeIs ?_)
  show wpAny _ _ (setField (.ref it) 1 (rawInt ((i : Int) + 1)) >>= _) _ _ s
  refine wpAny_bind (wpAny_setField ho hd (by simp) ?_)
  have hit' : (s.heap.update it (Obj.mapFields (·.setIfInBounds 1 (rawInt ((i : Int) + 1))))).IsKeyIter it d (i + 1) n ep :=
    ⟨_, Heap.get?_update_self _ ho (Obj.isFreed_of_fields (Obj.data_mapFields hd _)), (Obj.cls_mapFields ..).trans hc, by rw [Obj.data_mapFields hd]; simp [rawInt]⟩
  refine wpAny_bind (wpAny_holding ?_)
  refine wpAny_bind (wpAny_isOneOf_keyiter (s := { s with heap := s.heap.update it (Obj.mapFields (·.setIfInBounds 1 (rawInt ((i : Int) + 1)))) }) hit'.typeIs ?_)
  show wpAny _ _ (pure es[i].key) _ _ _
  rw [hen]
  exact wpAny_pure (wpAny_pure ⟨_, rfl, wpAny_pure (hQ _ hit' (Heap.SameBut.update ..))⟩)
theorem next_key_end {it d : Addr} {i n ep : Nat} {od : Obj} {es : Array DictEntry} {Q : Option Value → Shared → Prop} (hh : A.handled = none) (hit : s.heap.IsKeyIter it d i n ep) (hod : s.heap.get? d = some od) (hdd : od.data = .dict es ep)
    (hsz : es.size = n) (hge : n ≤ i) (hQ : ∀ h', Heap.ExtBut it s.heap h' → Q none { s with heap := h' }) : wpAny (model prog w) A (pyNext (.ref it)) Q E s := by
  obtain ⟨o, ho, hc, hd⟩ := id hit
  unfold pyNext
  refine wpAny_bind (wpAny_attempt (wpAny_callSpecial?_slot (name := Str.ofString "__next__") hit.typeIs F.slot_dict_keyiterator_next
    (wpAny_call_entry F.slot_dict_keyiterator_next hit.typeIs F.entry_dict_keyiterator_next ?_ (F.args_dict_keyiterator_next_1 _))))
  refine wpAny_bind (wpAny_pure ?_)
  refine wpAny_bind ?_
  refine wpAny_bind ?_
  first | refine wpAny_bind (wpAny_typeNameOfWhole_keyiter hit.typeIs (wpAny_pure ?_)) | refine wpAny_bind (wpAny_typeNameOf_keyiter hit.typeIs (wpAny_pure ?_))
  refine wpAny_bind (wpAny_fieldsOf ho hd ?_)
  have hown : Builtin.Dict_items.ownsTuple "dict_keyiterator" = false := by decide
  simp only [hown, Bool.false_eq_true, if_false]
  show wpAny _ _ (if (Value.ref d == Value.none) = true then _ else _) _ _ s
  rw [if_neg (show ¬ ((Value.ref d == Value.none) = true) from Bool.false_ne_true)]
  refine wpAny_bind (wpAny_pure ?_)
  refine wpAny_bind (wpAny_dictEntries hod hdd ?_)
  rw [if_neg (by rw [hsz]; simp)]
  refine wpAny_bind (wpAny_pure ?_)
  refine wpAny_bind (wpAny_dictEpoch hod hdd ?_)
  rw [if_neg (by simp)]
  refine wpAny_pure ?_
  have hge' : es.size ≤ i := by rw [hsz]; exact hge
  simp only [show ¬ ((i : Int) < 0) from by omega, if_false, Int.toNat_natCast, Array.getElem?_eq_none hge']
  refine wpAny_bind ?_
  first | refine wpAny_bind (wpAny_typeNameOfWhole_keyiter hit.typeIs (wpAny_pure ?_)) | refine wpAny_bind (wpAny_typeNameOf_keyiter hit.typeIs (wpAny_pure ?_))
  show wpAny _ _ (setField (.ref it) 0 .none >>= _) _ _ s
  refine wpAny_bind (wpAny_setField ho hd (by simp) ?_)
  show wpAny _ _ (newExc (.type "StopIteration") [] >>= _) _ _ _
  refine wpAny_bind ?_
  simp only [newExc, newTuple]
  refine wpAny_bind (wpAny_newObj_type ?_ (by size_fits))
  refine wpAny_bind (m := firstArgMember _ _) (wpAny_of_eq (a := Value.none) (by first | rfl | (simp only [firstArgMember]; rfl)) ?_)
  refine wpAny_newObj_type ?_ (by size_fits)
  simp only [raiseNew]
  refine wpAny_bind (wpAny_handled ?_)
  rw [show A.in1.handled = none from hh]
  refine wpAny_bind (wpAny_pure (wpAny_throw ?_))
  refine wpAny_bind (wpAny_isInstance (T := "StopIteration") (b := true) ⟨_, Heap.get?_push_size _ rfl, rfl⟩ isSubtype_stop ?_)
  exact wpAny_pure (hQ _ (((Heap.SameBut.update ..).extBut.push _).push _))
end


theorem kv_get {κ : Type} {kvs : List (κ × V)} {vs : List (κ × Value)} (h : KV kvs vs) : ∀ {i : Nat} {k : κ} {v : V}, kvs[i]? = some (k, v) → ∃ u, vs[i]? = some (k, u) ∧ RelV v u := by
  unfold KV at h
  induction h with
  | nil => intro i k v e; simp at e
  | @cons a b l₁ l₂ r t ih =>
    intro i k v e
    cases i with
    | zero =>
      simp only [List.getElem?_cons_zero, Option.some.injEq] at e
      subst e
      refine ⟨b.2, ?_, r.2⟩
      simp only [List.getElem?_cons_zero]
      exact congrArg some (Prod.ext r.1.symm rfl)
    | succ j =>
      simp only [List.getElem?_cons_succ] at e ⊢
      exact ih e
theorem paired_get {α β : Type} {G : α → β → Prop} {l₁ : List α} {l₂ : List β} (h : Paired G l₁ l₂) : ∀ {i : Nat} {a : α}, l₁[i]? = some a → ∃ b, l₂[i]? = some b ∧ G a b := by
  induction h with
  | nil => intro i a e; simp at e
  | @cons a b l₁ l₂ r t ih =>
    intro i a' e
    cases i with
    | zero =>
      simp only [List.getElem?_cons_zero, Option.some.injEq] at e
      subst e
      exact ⟨b, rfl, r⟩
    | succ j =>
      simp only [List.getElem?_cons_succ] at e ⊢
      exact ih e
theorem relV_key {k : Key} {u : Value} (h : keyIs k u = true) : RelV (kV k) u := by
  rcases keyIs_shape h with ⟨i, t, rfl, rfl⟩ | ⟨x, t, rfl, rfl⟩
  · exact ⟨t, rfl⟩
  · exact ⟨t, rfl⟩
section
variable {X : Cx} {pins : List (Addr × Obj)} {σ : St} {H : Hp} {s : Shared} {d : Addr} {o : Obj}
theorem Inv.frzK {kvs : List (Key × V)} (I : Inv X pins σ H s) (h : H d = some (.frz o (.dK kvs))) :
    (d == sysModules) = false ∧ s.heap.get? d = some o ∧ o.ExactDict ∧ ∃ (es : Array DictEntry) (ep : Nat) (vs : List (Key × Value)), o.data = .dict es ep ∧ es.size = kvs.length ∧ KV kvs vs ∧ s.heap.DictAt (mixKind X.prog X.w) d vs ep := by
  obtain ⟨hd, z, hs, vs, kv, o', es, ep, ho, hx, hdt, r⟩ := I.hok d _ h
  rw [hd] at ho
  cases ho
  refine ⟨hs, hd, hx, es, ep, vs, hdt, ?_, kv, o, es, hd, hx, hdt, r⟩
  have l1 := r.2.1.length
  have l2 : kvs.length = vs.length := Paired.length kv
  rw [Array.length_toList] at l1
  omega

theorem Inv.frzT {kvs : List (List Key × V)} (I : Inv X pins σ H s) (h : H d = some (.frz o (.dT kvs))) :
    (d == sysModules) = false ∧ s.heap.get? d = some o ∧ o.ExactDict ∧ ∃ (es : Array DictEntry) (ep : Nat), o.data = .dict es ep ∧ es.size = kvs.length ∧
      ∀ (i : Nat) (k : List Key) (v : V), kvs[i]? = some (k, v) → ∃ (en : DictEntry) (q : Addr), es[i]? = some en ∧ en.key = .ref q ∧ H q = some (.tup (k.map kV)) := by
  obtain ⟨hd, z, hs, xs, pr, o', es, ep, ho, hx, hdt, he, _⟩ := I.hok d _ h
  rw [hd] at ho
  cases ho
  refine ⟨hs, hd, hx, es, ep, hdt, ?_, fun i k v e => ?_⟩
  · have l1 : es.size = xs.length := size_of_entries he
    have l2 : kvs.length = xs.length := Paired.length pr
    omega
  · obtain ⟨b, hb, e1, e2, _⟩ := paired_get pr e
    have q := entry_at he i
    rw [hb] at q
    exact ⟨_, b.2.1, q, rfl, e2⟩
end


def Itk (d : Addr) (o : Obj) (kvs : List (Key × V)) : It :=
  ⟨fun i H => H d = some (.frz o (.dK kvs)) ∧ i < kvs.length, fun i H x H' => H' = H ∧ ∃ k v, kvs[i]? = some (k, v) ∧ x = kV k, fun i H => H d = some (.frz o (.dK kvs)) ∧ kvs.length ≤ i⟩

def Itkt (d : Addr) (o : Obj) (kvs : List (List Key × V)) : It :=
  ⟨fun i H => H d = some (.frz o (.dT kvs)) ∧ i < kvs.length, fun i H x H' => H' = H ∧ ∃ (k : List Key) (v : V) (q : Addr), kvs[i]? = some (k, v) ∧ x = .ref q ∧ H q = some (.tup (k.map kV)), fun i H => H d = some (.frz o (.dT kvs)) ∧ kvs.length ≤ i⟩

def Itd (d : Addr) (o : Obj) (kvs : List (Key × V)) : It :=
  ⟨fun i H => H d = some (.frz o (.dK kvs)) ∧ i < kvs.length, fun i H x H' => H' = H ∧ ∃ k, kvs[i]? = some (k, x), fun i H => H d = some (.frz o (.dK kvs)) ∧ kvs.length ≤ i⟩

def Iti (d : Addr) (o : Obj) (kvs : List (Key × V)) : It :=
  ⟨fun i H => H d = some (.frz o (.dK kvs)) ∧ i < kvs.length, fun i H x H' => ∃ T k v, kvs[i]? = some (k, v) ∧ x = .ref T ∧ H T = none ∧ H' = upd H T (.tup [kV k, v]), fun i H => H d = some (.frz o (.dK kvs)) ∧ kvs.length ≤ i⟩
theorem dict_ep {o : Obj} {es es' : Array DictEntry} {ep ep' : Nat} (h : o.data = .dict es ep) (h' : o.data = .dict es' ep') : es' = es ∧ ep' = ep := by
  rw [h] at h'
  cases h'
  exact ⟨rfl, rfl⟩
section
variable {P : Program} {w : World} {K : PySem.W.Frag} {tg : Expr} {d : Addr} {o : Obj} {es : Array DictEntry} {ep : Nat}
theorem turn_keys {kvs : List (Key × V)} (it : Addr) (hod : o.data = .dict es ep) : Turn P w K tg (Itk d o kvs) [it] it (fun i h => h.IsKeyIter it d i kvs.length ep) where
  mem := by simp
  obj := fun i h st b hb => by
    have e : b = it := by simpa using hb
    subst e
    obtain ⟨oi, e, c, dd⟩ := st
    exact ⟨oi, e, fun v z => by rw [dd] at z; cases z⟩
  keep := fun i h h' st k => st.at fun oi e => k it (by simp) oi e
  item := by
    intro X hP hw hK hc i pins s σ H E I hf st hg
    subst hP hw hK
    obtain ⟨hd, hi⟩ := hg
    obtain ⟨f0, f1, f2, f3, f4, f5⟩ := hf it (by simp)
    obtain ⟨hs, hgd, hx, es', ep', vs, hdt, hsz, kv, hm⟩ := I.frzK hd
    obtain ⟨rfl, rfl⟩ := dict_ep hod hdt
    obtain ⟨⟨k, v⟩, hkv⟩ : ∃ p, kvs[i]? = some p := ⟨kvs[i], List.getElem?_eq_getElem hi⟩
    obtain ⟨u, hu, ru⟩ := kv_get kv hkv
    have hl : kvs.length = vs.length := Paired.length kv
    rw [hl] at st
    refine wpAny_pyNext_dict_item st hm hu fun key h' hkey st' sb => ?_
    have I1 : Inv X pins σ H { s with heap := h' } := I.turned (t' := s.toks) (fun b ob hb e => (sb.2 b hb).trans e) f0 f1 f3 f4 f5
    obtain ⟨oi, e, c, dd⟩ := id st'
    refine ⟨key, rfl, go_of (s := { s with heap := h' }) e c dd (by decide) ⟨kV k, H, I1, relV_key (show keyIs k key = true from hkey), ⟨rfl, k, v, hkv, rfl⟩, ?_, fun b hb => (hf b hb).1⟩⟩
    show h'.IsKeyIter it d (i + 1) kvs.length _
    rw [hl]
    exact st'
  done := by
    intro X hP hw hK hc i pins s σ H E I hf st hg
    subst hP hw hK
    obtain ⟨hd, hi⟩ := hg
    obtain ⟨f0, f1, f2, f3, f4, f5⟩ := hf it (by simp)
    obtain ⟨hs, hgd, hx, es', ep', vs, hdt, hsz, kv, hm⟩ := I.frzK hd
    obtain ⟨rfl, rfl⟩ := dict_ep hod hdt
    exact next_key_end (I.ok.hd hc) st hgd hdt hsz hi fun h' eb => ⟨rfl, I.turned (t' := s.toks) (fun b ob hb e => eb b ob hb e) f0 f1 f3 f4 f5⟩
  self := fun A i s Q E st h => wpAny_pyIter_keyiter st h
theorem turn_keysT {kvs : List (List Key × V)} (it : Addr) (hod : o.data = .dict es ep) : Turn P w K tg (Itkt d o kvs) [it] it (fun i h => h.IsKeyIter it d i kvs.length ep) where
  mem := by simp
  obj := fun i h st b hb => by
    have e : b = it := by simpa using hb
    subst e
    obtain ⟨oi, e, c, dd⟩ := st
    exact ⟨oi, e, fun v z => by rw [dd] at z; cases z⟩
  keep := fun i h h' st k => st.at fun oi e => k it (by simp) oi e
  item := by
    intro X hP hw hK hc i pins s σ H E I hf st hg
    subst hP hw hK
    obtain ⟨hd, hi⟩ := hg
    obtain ⟨f0, f1, f2, f3, f4, f5⟩ := hf it (by simp)
    obtain ⟨hs, hgd, hx, es', ep', hdt, hsz, ent⟩ := I.frzT hd
    obtain ⟨rfl, rfl⟩ := dict_ep hod hdt
    obtain ⟨⟨k, v⟩, hkv⟩ : ∃ p, kvs[i]? = some p := ⟨kvs[i], List.getElem?_eq_getElem hi⟩
    obtain ⟨en, q, hen, hkey, hq⟩ := ent i k v hkv
    refine next_key_item st hgd hdt hsz hen fun h' st' sb => ?_
    have I1 : Inv X pins σ H { s with heap := h' } := I.turned (t' := s.toks) (fun b ob hb e => (sb.2 b hb).trans e) f0 f1 f3 f4 f5
    obtain ⟨oi, e, c, dd⟩ := id st'
    exact ⟨en.key, rfl, go_of (s := { s with heap := h' }) e c dd (by decide) ⟨.ref q, H, I1, hkey, ⟨rfl, k, v, q, hkv, rfl, hq⟩, st', fun b hb => (hf b hb).1⟩⟩
  done := by
    intro X hP hw hK hc i pins s σ H E I hf st hg
    subst hP hw hK
    obtain ⟨hd, hi⟩ := hg
    obtain ⟨f0, f1, f2, f3, f4, f5⟩ := hf it (by simp)
    obtain ⟨hs, hgd, hx, es', ep', hdt, hsz, ent⟩ := I.frzT hd
    obtain ⟨rfl, rfl⟩ := dict_ep hod hdt
    exact next_key_end (I.ok.hd hc) st hgd hdt hsz hi fun h' eb => ⟨rfl, I.turned (t' := s.toks) (fun b ob hb e => eb b ob hb e) f0 f1 f3 f4 f5⟩
  self := fun A i s Q E st h => by
    refine wpAny_pyIter_slot st.typeIs F.slot_dict_keyiterator_iter (wpAny_call_entry F.slot_dict_keyiterator_iter st.typeIs F.entry_dict_keyiterator_iter ?_ (F.args_dict_keyiterator_iter_1 _))
    show wpAny _ _ (ret (.ref it)) _ _ s
    exact wpAny_pure ⟨_, rfl, "dict_keyiterator", _, st.typeIs, F.slot_dict_keyiterator_next.lookup, h⟩
end



def iKeys (td : TE) : TI := fun σ H R => td σ H fun x H1 => ∃ d o, x = .ref d ∧ ((∃ kvs, H1 d = some (.frz o (.dK kvs)) ∧ R (Itk d o kvs) H1) ∨ ∃ kvs, H1 d = some (.frz o (.dT kvs)) ∧ R (Itkt d o kvs) H1)
def iVals (td : TE) : TI := fun σ H R => td σ H fun x H1 => ∃ d o kvs, x = .ref d ∧ H1 d = some (.frz o (.dK kvs)) ∧ R (Itd d o kvs) H1
def iItems (td : TE) : TI := fun σ H R => td σ H fun x H1 => ∃ d o kvs, x = .ref d ∧ H1 d = some (.frz o (.dK kvs)) ∧ R (Iti d o kvs) H1
def iKeysM (td : TE) : TI := fun σ H R => td σ H fun x H1 => ∃ d o kvs, x = .ref d ∧ H1 d = some (.frz o (.dK kvs)) ∧ R (Itk d o kvs) H1
section
variable {X : Cx} {tg e : Expr} {td : TE} {apos cpos : Pos}
theorem pi_keys (he : PE X e td) : PI X tg e (iKeys td) := by
  constructor
  intro pins s σ H R I h
  refine thn (he pins s σ H _ I h) fun u s1 ⟨x, H1, I1, rx, d, o, ex, q⟩ => ?_
  subst ex
  obtain rfl : u = Value.ref d := rx
  rcases q with ⟨kvs, hd, q⟩ | ⟨kvs, hd, q⟩
  · obtain ⟨hs, hgd, hx, es, ep, vs, hdt, hsz, kv, hm⟩ := I1.frzK hd
    refine iter_keys hs hgd hx hdt (pi_one (tk := s1.toks) I1 _ (turn_keys _ hdt) ⟨_, Heap.get?_push_size _ rfl, rfl, ?_⟩ q)
    rw [hsz] <;> rfl
  · obtain ⟨hs, hgd, hx, es, ep, hdt, hsz, ent⟩ := I1.frzT hd
    refine iter_keys hs hgd hx hdt (pi_one (tk := s1.toks) I1 _ (turn_keysT _ hdt) ⟨_, Heap.get?_push_size _ rfl, rfl, ?_⟩ q)
    rw [hsz] <;> rfl
end



def Ite (K : PySem.W.Frag) (a : Addr) : It :=
  ⟨fun i H => ∃ (xs : List V) (x : V), SqL K H a xs ∧ xs[i]? = some x, fun i H v H' => ∃ T x, v = .ref T ∧ H T = none ∧ H' = upd H T (.tup [.int (i : Nat), x]) ∧ ∀ xs, SqL K H a xs → xs[i]? = some x, fun i H => ∃ xs : List V, SqL K H a xs ∧ xs.length ≤ i⟩
theorem turn_enum {P : Program} {w : World} {K : PySem.W.Frag} {elts : List Expr} {kk : Nat} {tpos : Pos} (a e it : Addr) :
    Turn P w K (.Tuple elts kk tpos) (Ite K a) [e, it] e (fun i h => (∃ old, IsEnum h e it ((i : Nat) : Int) old) ∧ h.IsListIter it a i ∧ e ≠ it) where
  mem := by simp
  obj := fun i h st b hb => by
    obtain ⟨⟨old, he⟩, ⟨o, ho, hc, hd⟩, _⟩ := st
    have e' : b = e ∨ b = it := by simpa using hb
    rcases e' with z | z
    · rw [z]; exact ⟨_, he, fun v q => nomatch q⟩
    · rw [z]; exact ⟨o, ho, fun v q => by rw [hd] at q; cases q⟩
  keep := fun i h h' st k => let ⟨⟨old, he⟩, hi, hne⟩ := st; ⟨⟨old, k e (by simp) _ he⟩, hi.at fun o q => k it (by simp) o q, hne⟩
  item := by
    intro X hP hw hK hc i pins s σ H E I hf st hg
    subst hP hw hK
    obtain ⟨⟨old, he⟩, hit, hne⟩ := st
    obtain ⟨xs, x, hq, hx⟩ := hg
    obtain ⟨its, rv, p, hz⟩ := I.list hq
    obtain ⟨u, hu, ru⟩ := rv.get hx
    have hel : e < s.heap.objs.size := Heap.lt_size he
    have hil : it < s.heap.objs.size := by obtain ⟨_, q, _⟩ := hit; exact Heap.lt_size q
    refine wpAny_pyNext_enum_item he hit p.isList (x := u) (by simpa using hu) hne fun h' ho hit' hT hsz hk => ?_
    refine ⟨_, rfl, wpAny_letOwnedTupleGo_enum (s := { s with heap := h', toks := s.toks + 1 }) ho fun h'' he' sb => ?_⟩
    have hT2 : h''.get? s.heap.objs.size = some { cls := .type "tuple", data := .seq #[.int i s.toks, u] } := (sb.2 _ (Nat.ne_of_gt hel)).trans hT
    have new : ObjOk X.prog X.w (upd H s.heap.objs.size (.tup [.int (i : Nat), x])) h'' s.heap.objs.size (.tup [.int (i : Nat), x]) :=
      ⟨by show 2 ≤ sizeLine; decide, [.int i s.toks, u], .cons ⟨_, rfl⟩ (.cons ru .nil), ⟨_, hT2, rfl, ⟨_, rfl⟩, rfl⟩⟩
    have I1 : Inv X pins σ (upd H s.heap.objs.size (.tup [.int (i : Nat), x])) { s with heap := h'', toks := s.toks + 1 } :=
      I.turnedNew (ch := [e, it]) (fun b ob hb q => (sb.2 b (fun z => hb (by simp [z]))).trans (hk b ob (fun z => hb (by simp [z])) (fun z => hb (by simp [z])) q)) hf (Nat.le_refl _) new
    refine ⟨.ref s.heap.objs.size, _, I1, rfl, ⟨_, x, rfl, I.hok.fresh (Nat.le_refl _), rfl, fun ys hy => by rw [I.list_inj hy hq]; exact hx⟩, ⟨⟨u, ?_⟩, hit'.at fun o q => (sb.2 it (Ne.symm hne)).trans q, hne⟩, fun b hb => ?_⟩
    · have e1 : ((i + 1 : Nat) : Int) = (i : Int) + 1 := by omega
      rw [e1]; exact he'
    · have hb' : b < s.heap.objs.size := by
        have e' : b = e ∨ b = it := by simpa using hb
        rcases e' with z | z
        · rw [z]; exact hel
        · rw [z]; exact hil
      rw [upd_ne (Nat.ne_of_lt hb')]
      exact (hf b hb).1
  done := by
    intro X hP hw hK hc i pins s σ H E I hf st hg
    subst hP hw hK
    obtain ⟨⟨old, he⟩, hit, hne⟩ := st
    obtain ⟨xs, hq, hx⟩ := hg
    obtain ⟨its, rv, p, hz⟩ := I.list hq
    obtain ⟨f0, f1, f2, f3, f4, f5⟩ := hf it (by simp)
    have hl := rv.length
    exact wpAny_pyNext_enum_end (I.ok.hd hc) he hit p.isList (by simp; omega) fun h' eb => ⟨rfl, I.turned (t' := s.toks) (fun b o hb q => eb b o hb q) f0 f1 f3 f4 f5⟩
  self := fun A i s Q E st h => let ⟨⟨_, he⟩, _⟩ := st; wpAny_pyIter_enum he h
def iEnum (K : PySem.W.Frag) (ta : TA) : TI := fun σ H R => ta σ H fun vs H1 => ∃ a xs, vs = [.ref a] ∧ SqL K H1 a xs ∧ R (Ite K a) H1
theorem pi_enum {X : Cx} {e : Expr} {ta : TA} {p pos tpos : Pos} {elts : List Expr} {kk : Nat} (hg : Gl X "enumerate") (hm : X.mg "enumerate" = none) (ha : PA X [e] ta) (hs : starEach [e] X.env = [(false, eval e X.env)] := by rfl) :
    PI X (.Tuple elts kk tpos) (.Call (.Name "enumerate" p) [e] [] pos) (iEnum X.K ta) := by
  constructor
  intro pins s σ H R I h
  refine Call_ (ld_blt I hg hm boot_enumerate (PyProof.Rows.callWith_type1 (thn (ha pos pins s σ H _ I h) fun us s1 ⟨vs, H1, I1, r1, q1⟩ => ?_) hs rfl))
  obtain ⟨a, xs, ex, hq, q⟩ := q1
  subst ex
  cases r1 with
  | cons r rr =>
    cases rr
    cases r
    obtain ⟨its, rv, p', hz⟩ := I1.list hq
    refine call_enumerate_list p'.isList fun h' he hit hsz hk => wpAny_pyIter_enum he ?_
    have I2 : Inv X pins σ H1 { s1 with heap := h' } := I1.kept (t' := s1.toks) hk
    refine ⟨s1.heap.objs.size + 1, [s1.heap.objs.size + 1, s1.heap.objs.size], _, _, H1, rfl, I2, turn_enum a (s1.heap.objs.size + 1) s1.heap.objs.size, ⟨⟨.none, he⟩, hit, Nat.succ_ne_self _⟩, fun b hb => ?_, q⟩
    have e' : b = s1.heap.objs.size + 1 ∨ b = s1.heap.objs.size := by simpa using hb
    have hle : s1.heap.objs.size ≤ b := by
      rcases e' with z | z
      · rw [z]; exact Nat.le_add_right _ _
      · rw [z]; exact Nat.le_refl _
    exact I1.fpOk hle (I1.hok.fresh hle)

theorem boot_zip5 : bootBuiltins "zip" = some (.type "zip") := by decide +kernel

def Itz (K : PySem.W.Frag) (a b : Addr) : It :=
  ⟨fun i H => ∃ (xs ys : List V) (x y : V), SqL K H a xs ∧ SqL K H b ys ∧ xs[i]? = some x ∧ ys[i]? = some y,
    fun i H v H' => ∃ T x y, v = .ref T ∧ H T = none ∧ H' = upd H T (.tup [x, y]) ∧ (∀ xs, SqL K H a xs → xs[i]? = some x) ∧ ∀ ys, SqL K H b ys → ys[i]? = some y,
    fun i H => ∃ xs ys : List V, SqL K H a xs ∧ SqL K H b ys ∧ (xs.length ≤ i ∨ ys.length ≤ i)⟩
def iZip (K : PySem.W.Frag) (ta : TA) : TI := fun σ H R => ta σ H fun vs H1 => ∃ a b xs ys, vs = [.ref a, .ref b] ∧ SqL K H1 a xs ∧ SqL K H1 b ys ∧ R (Itz K a b) H1
end L2

section 
namespace Bits
open PySem PyProof.Rows

end Bits
end 

section 
namespace TL
open PySem PySem.Builtin PySem.Builtin.Str PySem.StrLaws

abbrev tl (x : Str) : List Nat := x.cps.toList
theorem tl_append (x y : Str) : tl (x ++ y) = tl x ++ tl y := by
  show (x ++ y).cps.toList = _
  rw [Str.cps_append, Array.toList_append]
def pre (S l : List Nat) : Bool := l.take S.length == S

def spl (S : List Nat) : Nat → List Nat → List Nat → List (List Nat)
  | _, acc, [] => [acc]
  | 0, acc, c :: r => if pre S (c :: r) = true then acc :: spl S (S.length - 1) [] r else spl S 0 (acc ++ [c]) r
  | k + 1, acc, _ :: r => spl S k acc r

def par (S : List Nat) : List Nat → List Nat → Option (List Nat × List Nat)
  | _, [] => none
  | acc, c :: r => if pre S (c :: r) = true then some (acc, (c :: r).drop S.length) else par S (acc ++ [c]) r

def joinL (S : List Nat) : List (List Nat) → List Nat
  | [] => []
  | [p] => p
  | p :: q :: r => p ++ (S ++ joinL S (q :: r))
theorem tl_join (y : Str) : ∀ parts : List Str, tl (Str.join y parts) = joinL (tl y) (parts.map tl)
  | [] => rfl
  | [_] => rfl
  | x :: z :: r => by
    show tl (x ++ y ++ Str.join y (z :: r)) = tl x ++ (tl y ++ joinL (tl y) ((z :: r).map tl))
    rw [tl_append, tl_append, tl_join y (z :: r), List.append_assoc]
theorem join_eq (y : Str) (parts : List Str) : Txt.join y parts = Str.join y parts := glued_eq_join y parts

def numL (n : Nat) : List Nat := (Nat.toDigits 10 n).map Char.toNat
def wstep (st : List (List Nat) × List Nat) (c : Nat) : List (List Nat) × List Nat :=
  if Unicode.isSpace c = true then (if st.2 = [] then st else (st.1 ++ [st.2], [])) else (st.1, st.2 ++ [c])
def wfin (st : List (List Nat) × List Nat) : List (List Nat) := if st.2 = [] then st.1 else st.1 ++ [st.2]
end TL
end 

namespace L2
open PySem PySem.Spec PyProof.Rows

theorem strs_of_vals : ∀ {ys : List Str} {us : List Value}, Vals (ys.map V.str) us → StrsAre us ys
  | [], _, .nil => .nil
  | y :: ys, _, .cons r t => by
    obtain ⟨k, rfl⟩ := r
    exact .cons y k (strs_of_vals t)


def rNewStrs (ys : List Str) : Hp → VK → Prop := fun H Q => ∀ p, H p = none → Q (.ref p) (upd H p (.lst (ys.map V.str)))

section
variable {X : Cx} {pins : List (Addr × Obj)} {σ : St} {H : Hp} {s : Shared} {Q : VK}
end

section
variable {X : Cx}


theorem mt_join : MtR X "str.join" (fun x xs H Q => ∃ a p, ∃ ys : List Str, x = .str a ∧ xs = [.ref p] ∧ (SqL X.K H p (ys.map V.str) ∨ SqT X.K H p (ys.map V.str)) ∧
    (ys.map (·.length)).sum + ys.length * a.length ≤ 16777216 ∧ Q (.str (Txt.join a ys)) H) := by
  constructor
  intro pins s σ H x xs v us Q I rx rs h
  obtain ⟨a, p, ys, rfl, rfl, hp, hz, h⟩ := h
  obtain ⟨t, rfl⟩ := rx
  cases rs with
  | cons r1 rs =>
    cases rs
    cases r1
    rcases hp with hp | hp
    · obtain ⟨its, r, ⟨o, n, ho, hc, _, hd⟩, _⟩ := I.list hp
      exact PyProof.Rows.join_list (items := its.toArray) ⟨o, ho, hc, n, hd⟩ (by rw [List.toList_toArray]; exact strs_of_vals r) hz fun t' k => ⟨.str _, H, I.tok k, ⟨t', rfl⟩, h⟩
    · obtain ⟨its, r, ht, _⟩ := I.tuple hp
      exact PyProof.Rows.join_tuple (items := its.toArray) ht (by rw [List.toList_toArray]; exact strs_of_vals r) hz fun t' k => ⟨.str _, H, I.tok k, ⟨t', rfl⟩, h⟩


end

section
variable {X : Cx} {o e : Expr} {to te : TE}
def tM0 (r : V → List V → Hp → VK → Prop) (to : TE) : TE := fun σ H Q => to σ H fun x H1 => (∃ a, x = .str a) ∧ r x [] H1 Q
def tM1 (r : V → List V → Hp → VK → Prop) (to te : TE) : TE := fun σ H Q => to σ H fun x H1 => (∃ a, x = .str a) ∧ te σ H1 fun y H2 => r x [y] H2 Q
theorem pe_m1 {id : String} {name : Str} {apos pos : Pos} {r : V → List V → Hp → VK → Prop} (slot : Slot "str" name id) (ty : typeOf (.builtin id) = pure (.type "method_descriptor")) (rule : MtR X id r) (ho : PE X o to) (he : PE X e te)
    (hs : starEach [e] X.env = [(false, eval e X.env)] := by rfl) (hbase : attributeBase o name X.env (eval o X.env) = eval o X.env := by rfl) (hline : (apos.endLine == pos.line) = true := by rfl) :
    PE X (.Call (.Attribute o name apos) [e] [] pos) (tM1 r to te) := by
  constructor
  intro pins s σ H Q I h
  refine PySem.Call_method1 hbase hs hline (thn (ho pins s σ H _ I h) fun v s1 ⟨x, H1, I1, r1, q1⟩ => ?_)
  obtain ⟨⟨a, rfl⟩, q1⟩ := q1
  obtain ⟨t, rfl⟩ := _root_.id r1
  refine ⟨"str", _, F.plainAttrs_str, slot, ty, typeIs_str _ _ _, (fun _ e => nomatch e), Calls.callWith_builtin rfl (Calls.evalArgs_plain (Calls.spliced_cons ?_))⟩
  exact thn (he pins s1 σ H1 _ I1 q1) fun u s2 ⟨y, H2, I2, r2, q2⟩ => Calls.spliced_nil (rule pins s2 σ H2 _ [y] _ [u] Q I2 r1 (.cons r2 .nil) q2)

theorem pe_join {apos pos : Pos} (ho : PE X o to) (he : PE X e te) (hs : starEach [e] X.env = [(false, eval e X.env)] := by rfl) (hbase : attributeBase o "join" X.env (eval o X.env) = eval o X.env := by rfl) (hline : (apos.endLine == pos.line) = true := by rfl) :
    PE X (.Call (.Attribute o "join" apos) [e] [] pos) (tM1 (fun x xs H Q => ∃ a p, ∃ ys : List Str, x = .str a ∧ xs = [.ref p] ∧ (SqL X.K H p (ys.map V.str) ∨ SqT X.K H p (ys.map V.str)) ∧
      (ys.map (·.length)).sum + ys.length * a.length ≤ 16777216 ∧ Q (.str (Txt.join a ys)) H) to te) :=
  pe_m1 F.slot_str_join F.type_str_join mt_join ho he hs hbase hline
end
end L2

namespace L2
open PySem PySem.Spec PyProof.Rows

section
variable {X : Cx}
theorem op_le_str : OpR X (compareOp .LtE) (fun x y H Q => ∃ i j, x = .str i ∧ y = .str j ∧ Q (.bl (!decide (j.cps.toList < i.cps.toList))) H) := by
  constructor
  intro pins s σ H x y v u Q I rx ry h
  obtain ⟨i, j, rfl, rfl, q⟩ := h
  obtain ⟨t, rfl⟩ := rx
  obtain ⟨t', rfl⟩ := ry
  exact PySem.P.le_str (fin_bl I q rfl)
end


def clipS (n d : Nat) : Option Int → Int
  | none => (d : Int)
  | some i => max 0 (min (if i < 0 then i + (n : Int) else i) (n : Int))
def cutS (z : Str) (lo hi : Option Int) : Str :=
  ⟨((z.cps.toList.drop (HT.sIx z.length 0 lo)).take (HT.sIx z.length z.length hi - HT.sIx z.length 0 lo)).toArray⟩
def rSlS : V → Option Int → Option Int → Hp → VK → Prop := fun x lo hi H Q => ∃ z, x = .str z ∧ z.length ≤ sizeLine ∧ Q (.str (cutS z lo hi)) H
end L2

namespace Att
open PySem PySem.W PySem.Calls PyProof.Rows


theorem ints_of_wellAll {P : Params} {h : Heap} : ∀ (ns : List Int) (vs : List Value), WellAll P h vs (ns.map WData.int) → IntsAre vs ns := by
  intro ns
  induction ns with
  | nil =>
    intro vs w
    rw [List.map_nil] at w
    cases w
    exact .nil
  | cons n ns ih =>
    intro vs w
    rw [List.map_cons] at w
    cases w with
    | cons a b =>
      cases a
      exact .cons _ _ (ih _ b)

theorem script_of {l : OpenLaw} {n : Nat} (hn : l.most = some n) {P : Params} {h : Heap} {args : List WData} {vals : List Value}
    (hpre : l.row.toRowW.claim.pre args = true) (hwl : WellAll P h vals args) :
    ∃ a vs ns, vals = [Value.ref a] ∧ args = [WData.list (ns.map WData.int)] ∧ h.get? a = some { cls := .type "list", data := .seq vs.toArray } ∧ IntsAre vs ns ∧ ns.length ≤ n := by
  have hsh : WShape.hasAll [] args [.list .int] = true := (pre_splitW hpre).1
  have hc : l.pre.holds [] { args := args } = true := (pre_splitW hpre).2
  obtain ⟨d, r, rfl, h1, h2⟩ := hasAllW_cons hsh
  obtain rfl := hasAllW_nil h2
  obtain ⟨xs, rfl, h3⟩ := hasW_list h1
  obtain ⟨ns, rfl⟩ := items_int h3
  have hlen : ns.length ≤ n := by
    unfold OpenLaw.pre at hc
    have h4 : (WTm.not (.lt (.lit (.int (n : Int))) (.len (.arg 0)))).holds [] { args := [.list (ns.map .int)] } = true := by
      have h4 := (holds_andW hc).1
      rw [hn] at h4
      exact h4
    have h5 := condW_of h4 (w_not (w_lt w_lit (w_len_list (w_arg rfl))))
    rw [List.length_map] at h5
    refine Nat.le_of_not_lt fun q => ?_
    have q' : (n : Int) < ((ns.length : Nat) : Int) := by omega
    first
      | (rw [decide_eq_true q'] at h5; exact absurd h5 (by decide))
      | (simp at h5; omega)
  cases hwl with
  | cons w1 w2 =>
    cases w2
    cases w1 with
    | list ho hall => exact ⟨_, _, ns, rfl, rfl, ho, ints_of_wellAll ns _ hall, hlen⟩

theorem post_true (l : OpenLaw) (args : List WData) : l.row.toRowW.claim.post args (.bool true) args = true :=
  postW_of (r := l.row.toRowW) (X := (true == true))
    (show WShape.has [] (.bool true) .bool = true by first | rfl | decide | simp [WShape.has, WShape.arms, WShape.armsAll])
    (show (WTm.eq .res (.lit (.bool true))).value [] { args := args, res := some (.bool true), after := args } = some (.bool (true == true)) from w_eq_bool (w_res rfl) w_lit) rfl


theorem attach_call {l : OpenLaw} {n : Nat} {q : Program} {loose : List Str} {XP : (Str → Option Value) → Heap → Prop} {YP : World → Heap → Prop} {d : DefRec}
    (hn : l.most = some n) (hdf : d.params.defaults = [])
    (call : ∀ (w : World) (s₀ s₁ : Shared) (mg mb : Str → Option Value) (fa : Addr) (o : Obj) (pm cd doc : Value) (a : Addr) (vs : List Value) (ns : List Int),
      Ground q loose [] XP w s₀ mg mb s₁.heap → YP w s₁.heap →
      s₁.heap.get? fa = some o → o.data = .func (docDef d.name d.params d.body d.scope pm cd doc) → s₁.heap.CodeRec cd d.name → mg d.name = some (.ref fa) →
      s₁.heap.get? a = some { cls := .type "list", data := .seq vs.toArray } → IntsAre vs ns → ns.length ≤ n → s₁.gens = #[] →
      codeAny (model l.prog w) callerA (.call (.ref fa) ⟨[.ref a], []⟩) (fun r s' => r = .ok (.ret (.bool true)) ∧ OldK s₁.heap s'.heap ∧ s'.os = s₁.os ∧ AllBare s'.gens) s₁) :
    WalkO q loose XP YP l.row.toRowW d [] (fun f vs => PySem.call f vs) := by
  intro w s₀ s₁ mg mb G Y fa o pm cd doc dV kV ho hd hcd hD hmg hg args vals as hpre hlay hrd hwl hlo
  obtain rfl : dV = .none := Dflts.none hD hdf
  obtain rfl : kV = .none := Dflts.noKw hD
  obtain ⟨a, vs, ns, rfl, rfl, hobj, hints, hlen⟩ := script_of hn hpre hwl
  refine enter_call (codeAny_mono (call w s₀ s₁ mg mb fa o pm cd doc a vs ns G Y ho (fd_plain hd) hcd hmg hobj hints hlen hg) fun r s' hq => ?_)
  obtain ⟨rfl, h2, h3, h4⟩ := hq
  exact ⟨.inl ⟨.bool true, .bool true, [], rfl, fun _ => rfl, .bool true, post_true l _, fun _ => ⟨List.Pairwise.nil, fun _ hm => (nomatch hm)⟩⟩, h2, h3, h4⟩


section
variable {prog : Program} {w : World} {A : Around} {E : Value → Shared → Prop} {s : Shared} {K : Frag}


def noObjs (h : Heap) : Heap := { h with objs := #[] }
def ledger (h : Heap) (L d : Addr) : List (Addr × Obj) := (List.range h.objs.size).filterMap fun a => if a = L ∨ a = d then none else (h.get? a).map fun o => (a, o)
end
end Att

namespace L2
open PySem PySem.Spec PyProof.Rows

theorem vals_ints : ∀ {vs : List Value} {ns : List Int}, IntsAre vs ns → Vals (ns.map V.int) vs
  | _, _, .nil => .nil
  | _, _, .cons n t h => .cons ⟨t, rfl⟩ (vals_ints h)


def Only (H : Hp) : Prop := ∀ b, H b = none ∨ ∃ o xs, H b = some (.frz o (.lst xs))


theorem law_call {P : Program} {w : World} {K : PySem.W.Frag} {mg mb : Str → Option Value} {CX : CXT} {k : Nat} {fa a : Addr} {fd : FuncData} {x : Str} {sp : Sp} {s₁ : Shared} {vs : List Value} {ns : List Int}
    (KX : K.In s₁.heap) (hns : s₁.heap.Ns mainGlobals mg) (hb : s₁.heap.Ns builtinsNs mb) (hbb : ∀ x : Str, x ≠ "__name__" → mb x = bootBuiltins x) (hlim : s₁.heap.NoLimit) (hg : s₁.gens = #[])
    (ha : s₁.heap.get? a = some { cls := .type "list", data := .seq vs.toArray }) (hi : IntsAre vs ns) (hl : ns.length ≤ sizeLine) (hr : Room k callerA)
    (F : ∀ base : Heap, K.In base → base.Ns mainGlobals mg → FnOk P w K mg base CX k fa fd [x] sp) (hbind : ∀ (s : Shared) (u : Value), BindsTo s fd ⟨[u], []⟩ [(x, u)])
    (hsp : ∀ H : Hp, Only H → SqL K H a (ns.map V.int) → sp [.ref a] H (fun v _ => v = .bl true) fun _ _ _ => False)
    (hCX : ∀ H e s', CX [] H s₁ (fun _ _ _ => False) e s' → False) :
    codeAny (model P w) callerA (.call (.ref fa) ⟨[.ref a], []⟩) (fun r s' => r = .ok (.ret (.bool true)) ∧ OldK s₁.heap s'.heap ∧ s'.os = s₁.os ∧ AllBare s'.gens) s₁ := by
  have rv := vals_ints hi
  have lenV := hi.length
  -- from an abstract heap in which nothing but the script may be tracked
  have core : ∀ H : Hp, Only H → SqL K H a (ns.map V.int) → HOk P w H s₁.heap → (∀ b, H b ≠ none → b = a) → (H a ≠ none → K.lookup a = none) →
      codeAny (model P w) callerA (.call (.ref fa) ⟨[.ref a], []⟩) (fun r s' => r = .ok (.ret (.bool true)) ∧ OldK s₁.heap s'.heap ∧ s'.os = s₁.os ∧ AllBare s'.gens) s₁ := by
    intro H hO hS hok hA hK
    have base_of : ∀ {b : Addr} {o : Obj}, s₁.heap.get? b = some o → H b = none → (hidT s₁.heap H).get? b = some o := fun e n => hidT_get e n
    have noA : ∀ {b : Addr} {o : Obj} {es : Array DictEntry} {ep : Nat}, s₁.heap.get? b = some o → o.data = .dict es ep → H b = none := fun {b o es ep} e d => by
      cases q : H b with
      | none => rfl
      | some u =>
        have e' : b = a := hA b (by rw [q]; simp)
        subst e'
        rw [ha] at e; cases e
        have d' : Data.seq vs.toArray _ = Data.dict es ep := d
        cases d'
    have nsK : ∀ {b : Addr} {m : Str → Option Value}, s₁.heap.Ns b m → (hidT s₁.heap H).Ns b m := fun {b m} ⟨o, es, ep, e, d, r⟩ => ⟨o, es, ep, base_of e (noA e d), d, r⟩
    have hKb : K.In (hidT s₁.heap H) := fun b o e => base_of (KX b o e) (by
      cases q : H b with
      | none => rfl
      | some u =>
        have e' : b = a := hA b (by rw [q]; simp)
        subst e'
        rw [hK (by rw [q]; simp)] at e; cases e)
    have hM : Mod K mg (hidT s₁.heap H) := ⟨hKb, nsK hns, ⟨mb, nsK hb, hbb⟩, let ⟨mc, h1, h2⟩ := hlim; ⟨mc, nsK h1, h2⟩⟩
    have e0 : Env0 P w K mg (hidT s₁.heap H) callerA [] s₁ H := ⟨rfl, hM, fun b o e => of_hidT e, Nat.le_of_eq (hidT_size _ _), trivial, fun b hb => absurd (show b ∈ ([] : List Addr) from hb) (by simp), hok, .of_eq hg⟩
    refine codeAny_mono ((F _ hKb (nsK hns)).run callerA [] s₁ H ⟨[.ref a], []⟩ [.ref a] [.ref a] _ _ hr e0 (hbind s₁ (.ref a)) (.cons rfl .nil) (hsp H hO hS)) fun r s' h => ?_
    cases r with
    | error e => exact (hCX H e s' h).elim
    | ok fl =>
      cases fl with
      | next => exact False.elim h
      | brk => exact False.elim h
      | cont => exact False.elim h
      | ret u =>
        obtain ⟨v, H', os, bare, un, hok', r', q⟩ := h
        have q' : v = .bl true := q
        subst q'
        obtain rfl : u = Value.bool true := r'
        refine ⟨rfl, OldK.of_keep fun b o e => ?_, os, bare⟩
        cases q : H b with
        | none => exact un.keep b o e q (by intro z; exact absurd (show b ∈ ([] : List Addr) from z) (by simp)) (by simp)
        | some u =>
          rcases hO b with z | ⟨ob, xs, z⟩
          · rw [q] at z; cases z
          · have z2 := un.frzs b ob _ z
            obtain ⟨e1, _⟩ := hok b _ z
            obtain ⟨e2, _⟩ := hok' b _ z2
            rw [e] at e1; cases e1
            exact e2
  cases hk : K.lookup a with
  | some o =>
    -- the script is one of the module's own objects
    have e := KX a o hk
    rw [ha] at e
    cases e
    refine core (fun _ => none) (fun _ => .inl rfl) (.inr ⟨_, vs.toArray, _, hk, rfl, rfl, rfl, by rw [List.size_toArray, lenV]; exact hl, by simpa using rv⟩) (fun b u z => by have z' : (none : Option HO) = some u := z; cases z') (fun b z => absurd rfl z) fun z => absurd rfl z
  | none =>
    refine core (fun b => if b = a then some (.frz { cls := .type "list", data := .seq vs.toArray } (.lst (ns.map V.int))) else none) (fun b => ?_) (.inl (.inr ⟨{ cls := .type "list", data := .seq vs.toArray }, if_pos rfl⟩)) (fun b u z => ?_) (fun b z => ?_) fun _ => hk
    · by_cases hb : b = a
      · exact .inr ⟨_, _, if_pos hb⟩
      · exact .inl (if_neg hb)
    · by_cases hb : b = a
      · have z' := (if_pos hb).symm.trans z
        cases z'
        subst hb
        exact ⟨ha, by rw [List.length_map]; exact hl, vs, _, rv, ha⟩
      · have z' := (if_neg hb).symm.trans z
        cases z'
    · by_cases hb : b = a
      · exact hb
      · exact absurd (if_neg hb) z
end L2

namespace L2
open PySem PySem.Spec PyProof.Rows

abbrev KOf {K : PySem.W.Frag} {h : Heap} (_ : K.In h) : PySem.W.Frag := K


theorem walk_of {l : PySem.W.OpenLaw} {n k : Nat} {q : Program} {loose : List Str} {XP : (Str → Option Value) → Heap → Prop} {YP : World → Heap → Prop} {d : DefRec} {K : Params → PySem.W.Frag} {CX : World → CXT} {sp : World → Sp} {x : Str}
    (hn : l.most = some n) (hn2 : n ≤ sizeLine) (hdf : d.params.defaults = []) (hr : Room k callerA)
    (hY : ∀ (w : World) (h : Heap), YP w h → (K w.params).In h)
    (F : ∀ (w : World) (mg : Str → Option Value) (fa : Addr) (h : Heap), (K w.params).In h → h.Ns mainGlobals mg → mg d.name = some (.ref fa) →
      ∃ fd : FuncData, (∀ (s : Shared) (u : Value), BindsTo s fd ⟨[u], []⟩ [(x, u)]) ∧
        ∀ base : Heap, (K w.params).In base → base.Ns mainGlobals mg → FnOk l.prog w (K w.params) mg base (CX w) k fa fd [x] (sp w))
    (hsp : ∀ (w : World) (H : Hp) (a : Addr) (ns : List Int), ns.length ≤ n → Only H → SqL (K w.params) H a (ns.map V.int) → sp w [.ref a] H (fun v _ => v = .bl true) fun _ _ _ => False)
    (hCX : ∀ (w : World) (H : Hp) (s : Shared) (e : Value) (s' : Shared), CX w [] H s (fun _ _ _ => False) e s' → False) :
    PySem.W.WalkO q loose XP YP l.row.toRowW d [] (fun f vs => PySem.call f vs) := by
  refine Att.attach_call hn hdf fun w s₀ s₁ mg mb fa o pm cd doc a vs ns G Y ho hd hcd hmg hobj hints hlen hg => ?_
  have KX := hY w _ Y
  obtain ⟨fd, hb, hF⟩ := F w mg fa _ KX G.T.g hmg
  exact law_call KX G.T.g G.T.b G.T.builtins G.T.nolimit hg hobj hints (Nat.le_trans hlen hn2) hr hF hb (fun H hO hS => hsp w H a ns hlen hO hS) fun H e s' => hCX w H s₁ e s'

end L2




namespace L2
open PySem PySem.Spec PyProof.Rows



def inClass (s : Stmt) (j : Nat) : Stmt := match s with
  | .ClassDef _ _ _ body _ _ _ _ _ _ _ => body.getD j (.Pass ⟨0, 0, 0, 0⟩)
  | _ => .Pass ⟨0, 0, 0, 0⟩
def defArgs (s : Stmt) : Arguments := match s with
  | .FunctionDef _ a _ _ _ _ _ _ _ _ => a
  | _ => { posonlyargs := [], args := [], vararg := none, kwonlyargs := [], kw_defaults := [], kwarg := none, defaults := [] }
def defBody (s : Stmt) : List Stmt := match s with
  | .FunctionDef _ _ b _ _ _ _ _ _ _ => b
  | _ => []
def defScope (s : Stmt) : Scope := match s with
  | .FunctionDef _ _ _ _ _ _ sc _ _ _ => sc
  | _ => { kind := .function, names := [], isGenerator := false, isCoroutine := false }


abbrev CX0 : CXT := fun _ _ _ _ _ _ => False
abbrev E0 : XK := fun _ _ _ => False
theorem pass0 {X : Cx} : Passes CX0 X E0 := fun _ _ _ _ _ _ _ h => h.elim


structure Fun (K : PySem.W.Frag) (x qual : Str) (st : Stmt) (f : Addr) (fd : FuncData) : Prop where
  ex : ∃ (oc : Value) (od : Option Addr) (kV doc pm : Value) (an : Option Addr) (cdv ct : Value) (osl : Array (Option Value)),
    fd = PySem.W.fnOf x qual (defArgs st) (defBody st) (defScope st) .none kV doc pm an cdv ct ∧ K.lookup f = some ⟨oc, od, .func fd, osl⟩ ∧ PySem.W.codeIn K cdv qual = true
  kp : PySem.W.keepIn K (.ref f) = true
section
variable {P : Program} {w : World} {K : PySem.W.Frag} {mg : Str → Option Value} {base : Heap}

theorem Fun.ok {x qual : Str} {st : Stmt} {f : Addr} {fd : FuncData} {N ps : List Str} {k : Nat} {sp : Sp} (F : Fun K x qual st f fd) (S : FnScope N ps (defScope st)) (len : ∀ vs H Q E, sp vs H Q E → vs.length = ps.length)
    (hbody : ∀ (cdv : Value) (A : Around) (outer : List Env) (s : Shared) (H : Hp) (vs : List V) (Q : VK) (E : XK), Room k (A.deeper (envOfC qual (defScope st) s.heap.objs.size f cdv)) → sp vs H Q E →
      ∃ t, PSs (cxOf CX0 P w K mg base N qual (defScope st) f cdv A outer s H E).nox (defBody st) t ∧ t { nx := fun _ H' => Q .non H', rt := Q } (start N vs) H) : FnOk P w K mg base CX0 (k + 1) f fd ps sp := by
  obtain ⟨oc, od, kV, doc, pm, an, cdv, ct, osl, rfl, lk, hcd⟩ := F.ex
  refine fn_of lk hcd S len fun A outer s H vs Q E hr hsp => ?_
  obtain ⟨t, h, q⟩ := hbody cdv A outer s H vs Q E hr hsp
  exact ⟨t, h.nox, q⟩

theorem Fun.binds {x qual : Str} {st : Stmt} {f : Addr} {fd : FuncData} {ps : List Str} (F : Fun K x qual st f fd)
    (h : ∀ (kV doc pm : Value) (an : Option Addr) (cdv ct : Value) (us : List Value), us.length = ps.length → bindArgs (PySem.W.fnOf x qual (defArgs st) (defBody st) (defScope st) .none kV doc pm an cdv ct) ⟨us, []⟩ = pure (ps.zip us)) : Binds K fd ps [] := by
  obtain ⟨oc, od, kV, doc, pm, an, cdv, ct, osl, rfl, lk, hcd⟩ := F.ex
  exact .all (h kV doc pm an cdv ct)
theorem fun_mk {x qual : Str} {st : Stmt} {f : Addr} {oc : Value} {od an : Option Addr} {osl : Array (Option Value)} {kV doc pm cdv ct : Value} (l : K.lookup f = some ⟨oc, od, .func (PySem.W.fnOf x qual (defArgs st) (defBody st) (defScope st) .none kV doc pm an cdv ct), osl⟩)
    (c : PySem.W.codeIn K cdv qual = true) (k : PySem.W.keepIn K (.ref f) = true) : Fun K x qual st f (PySem.W.fnOf x qual (defArgs st) (defBody st) (defScope st) .none kV doc pm an cdv ct) := ⟨⟨oc, od, kV, doc, pm, an, cdv, ct, osl, rfl, l, c⟩, k⟩
end
section
variable {X : Cx}
theorem pv (i : Nat) {x : Str} {pos : Pos} (hN : X.N[i]? = some x := by rfl) (hv : Vis X.env.scope x := by first | exact Or.inl rfl | exact Or.inr (Or.inl rfl) | exact Or.inr (Or.inr rfl)) (hd : (x == ("__debug__" : Str)) = false := by decide)
    (hcd : (x == ("__classdict__" : Str)) = false := by decide) : PE X (.Name x pos) (tVar i) := pe_var hN hv hd hcd

end


theorem iteF {A B : Prop} (h : B) : if false = true then A else B := by
  rw [if_neg Bool.false_ne_true]
  exact h
theorem iteT {A B : Prop} (h : A) : if true = true then A else B := by
  rw [if_pos rfl]
  exact h
theorem ite2 {c A B : Prop} [Decidable c] (h1 : c → A) (h2 : ¬ c → B) : if c then A else B := by
  by_cases h : c
  · rw [if_pos h]
    exact h1 h
  · rw [if_neg h]
    exact h2 h
theorem iteNS {c A B : Prop} [Decidable c] (hc : c) (h : B) : if (!decide c) = true then A else B := by
  rw [decide_eq_true hc]
  exact iteF h



def Same (H H' : Hp) : Prop := ∀ b o, H b = some o → H' b = some o
theorem Same.refl (H : Hp) : Same H H := fun _ _ h => h
theorem Same.trans {H H1 H2 : Hp} (a : Same H H1) (b : Same H1 H2) : Same H H2 := fun c o h => b c o (a c o h)
theorem Same.free {H H' : Hp} (e : Same H H') {l : Addr} (h : H' l = Option.none) : H l = Option.none := by
  cases q : H l with
  | none => rfl
  | some o =>
    rw [e l o q] at h
    cases h
theorem Same.seq {K : PySem.W.Frag} {H H' : Hp} {a : Addr} {xs : List V} (e : Same H H') (h : SqL K H a xs) : SqL K H' a xs := by
  rcases h with (h | ⟨o, h⟩) | h
  · exact .inl (.inl (e _ _ h))
  · exact .inl (.inr ⟨o, e _ _ h⟩)
  · exact .inr h


section
variable {κ : Type} [DecidableEq κ]
end

end L2

set_option Elab.async false
set_option linter.all false
set_option maxRecDepth 100000

namespace L2
open PySem PySem.Spec PyProof.Rows
section
variable {X : Cx}

def rIsI (K : PySem.W.Frag) : List V → Hp → VK → Prop := fun vs H Q => ∃ x n t b, vs = [x, .ty n] ∧ TyOf K H x t ∧ PySem.W.kitOne K t (.type n) = some b ∧ Q (.bl b) H
theorem call_isinst : CallR X (.builtin "isinstance") (rIsI X.K) := by
  constructor
  intro pins s σ H xs us Q I r h
  obtain ⟨x, n, t, b, rfl, ty, e, q⟩ := h
  cases r with
  | cons r1 rr =>
    cases rr with
    | cons r2 rr =>
      cases rr
      cases r2
      exact isinst_ok I r1 ty e fun tk => ⟨.bl b, H, I.tok tk, rfl, q⟩

end


theorem lc_str_map {x : Str} {g : TG} {tt : TT} {te : TE} {vs : List Nat} {σ : St} {H1 : Hp} {D : Addr} {Qd : Hp → Prop} (f : Nat → V) (hz : x.cps.size < sizeLine)
    (hs : ∀ c H (R : VK) (F : Hp → Prop), c ∈ x.cps.toList → R (f c) H → g (.str ⟨#[c]⟩) (wipe σ vs) H fun σ2 H2 => wipe σ2 vs = wipe σ vs ∧ tt σ2 H2 fun b H3 => if b = true then te σ2 H3 R else F H3)
    (hd : Qd (upd H1 D (.lst (x.cps.toList.map f)))) :
    ∃ W : Nat → Nat → Hp → Prop, (∃ m, W 0 m (upd H1 D (.lst []))) ∧ ∀ i m H, W i m H →
      ((Its x).stop i H ∧ Qd H) ∨ ((Its x).go i H ∧ ∃ Nx : Hp → Prop, (∀ H', Nx H' → ∃ m', m' < m ∧ W (i + 1) m' H') ∧ ∀ v H', (Its x).yld i H v H' → g v (wipe σ vs) H' fun σ2 H2 => wipe σ2 vs = wipe σ vs ∧ tt σ2 H2 fun b H3 =>
        if b = true then te σ2 H3 fun y H4 => ∃ acc, H4 D = some (.lst acc) ∧ acc.length < sizeLine ∧ Nx (upd H4 D (.lst (acc ++ [y]))) else Nx H3) := by
  refine ⟨fun i m H => m = x.cps.size - i ∧ i ≤ x.cps.size ∧ H = upd H1 D (.lst ((x.cps.toList.take i).map f)), ⟨x.cps.size, rfl, Nat.zero_le _, rfl⟩, ?_⟩
  rintro i m H ⟨rfl, hi, rfl⟩
  by_cases hlt : i < x.cps.size
  · refine .inr ⟨hlt, fun H => H = upd H1 D (.lst ((x.cps.toList.take (i + 1)).map f)), fun H' p' => ⟨x.cps.size - (i + 1), by omega, rfl, hlt, p'⟩, fun v H' y => ?_⟩
    obtain ⟨rfl, c, hc, rfl⟩ := y
    have hc' : x.cps.toList[i]? = some c := by simpa using hc
    refine hs c _ _ _ (List.mem_of_getElem? hc') ⟨_, upd_same, ?_, ?_⟩
    · rw [List.length_map, List.length_take]
      omega
    · rw [upd_upd, List.take_succ, hc', List.map_append]
      rfl
  · have e : i = x.cps.size := by omega
    subst e
    refine .inl ⟨Nat.le_refl _, ?_⟩
    have : x.cps.toList.take x.cps.size = x.cps.toList := List.take_of_length_le (by simp)
    rw [this]
    exact hd


theorem bt_len : bootBuiltins "len" = some (.builtin "len") := by decide +kernel
theorem bt_abs : bootBuiltins "abs" = some (.builtin "abs") := by decide +kernel
theorem bt_max : bootBuiltins "max" = some (.builtin "max") := by decide +kernel
theorem bt_min : bootBuiltins "min" = some (.builtin "min") := by decide +kernel
theorem bt_isinstance : bootBuiltins "isinstance" = some (.builtin "isinstance") := by decide +kernel
theorem bt_all : bootBuiltins "all" = some (.builtin "all") := by decide +kernel
theorem bt_sorted : bootBuiltins "sorted" = some (.builtin "sorted") := by decide +kernel
theorem bt_int : bootBuiltins "int" = some (.type "int") := by decide +kernel
theorem bt_str : bootBuiltins "str" = some (.type "str") := by decide +kernel
theorem bt_bool : bootBuiltins "bool" = some (.type "bool") := by decide +kernel
theorem bt_list : bootBuiltins "list" = some (.type "list") := by decide +kernel
theorem bt_tuple : bootBuiltins "tuple" = some (.type "tuple") := by decide +kernel
end L2

set_option Elab.async false
set_option linter.all false
set_option maxRecDepth 100000

namespace My
open PySem PySem.Spec PyProof.Rows L2


structure Def (K : PySem.W.Frag) (mg : Str → Option Value) (x : Str) (st : Stmt) (fa : Addr) (fd : FuncData) : Prop where
  mg : mg x = some (.ref fa)
  fn : Fun K x x st fa fd


theorem same_new {H : Hp} {p : Addr} {o : HO} (h : H p = none) : Same H (upd H p o) := fun b u e => by
  rw [upd_ne (ne_of_none e h)]; exact e
def Bag (H : Hp) (b : Addr) : Prop := ∃ g x : Int, H b = some (.lst [.int g, .int x]) ∧ 0 ≤ g ∧ 0 ≤ x ∧ x < 2147483648

def Eff (b : Addr) (H H' : Hp) : Prop := Bag H' b ∧ ∀ c o, c ≠ b → H c = some o → H' c = some o
theorem Bag.same {H H' : Hp} {b : Addr} (h : Bag H b) (s : Same H H') : Bag H' b := by
  obtain ⟨g, x, e, r⟩ := h
  exact ⟨g, x, s _ _ e, r⟩
theorem Bag.eff {H : Hp} {b : Addr} (h : Bag H b) {H' : Hp} (s : Same H H') : Eff b H H' := ⟨h.same s, fun c o _ e => s c o e⟩
theorem Eff.trans {H H1 H2 : Hp} {b : Addr} (h : Eff b H H1) (h' : Eff b H1 H2) : Eff b H H2 := ⟨h'.1, fun c o n e => h'.2 c o n (h.2 c o n e)⟩
theorem Eff.same {H H1 H2 : Hp} {b : Addr} (h : Eff b H H1) (s : Same H1 H2) : Eff b H H2 := h.trans (h.1.eff s)
theorem Bag.ne {H : Hp} {b p : Addr} (h : Bag H b) (e : H p = none) : b ≠ p := by
  obtain ⟨g, x, e1, _⟩ := h
  exact ne_of_none e1 e
theorem Bag.neT {H : Hp} {b p : Addr} {xs : List V} (h : Bag H b) (e : H p = some (.tup xs)) : p ≠ b := by
  obtain ⟨g, x, e1, _⟩ := h
  exact ne_of e e1 (by intro z; cases z)
theorem Eff.free {H H' : Hp} {b p : Addr} (h : Eff b H H') (hb : Bag H b) (e : H' p = none) : H p = none := by
  cases q : H p with
  | none => rfl
  | some o =>
    by_cases z : p = b
    · subst z
      obtain ⟨g, x, e1, _⟩ := h.1
      rw [e1] at e; cases e
    · rw [h.2 p o z q] at e; cases e


def Tyd (H : Hp) : V → Prop
  | .non => True
  | .bl _ => True
  | .int _ => True
  | .str s => s.length ≤ 1000
  | .ref a => (∃ xs, H a = some (.lst xs)) ∨ (∃ xs, H a = some (.tup xs))
  | _ => False
theorem Tyd.same {H H' : Hp} {v : V} (h : Tyd H v) (s : Same H H') : Tyd H' v := by
  cases v with
  | ref a =>
    rcases h with ⟨xs, e⟩ | ⟨xs, e⟩
    · exact .inl ⟨xs, s _ _ e⟩
    · exact .inr ⟨xs, s _ _ e⟩
  | _ => exact h
def tyN (H : Hp) : V → String
  | .non => "NoneType"
  | .bl _ => "bool"
  | .int _ => "int"
  | .str _ => "str"
  | .ref a => match H a with
    | some (.lst _) => "list"
    | _ => "tuple"
  | _ => ""
theorem Tyd.ty {K : PySem.W.Frag} {H : Hp} {v : V} (h : Tyd H v) : TyOf K H v (.type (tyN H v)) := by
  cases v with
  | ref a =>
    rcases h with ⟨xs, e⟩ | ⟨xs, e⟩
    · have z : tyN H (.ref a) = "list" := by show (match H a with | some (.lst _) => "list" | _ => "tuple") = _; rw [e]
      rw [z]; exact .lst e
    · have z : tyN H (.ref a) = "tuple" := by show (match H a with | some (.lst _) => "list" | _ => "tuple") = _; rw [e]
      rw [z]; exact .tup e
  | non => exact .non
  | bl b => exact .bl b
  | int i => exact .int i
  | str x => exact .str x
  | byt _ => exact h.elim
  | flt _ => exact h.elim
  | ty _ => exact h.elim


def instB (H : Hp) (v : V) (n : String) : Bool := decide (tyN H v = n) || (decide (n = "int") && decide (tyN H v = "bool"))
def okTy (n : String) : Bool := decide (n = "int") || decide (n = "bool") || decide (n = "str") || decide (n = "list") || decide (n = "tuple")
theorem kit_T (K : PySem.W.Frag) {H : Hp} {v : V} (h : Tyd H v) {n : String} (hn : okTy n = true) : PySem.W.kitOne K (.type (tyN H v)) (.type n) = some (instB H v n) := by
  have hv : tyN H v = "NoneType" ∨ tyN H v = "bool" ∨ tyN H v = "int" ∨ tyN H v = "str" ∨ tyN H v = "list" ∨ tyN H v = "tuple" := by
    cases v with
    | ref a =>
      rcases h with ⟨xs, e⟩ | ⟨xs, e⟩
      · have z : tyN H (.ref a) = "list" := by show (match H a with | some (.lst _) => "list" | _ => "tuple") = _; rw [e]
        simp [z]
      · have z : tyN H (.ref a) = "tuple" := by show (match H a with | some (.lst _) => "list" | _ => "tuple") = _; rw [e]
        simp [z]
    | non => exact .inl rfl
    | bl b => exact .inr (.inl rfl)
    | int i => exact .inr (.inr (.inl rfl))
    | str x => exact .inr (.inr (.inr (.inl rfl)))
    | byt _ => exact h.elim
    | flt _ => exact h.elim
    | ty _ => exact h.elim
  have hn' : n = "int" ∨ n = "bool" ∨ n = "str" ∨ n = "list" ∨ n = "tuple" := by
    simp only [okTy, Bool.or_eq_true, decide_eq_true_eq] at hn
    rcases hn with (((h | h) | h) | h) | h
    · exact .inl h
    · exact .inr (.inl h)
    · exact .inr (.inr (.inl h))
    · exact .inr (.inr (.inr (.inl h)))
    · exact .inr (.inr (.inr (.inr h)))
  unfold instB
  rcases hv with e | e | e | e | e | e <;> rw [e] <;> rcases hn' with rfl | rfl | rfl | rfl | rfl <;> rfl
def rIsT : List V → Hp → VK → Prop := fun vs H Q => ∃ x n, vs = [x, .ty n] ∧ Tyd H x ∧ okTy n = true ∧ Q (.bl (instB H x n)) H
theorem call_isT {X : Cx} : CallR X (.builtin "isinstance") rIsT := by
  constructor
  intro pins s σ H xs us Q I r h
  obtain ⟨x, n, rfl, ty, hn, q⟩ := h
  exact call_isinst pins s σ H _ us Q I r ⟨x, n, _, _, rfl, ty.ty, kit_T _ ty hn, q⟩
theorem instB_ref {H : Hp} {a : Addr} {n : String} (h : Tyd H (.ref a)) (h1 : n ≠ "list") (h2 : n ≠ "tuple") : instB H (.ref a) n = false := by
  unfold instB
  rcases h with ⟨xs, e⟩ | ⟨xs, e⟩
  · have z : tyN H (.ref a) = "list" := by show (match H a with | some (.lst _) => "list" | _ => "tuple") = _; rw [e]
    rw [z, decide_eq_false (Ne.symm h1), decide_eq_false (show ¬ ("list" = "bool") by decide)]; simp
  · have z : tyN H (.ref a) = "tuple" := by show (match H a with | some (.lst _) => "list" | _ => "tuple") = _; rw [e]
    rw [z, decide_eq_false (Ne.symm h2), decide_eq_false (show ¬ ("tuple" = "bool") by decide)]; simp
def wholeV : V → Bool
  | .int _ => true
  | _ => false
def wordV : V → Bool
  | .str s => decide (1 ≤ s.length) && decide (s.length ≤ 8) && s.cps.toList.all fun c => decide (97 ≤ c) && decide (c ≤ 122)
  | _ => false
theorem inst_str {H : Hp} {v : V} (h : Tyd H v) : (∃ s, v = .str s ∧ s.length ≤ 1000 ∧ instB H v "str" = true) ∨ (instB H v "str" = false ∧ wordV v = false) := by
  cases v with
  | str s => exact .inl ⟨s, rfl, h, rfl⟩
  | ref a => exact .inr ⟨instB_ref h (by decide) (by decide), rfl⟩
  | byt _ => exact h.elim
  | flt _ => exact h.elim
  | ty _ => exact h.elim
  | _ => exact .inr ⟨rfl, rfl⟩
theorem inst_int {H : Hp} {v : V} (h : Tyd H v) : (∃ i, v = .int i ∧ instB H v "int" = true ∧ instB H v "bool" = false) ∨ (∃ b, v = .bl b ∧ instB H v "int" = true ∧ instB H v "bool" = true) ∨ (instB H v "int" = false ∧ instB H v "bool" = false ∧ wholeV v = false) := by
  cases v with
  | int i => exact .inl ⟨i, rfl, rfl, rfl⟩
  | bl i => exact .inr (.inl ⟨i, rfl, rfl, rfl⟩)
  | ref a => exact .inr (.inr ⟨instB_ref h (by decide) (by decide), instB_ref h (by decide) (by decide), rfl⟩)
  | byt _ => exact h.elim
  | flt _ => exact h.elim
  | ty _ => exact h.elim
  | _ => exact .inr (.inr ⟨rfl, rfl, rfl⟩)


theorem at_all {xs : List V} (P : V → Prop) (h : ∀ x ∈ xs, P x) {i : Int} (h0 : 0 ≤ i) (h1 : i < (xs.length : Int)) : ∃ v, atI xs i = some v ∧ P v := by
  have hl : i.toNat < xs.length := by omega
  have e : xs[i.toNat]? = some xs[i.toNat] := by simp [hl]
  refine ⟨xs[i.toNat], ?_, h _ (List.getElem_mem _)⟩
  have q := atI_nat e
  have z : ((i.toNat : Nat) : Int) = i := by omega
  rw [z] at q
  exact q


abbrev wordB (z : Str) : Bool := wordV (.str z)
structure WordS (z : Str) : Prop where
  lo : 1 ≤ z.length
  hi : z.length ≤ 8
  all : ∀ c ∈ z.cps.toList, 97 ≤ c ∧ c ≤ 122
theorem WordS.b {z : Str} (h : WordS z) : wordB z = true := by
  show (decide (1 ≤ z.length) && decide (z.length ≤ 8) && z.cps.toList.all fun c => decide (97 ≤ c) && decide (c ≤ 122)) = true
  rw [decide_eq_true h.lo, decide_eq_true h.hi]
  simp only [Bool.true_and, List.all_eq_true, Bool.and_eq_true, decide_eq_true_eq]
  exact h.all

def isVal (k : Str) (v : V) : Bool :=
  if k = "number" then (match v with | .int i => decide (-999 ≤ i) && decide (i ≤ 999) | _ => false)
  else if k = "word" then wordV v else false
theorem le_a (c : Nat) : (!decide ([c] < [97])) = decide (97 ≤ c) := by
  by_cases h : c < 97
  · have : [c] < [97] := List.cons_lt_cons_iff.mpr (.inl h)
    rw [decide_eq_true this, decide_eq_false (by omega)]; rfl
  · have : ¬ [c] < [97] := fun z => by
      rcases List.cons_lt_cons_iff.mp z with q | ⟨_, q⟩
      · exact h q
      · exact absurd q (List.not_lt_nil [])
    rw [decide_eq_false this, decide_eq_true (by omega)]; rfl
theorem le_z (c : Nat) : (!decide ([122] < [c])) = decide (c ≤ 122) := by
  by_cases h : 122 < c
  · have : [122] < [c] := List.cons_lt_cons_iff.mpr (.inl h)
    rw [decide_eq_true this, decide_eq_false (by omega)]; rfl
  · have : ¬ [122] < [c] := fun z => by
      rcases List.cons_lt_cons_iff.mp z with q | ⟨_, q⟩
      · exact h q
      · exact absurd q (List.not_lt_nil [])
    rw [decide_eq_false this, decide_eq_true (by omega)]; rfl
theorem glue (cs : List Nat) : ((Txt.join "" (cs.map fun c => (⟨#[c]⟩ : Str)))).cps.toList = cs := by
  rw [TL.join_eq]
  have h := TL.tl_join "" (cs.map fun c => (⟨#[c]⟩ : Str))
  have e : ∀ ds : List Nat, TL.joinL (TL.tl "") ((ds.map fun c => (⟨#[c]⟩ : Str)).map TL.tl) = ds := by
    intro ds
    induction ds with
    | nil => rfl
    | cons d r ih =>
      cases r with
      | nil => rfl
      | cons d' r' =>
        show [d] ++ (TL.tl "" ++ TL.joinL (TL.tl "") (((d' :: r').map fun c => (⟨#[c]⟩ : Str)).map TL.tl)) = _
        rw [ih]; rfl
  rw [e] at h
  exact h
theorem glue_len (cs : List Nat) : (Txt.join "" (cs.map fun c => (⟨#[c]⟩ : Str))).length = cs.length := by
  show (Txt.join "" (cs.map fun c => (⟨#[c]⟩ : Str))).cps.size = _
  rw [← Array.length_toList, glue]
theorem sum_ones (cs : List Nat) : ((cs.map fun c => (⟨#[c]⟩ : Str)).map (·.length)).sum = cs.length := by
  induction cs with
  | nil => rfl
  | cons d r ih =>
    rw [List.map_cons, List.map_cons, List.sum_cons, ih, List.length_cons]
    show 1 + r.length = _
    omega
end My
namespace My
open PySem PySem.Spec PyProof.Rows L2
theorem wordV_lo {z : Str} (h : ¬ decide ((1 : Int) ≤ (z.length : Int)) = true) : wordV (.str z) = false := by
  show (decide (1 ≤ z.length) && decide (z.length ≤ 8) && _) = false
  rw [decide_eq_false (by simp only [decide_eq_true_eq] at h; omega)]; rfl
theorem wordV_hi {z : Str} (h : (!decide ((z.length : Int) ≤ 8)) = true) : wordV (.str z) = false := by
  show (decide (1 ≤ z.length) && decide (z.length ≤ 8) && _) = false
  rw [decide_eq_false (show ¬ z.length ≤ 8 by simp only [Bool.not_eq_true', decide_eq_false_iff_not] at h; omega)]; simp
theorem wordV_all {z : Str} (h : decide ((1 : Int) ≤ (z.length : Int)) = true) (h2 : ¬ (!decide ((z.length : Int) ≤ 8)) = true) :
    wordV (.str z) = (z.cps.toList.map fun c => decide (97 ≤ c) && decide (c ≤ 122)).all id := by
  show (decide (1 ≤ z.length) && decide (z.length ≤ 8) && z.cps.toList.all fun c => decide (97 ≤ c) && decide (c ≤ 122)) = _
  rw [decide_eq_true (show 1 ≤ z.length by simp only [decide_eq_true_eq] at h; omega), decide_eq_true (show z.length ≤ 8 by simp at h2; omega), List.all_map]
  simp only [Bool.true_and]
  rfl
theorem le_aS (c : Nat) : (!decide ((⟨#[c]⟩ : Str).cps.toList < ("a" : Str).cps.toList)) = decide (97 ≤ c) := by
  have e : ("a" : Str).cps.toList = [97] := by decide +kernel
  rw [e]; exact le_a c
theorem le_zS (c : Nat) : (!decide (("z" : Str).cps.toList < (⟨#[c]⟩ : Str).cps.toList)) = decide (c ≤ 122) := by
  have e : ("z" : Str).cps.toList = [122] := by decide +kernel
  rw [e]; exact le_z c
end My
namespace My
open PySem PySem.Spec PyProof.Rows L2
theorem at_int {ns : List Int} {k : Int} (h0 : 0 ≤ k) (h1 : k < (ns.length : Int)) : ∃ c, atI (ns.map V.int) k = some (.int c) := by
  obtain ⟨v, e, c, rfl⟩ := at_all (xs := ns.map V.int) (fun v => ∃ c, v = .int c) (fun x hx => by obtain ⟨c, _, rfl⟩ := List.mem_map.mp hx; exact ⟨c, rfl⟩) h0 (by rw [List.length_map]; exact h1)
  exact ⟨c, e⟩
end My
namespace My
open PySem PySem.Spec PyProof.Rows L2
theorem at_allN {xs : List Nat} (P : Nat → Prop) (h : ∀ x ∈ xs, P x) {i : Int} (h0 : 0 ≤ i) (h1 : i < (xs.length : Int)) : ∃ v, atI xs i = some v ∧ P v := by
  have hl : i.toNat < xs.length := by omega
  have e : xs[i.toNat]? = some xs[i.toNat] := by simp [hl]
  refine ⟨xs[i.toNat], ?_, h _ (List.getElem_mem _)⟩
  have q := atI_nat e
  have z : ((i.toNat : Nat) : Int) = i := by omega
  rw [z] at q
  exact q
theorem az_at {i : Int} (h0 : 0 ≤ i) (h1 : i < 26) : ∃ c, atI ("abcdefghijklmnopqrstuvwxyz" : Str).cps.toList i = some c ∧ 97 ≤ c ∧ c ≤ 122 := by
  have e : ("abcdefghijklmnopqrstuvwxyz" : Str).cps.toList = (List.range 26).map (· + 97) := by decide +kernel
  rw [e]
  refine at_allN (fun c => 97 ≤ c ∧ c ≤ 122) (fun x hx => ?_) h0 (by rw [List.length_map, List.length_range]; exact h1)
  obtain ⟨d, hd, rfl⟩ := List.mem_map.mp hx
  have := List.mem_range.mp hd
  omega
theorem word_glue {cs : List Nat} (h1 : 1 ≤ cs.length) (h2 : cs.length ≤ 8) (h : ∀ c ∈ cs, 97 ≤ c ∧ c ≤ 122) : WordS (Txt.join "" (cs.map fun c => (⟨#[c]⟩ : Str))) :=
  ⟨by rw [glue_len]; exact h1, by rw [glue_len]; exact h2, by rw [glue]; exact h⟩
end My
namespace My
open PySem PySem.Spec PyProof.Rows L2
def sp_is_whole : Sp := fun vs H Q _ => ∃ v, vs = [v] ∧ Tyd H v ∧ Q (.bl (wholeV v)) H
def sp_is_word : Sp := fun vs H Q _ => ∃ v, vs = [v] ∧ Tyd H v ∧ ∀ H', Same H H' → Q (.bl (wordV v)) H'
def sp_is_value : Sp := fun vs H Q _ => ∃ (x : Str) (v : V), vs = [.str x, v] ∧ Tyd H v ∧ ∀ H', Same H H' → Q (.bl (isVal x v)) H'

def ValS (x : Str) (v : V) : Prop := if x = "word" then ∃ z, v = .str z ∧ WordS z else ∃ i, v = .int i ∧ -999 ≤ i ∧ i ≤ 999
theorem ValS.tyd {x : Str} {v : V} (h : ValS x v) (H : Hp) : Tyd H v := by
  unfold ValS at h
  split at h
  · obtain ⟨z, rfl, hz⟩ := h
    exact Nat.le_trans hz.hi (by decide)
  · obtain ⟨i, rfl, _⟩ := h
    trivial
end My
namespace My
open PySem PySem.Spec PyProof.Rows L2

end My

set_option Elab.async false
set_option linter.all false
set_option maxRecDepth 100000

namespace L2
open PySem PySem.Spec PyProof.Rows
open PySem.MeetsSeq PySem.MeetsSeq2 PySem.MeetsSeq3
section
variable {X : Cx}
theorem same_push {H : Hp} {p : Addr} {o : HO} (h : H p = none) : Same H (upd H p o) := fun b u e => by
  rw [upd_ne (ne_of_none e h)]; exact e

def rCatS : R2 := fun x y H Q => ∃ a b xs ys, x = .ref a ∧ y = .ref b ∧ H a = some (.tup xs) ∧ H b = some (.tup ys) ∧ xs.length + ys.length ≤ sizeLine ∧
  ∀ p H', Same H H' → H' p = some (.tup (xs ++ ys)) → Q (.ref p) H'
theorem op_catS : OpR X (binaryOp .Add) rCatS := by
  constructor
  intro pins s σ H x y v u Q I rx ry h
  obtain ⟨a, b, xs, ys, rfl, rfl, ha, hb, hz, q⟩ := h
  by_cases hx : xs = []
  · subst hx
    cases rx
    cases ry
    obtain ⟨its, r1, p1, _⟩ := I.tuple (SqT.of ha)
    obtain ⟨its2, r2, p2, _⟩ := I.tuple (SqT.of hb)
    have e1 : its = [] := r1.nil_iff.mpr rfl
    subst e1
    obtain ⟨⟨cls, dd, data, sl⟩, ho, hc, n, hd⟩ := id p1
    obtain ⟨⟨cls2, dd2, data2, sl2⟩, ho2, hc2, n2, hd2⟩ := id p2
    simp only at hc hd hc2 hd2
    subst hc hd hc2 hd2
    exact concat_meets ⟨_, ho, rfl⟩ ⟨_, ho2, rfl⟩ noFill_tuple_add seq_tuple_add PySem.F.slot_tuple_add PySem.F.entry_tuple_add (PySem.F.args_tuple_add_2 _ _)
      (tuple_addW0 a b #[] its2.toArray n n2 dd dd2 sl sl2 rfl) ⟨ho, ho2, ⟨.ref b, H, I, rfl, q b H (Same.refl _) hb⟩⟩
  · exact op_catT.run pins s σ H _ _ v u Q I rx ry ⟨a, b, xs, ys, rfl, rfl, SqT.of ha, SqT.of hb, hx, hz, fun e => q a H (Same.refl _) (by rw [e, List.append_nil]; exact ha),
      fun _ p hp => q p _ (same_push hp) upd_same⟩


theorem getItem_tuple_whole {prog : Program} {w : World} {A : Around} {E : Value → Shared → Prop} {s : Shared} {t sl : Addr} {items : Array Value} {vl vu : Value} {lo hi : Option Int} {Q : Value → Shared → Prop} (ht : IsTup s.heap t items) (hs : s.heap.IsSliceOf sl vl vu .none) (pl : IsPart vl lo) (pu : IsPart vu hi)
    (hw : HT.sIx items.size 0 lo = 0 ∧ HT.sIx items.size items.size hi = items.size) (h : Q (.ref t) s) : wpAny (model prog w) A (getItem (.ref t) (.ref sl)) Q E s := by
  obtain ⟨os, hos, hcs, hds⟩ := id hs
  have hTs : s.TypeIs (.ref sl) "slice" := ⟨os, hos, hcs⟩
  unfold getItem
  try with_reducible refine wpAny_holding ?_
  first | refine wpAny_bind (wpAny_pure ?_) | skip
  refine wpAny_bind (wpAny_sequenceKey ht.typeIs (by decide) ?_)
  refine wpAny_bind (wpAny_callSpecial?_slot (name := Str.ofString "__getitem__") ht.typeIs PyProof.Rows.slot_tuple_getitem
    (wpAny_call_entry PyProof.Rows.slot_tuple_getitem ht.typeIs entry_tuple_getitem ?_ (args_tuple_getitem _ _)))
  show wpAny _ _ (Builtin.Tuple.tupleItemsOf (.ref t) >>= _) _ _ s
  refine wpAny_bind (tupleItemsOf_ ht ?_)
  refine wpAny_bind (wpAny_typeOf hTs ?_)
  rw [if_pos (by decide)]
  refine wpAny_bind (HT.sliceApplied_gen hs pl pu ?_)
  have hyes : (((HT.sIx items.size 0 lo : Nat) : Int) == 0 && (1 : Int) == 1 && (HT.sIx items.size items.size hi - HT.sIx items.size 0 lo) == items.size) = true := by
    rw [hw.1, hw.2]; simp
  show wpAny _ _ (if (((HT.sIx items.size 0 lo : Nat) : Int) == 0 && (1 : Int) == 1 && (HT.sIx items.size items.size hi - HT.sIx items.size 0 lo) == items.size) = true then _ else _) _ _ s
  rw [if_pos hyes]
  unfold Builtin.Tuple.tupleIsExact
  refine wpAny_bind (wpAny_bind (wpAny_typeOf ht.typeIs (wpAny_pure ?_)))
  rw [if_pos (by decide)]
  exact wpAny_bind (wpAny_rule (wpAny_pure ⟨_, rfl, wpAny_pure h⟩))

def rSlTS : V → Option Int → Option Int → Hp → VK → Prop := fun x lo hi H Q => ∃ a xs, x = .ref a ∧ H a = some (.tup xs) ∧ ∀ p H', Same H H' → H' p = some (.tup (cutV xs lo hi)) → Q (.ref p) H'
theorem sl_tupS : SlR X rSlTS := by
  constructor
  intro pins s σ H x v vl vu lo hi sl Q I rx hs pl pu h
  obtain ⟨a, xs, rfl, hx, q⟩ := h
  by_cases hw : HT.sIx xs.length 0 lo = 0 ∧ HT.sIx xs.length xs.length hi = xs.length
  · have e : cutV xs lo hi = xs := by
      unfold cutV
      rw [hw.1, hw.2, List.drop_zero, Nat.sub_zero, List.take_length]
    cases rx
    obtain ⟨its, r, ht, hz⟩ := I.tuple (SqT.of hx)
    have hlen : its.toArray.size = xs.length := by rw [List.size_toArray]; exact r.length.symm
    exact ⟨"tuple", _, PyProof.Rows.slot_tuple_getitem.lookup, ht.typeIs, getItem_tuple_whole ht hs pl pu (by rw [hlen]; exact hw) ⟨.ref a, H, I, rfl, q a H (Same.refl _) (by rw [e]; exact hx)⟩⟩
  · exact sl_tup.run pins s σ H _ v vl vu lo hi sl Q I rx hs pl pu ⟨a, xs, rfl, SqT.of hx, hw, fun p hp => q p _ (same_push hp) upd_same⟩

def tRevT (te ts : TE) : TE := fun σ H Q => te σ H fun x H1 => ts σ H1 fun y H2 => y = .int (-1) ∧ ∃ a xs, x = .ref a ∧ H2 a = some (.tup xs) ∧ ∀ p H', Same H2 H' → H' p = some (.tup xs.reverse) → Q (.ref p) H'
section
variable {CX : CXT} {k : Nat} {f C : Addr} {fd : FuncData} {ps ks : List Str} {sp : Sp} {E : XK} {x m : Str} {p pos apos kpos : Pos} {kws : List Keyword} {tk : TA} {g : List Value → List Value → List Value} {gV : List V → List V → List V}

end


theorem ix_tupK {K : PySem.W.Frag} (h : X.K = K := by rfl) : IxR X (rIxT K) := by subst h; exact ix_tup
theorem op_eqDK {K : PySem.W.Frag} (hu : X.A.units + 64 < cLine) (h : X.K = K := by rfl) : OpR X (compareOp .Eq) (rEqD K) := by subst h; exact op_eqD hu
theorem op_neDK {K : PySem.W.Frag} (hu : X.A.units + 64 < cLine) (h : X.K = K := by rfl) : OpR X (compareOp .NotEq) (rNeD K) := by subst h; exact op_neD hu
end
end L2

set_option Elab.async false
set_option linter.all false
set_option maxRecDepth 100000

namespace L2
open PySem PySem.Spec PyProof.Rows
section
variable {prog : Program} {w : World} {A : Around} {E : Value → Shared → Prop} {s : Shared}

theorem nx_tup {it t : Addr} {i : Nat} {items : Array Value} {x : Value} {Q : Value → Shared → Prop} (hit : s.heap.IsTupleIter it t i) (ht : s.heap.IsTuple t items) (hx : items[i]? = some x)
    (hQ : ∀ h', h'.IsTupleIter it t (i + 1) → Heap.SameBut it s.heap h' → Q x { s with heap := h' }) : wpAny (model prog w) A (Builtin.SmallTypes.nextOf (.ref it)) Q E s := by
  obtain ⟨o, ho, hc, hd⟩ := id hit
  obtain ⟨ol, hol, _, nl, hdl⟩ := ht
  unfold Builtin.SmallTypes.nextOf
  refine wpAny_bind (wpAny_callSpecial?_slot (name := Str.ofString "__next__") hit.typeIs F.slot_tuple_iterator_next (wpAny_call_entry F.slot_tuple_iterator_next hit.typeIs F.entry_tuple_iterator_next ?_ (F.args_tuple_iterator_next_1 _)))
  show wpAny _ _ (field (.ref it) 0 >>= _) _ _ s; refine wpAny_bind (wpAny_field ho hd (x := .ref t) rfl ?_)
  show wpAny _ _ (if (Value.ref t == Value.none) = true then _ else _) _ _ s; rw [if_neg (show ¬ ((Value.ref t == Value.none) = true) from Bool.false_ne_true)]
  show wpAny _ _ (field (.ref it) 1 >>= _) _ _ s; refine wpAny_bind (wpAny_field ho hd (x := .int i 0) rfl ?_)
  show wpAny _ _ (seqItems? (.ref t) >>= _) _ _ s; refine wpAny_bind (wpAny_seqItems hol hdl ?_)
  simp only [Int.toNat_natCast, hx]; refine wpAny_bind (wpAny_setField ho hd (by simp) (wpAny_pure ⟨x, rfl, wpAny_pure (hQ _ ?_ (Heap.SameBut.update ..))⟩))
  exact ⟨_, Heap.get?_update_self _ ho (Obj.isFreed_of_fields (Obj.data_mapFields hd _)), (Obj.cls_mapFields ..).trans hc, by rw [Obj.data_mapFields hd]; simp [rawInt]⟩
theorem nx_tup_end {it t : Addr} {i : Nat} {items : Array Value} {Q : Value → Shared → Prop} (hh : A.handled = none) (hit : s.heap.IsTupleIter it t i) (ht : s.heap.IsTuple t items) (hx : items[i]? = none)
    (hE : ∀ h' e, Heap.ExtBut it s.heap h' → (∃ o, h'.get? e = some o ∧ o.cls = .type "StopIteration") → E (.ref e) { s with heap := h' }) : wpAny (model prog w) A (Builtin.SmallTypes.nextOf (.ref it)) Q E s := by
  obtain ⟨o, ho, hc, hd⟩ := id hit
  obtain ⟨ol, hol, _, nl, hdl⟩ := ht
  unfold Builtin.SmallTypes.nextOf
  refine wpAny_bind (wpAny_callSpecial?_slot (name := Str.ofString "__next__") hit.typeIs F.slot_tuple_iterator_next (wpAny_call_entry F.slot_tuple_iterator_next hit.typeIs F.entry_tuple_iterator_next ?_ (F.args_tuple_iterator_next_1 _)))
  show wpAny _ _ (field (.ref it) 0 >>= _) _ _ s; refine wpAny_bind (wpAny_field ho hd (x := .ref t) rfl ?_)
  show wpAny _ _ (if (Value.ref t == Value.none) = true then _ else _) _ _ s; rw [if_neg (show ¬ ((Value.ref t == Value.none) = true) from Bool.false_ne_true)]
  show wpAny _ _ (field (.ref it) 1 >>= _) _ _ s; refine wpAny_bind (wpAny_field ho hd (x := .int i 0) rfl ?_)
  show wpAny _ _ (seqItems? (.ref t) >>= _) _ _ s; refine wpAny_bind (wpAny_seqItems hol hdl ?_)
  simp only [Int.toNat_natCast, hx]; refine wpAny_bind (wpAny_rule (wpAny_bind (wpAny_setField ho hd (by simp) ?_)))
  show wpAny _ _ (newExc (.type "StopIteration") [] >>= _) _ _ _; refine wpAny_bind ?_
  simp only [newExc, newTuple]; refine wpAny_bind (wpAny_newObj_type ?_ (by size_fits))
  refine wpAny_bind (m := firstArgMember _ _) (wpAny_of_eq (a := Value.none) (by first | rfl | (simp only [firstArgMember]; rfl)) ?_); refine wpAny_newObj_type ?_ (by size_fits)
  simp only [raiseNew]; refine wpAny_bind (wpAny_handled ?_)
  first | rw [show A.in1.handled = none from hh] | rw [hh]
  refine wpAny_bind (wpAny_pure (wpAny_throw ?_)); exact hE _ _ (((Heap.SameBut.update ..).extBut.push _).push _) ⟨_, Heap.get?_push_size _ rfl, rfl⟩


abbrev Src := Bool × Addr
def SIt (h : Heap) (it : Addr) (c : Src) (k : Nat) : Prop := match c.1 with
  | true => h.IsListIter it c.2 k
  | false => h.IsTupleIter it c.2 k
def SSq (h : Heap) (c : Src) (xs : Array Value) : Prop := match c.1 with
  | true => h.IsList c.2 xs
  | false => h.IsTuple c.2 xs
theorem SIt.obj {h : Heap} {it : Addr} {c : Src} {k : Nat} (p : SIt h it c k) : ∃ o, h.get? it = some o ∧ ∀ v, o.data ≠ .cell v := by
  obtain ⟨b, a⟩ := c
  cases b <;> (obtain ⟨o, e, _, d⟩ := p; exact ⟨o, e, fun v q => by rw [d] at q; cases q⟩)
theorem SIt.at {h h' : Heap} {it : Addr} {c : Src} {k : Nat} (p : SIt h it c k) (q : ∀ o, h.get? it = some o → h'.get? it = some o) : SIt h' it c k := by
  obtain ⟨b, a⟩ := c
  cases b
  · exact Heap.IsTupleIter.at (show h.IsTupleIter it a k from p) q
  · exact Heap.IsListIter.at (show h.IsListIter it a k from p) q
theorem SSq.at {h h' : Heap} {c : Src} {xs : Array Value} (p : SSq h c xs) (q : ∀ o, h.get? c.2 = some o → h'.get? c.2 = some o) : SSq h' c xs := by
  obtain ⟨b, a⟩ := c
  cases b
  · obtain ⟨o, e, r⟩ := (show h.IsTuple a xs from p); exact ⟨o, q o e, r⟩
  · obtain ⟨o, e, r⟩ := (show h.IsList a xs from p); exact ⟨o, q o e, r⟩
theorem SSq.lt {h : Heap} {c : Src} {xs : Array Value} (p : SSq h c xs) : c.2 < h.objs.size := by
  obtain ⟨b, a⟩ := c
  cases b <;> (obtain ⟨o, e, _⟩ := p; exact Heap.lt_size e)
theorem nx_item {it : Addr} {c : Src} {i : Nat} {items : Array Value} {x : Value} {Q : Value → Shared → Prop} (hit : SIt s.heap it c i) (ht : SSq s.heap c items) (hx : items[i]? = some x)
    (hQ : ∀ h', SIt h' it c (i + 1) → Heap.SameBut it s.heap h' → Q x { s with heap := h' }) : wpAny (model prog w) A (Builtin.SmallTypes.nextOf (.ref it)) Q E s := by
  obtain ⟨b, a⟩ := c
  cases b
  · exact nx_tup hit ht hx hQ
  · exact wpAny_nextOf_list_item hit ht hx hQ
theorem nx_end {it : Addr} {c : Src} {i : Nat} {items : Array Value} {Q : Value → Shared → Prop} (hh : A.handled = none) (hit : SIt s.heap it c i) (ht : SSq s.heap c items) (hx : items[i]? = none)
    (hE : ∀ h' e, Heap.ExtBut it s.heap h' → (∃ o, h'.get? e = some o ∧ o.cls = .type "StopIteration") → E (.ref e) { s with heap := h' }) : wpAny (model prog w) A (Builtin.SmallTypes.nextOf (.ref it)) Q E s := by
  obtain ⟨b, a⟩ := c
  cases b
  · exact nx_tup_end hh hit ht hx hE
  · exact wpAny_nextOf_list_end hh hit ht hx hE

theorem SSq.but {h h' : Heap} {c : Src} {xs : Array Value} {x : Addr} (p : SSq h c xs) (q : Heap.ExtBut x h h') (n : c.2 ≠ x) : SSq h' c xs := p.at fun o e => q _ _ n e
theorem SIt.but {h h' : Heap} {it x : Addr} {c : Src} {k : Nat} (p : SIt h it c k) (q : Heap.ExtBut x h h') (n : it ≠ x) : SIt h' it c k := p.at fun o e => q _ _ n e
theorem SIt.lt {h : Heap} {it : Addr} {c : Src} {k : Nat} (p : SIt h it c k) : it < h.objs.size := let ⟨_, e, _⟩ := p.obj; Heap.lt_size e

theorem z2_open {z TI TO i1 i2 : Addr} {Q : Fin → Shared → Prop} (hz : IsZip s.heap z TI TO .none) (hTI : IsPair s.heap TI (.ref i1) (.ref i2)) {a b : Value} (hTO : IsPair s.heap TO a b) {c1 c2 : Src} {k : Nat} {xs ys : Array Value}
    (D : ZipApart z TI TO i1 i2 c1.2 c2.2) (h1 : SIt s.heap i1 c1 k) (h2 : SIt s.heap i2 c2 k) (hl1 : SSq s.heap c1 xs) (hl2 : SSq s.heap c2 ys)
    (hi : ∀ x y h', xs[k]? = some x → ys[k]? = some y → IsZip h' z TI TO (rawInt s.heap.objs.size) → IsPair h' TO x y → SIt h' i1 c1 (k + 1) → SIt h' i2 c2 (k + 1) → IsPair h' s.heap.objs.size x y → h'.objs.size = s.heap.objs.size + 1 →
      (∀ c o, c ≠ z → c ≠ TO → c ≠ i1 → c ≠ i2 → s.heap.get? c = some o → h'.get? c = some o) → Q (.done (.ret (.ref s.heap.objs.size))) { s with heap := h' })
    (he : xs[k]? = none ∨ ys[k]? = none → A.handled = none ∧ ∀ h' e, (∀ c o, c ≠ z → c ≠ TO → c ≠ i1 → c ≠ i2 → s.heap.get? c = some o → h'.get? c = some o) → (∃ o, h'.get? e = some o ∧ o.cls = .type "StopIteration") → E (.ref e) { s with heap := h' }) :
    wpAny (model prog w) A (Builtin.«zip.__next__» ⟨[.ref z], []⟩) Q E s := by
  show wpAny _ _ (field (.ref z) 2 >>= _) _ _ _; refine wpAny_bind (wpAny_field hz rfl (x := .bool false) rfl ?_)
  show wpAny _ _ (field (.ref z) 3 >>= _) _ _ _; refine wpAny_bind (wpAny_field hz rfl (x := .ref TI) rfl (wpAny_bind (wpAny_seqItems hTI rfl ?_)))
  show wpAny _ _ (Builtin.SmallTypes.ownedTupleIsFree (.ref z) >>= _) _ _ _; refine wpAny_bind ?_; unfold Builtin.SmallTypes.ownedTupleIsFree
  refine wpAny_bind (wpAny_field hz rfl (x := .none) rfl (wpAny_pure ?_)); simp only [if_true]
  refine wpAny_bind (wpAny_rule (wpAny_bind (wpAny_field hz rfl (x := .ref TO) rfl (wpAny_bind (wpAny_setField_rec hz (by simp) fun g1 hz1 s1 => ?_)))))
  replace hz1 : IsZip g1 z TI TO .ellipsis := hz1
  refine wpAny_bind ?_; simp only [List.zipIdx_cons, List.zipIdx_nil, List.forIn_cons, List.forIn_nil]
  refine wpAny_bind (wpAny_bind (wpAny_onRaise ?_)); show wpAny _ _ (Builtin.SmallTypes.nextOf (.ref i1) >>= _) _ _ _
  cases hx : xs[k]? with
  | none =>
    obtain ⟨hh, he⟩ := he (.inl hx)
    refine wpAny_bind (nx_end hh (h1.but s1.extBut D.i1z) (hl1.but s1.extBut D.l1z) hx fun g2 e s2 q => ?_)
    obtain ⟨oe, hoe, hce⟩ := q
    have hz2 : IsZip g2 z TI TO .ellipsis := s2 _ _ D.i1z.symm hz1
    have hez : e ≠ z := fun x => by subst x; rw [hz2] at hoe; cases hoe; simp at hce
    exact wpAny_setField_rec hz2 (by simp) fun g3 _ s3 => he g3 e (fun c o c1 _ c3 _ x => s3.extBut _ _ c1 (s2 _ _ c3 (s1.extBut _ _ c1 x))) ⟨oe, s3.extBut _ _ hez hoe, hce⟩
  | some x =>
    refine wpAny_bind (nx_item (h1.but s1.extBut D.i1z) (hl1.but s1.extBut D.l1z) hx fun g2 h12 s2 => wpAny_pure ?_)
    have hTO2 : IsPair g2 TO a b := s2.extBut _ _ D.TOi1 (s1.extBut _ _ D.TOz hTO)
    refine wpAny_bind (wpAny_seqItems hTO2 rfl (wpAny_bind (wpAny_updateSeq_pair hTO2 fun g3 hTO3 s3 => wpAny_bind (wpAny_letGo (wpAny_pure ?_)))))
    replace hTO3 : IsPair g3 TO x b := hTO3
    have k2 : SIt g3 i2 c2 k := ((h2.but s1.extBut D.i2z).but s2.extBut D.i12.symm).but s3.extBut D.TOi2.symm
    have l2 : SSq g3 c2 ys := ((hl2.but s1.extBut D.l2z).but s2.extBut D.l2i1).but s3.extBut D.l2TO
    have hz3 : IsZip g3 z TI TO .ellipsis := s3.extBut _ _ D.TOz.symm (s2.extBut _ _ D.i1z.symm hz1)
    refine wpAny_bind (wpAny_bind (wpAny_onRaise ?_)); show wpAny _ _ (Builtin.SmallTypes.nextOf (.ref i2) >>= _) _ _ _
    cases hy : ys[k]? with
    | none =>
      obtain ⟨hh, he⟩ := he (.inr hy)
      refine wpAny_bind (nx_end hh k2 l2 hy fun g4 e s4 q => ?_)
      obtain ⟨oe, hoe, hce⟩ := q
      have hz4 : IsZip g4 z TI TO .ellipsis := s4 _ _ D.i2z.symm hz3
      have hez : e ≠ z := fun x => by subst x; rw [hz4] at hoe; cases hoe; simp at hce
      exact wpAny_setField_rec hz4 (by simp) fun g5 _ s5 => he g5 e (fun c o c1 c2 c3 c4 x => s5.extBut _ _ c1 (s4 _ _ c4 (s3.extBut _ _ c2 (s2.extBut _ _ c3 (s1.extBut _ _ c1 x))))) ⟨oe, s5.extBut _ _ hez hoe, hce⟩
    | some y =>
      refine wpAny_bind (nx_item k2 l2 hy fun g4 h24 s4 => wpAny_pure ?_)
      have hTO4 : IsPair g4 TO x b := s4.extBut _ _ D.TOi2 hTO3
      refine wpAny_bind (wpAny_seqItems hTO4 rfl (wpAny_bind (wpAny_updateSeq_pair hTO4 fun g5 hTO5 s5 => wpAny_bind (wpAny_letGo (wpAny_pure (wpAny_pure ?_))))))
      replace hTO5 : IsPair g5 TO x y := hTO5
      have hsz : g5.objs.size = s.heap.objs.size := by rw [s5.1, s4.1, s3.1, s2.1, s1.1]
      have hz5 : IsZip g5 z TI TO .ellipsis := s5.extBut _ _ D.TOz.symm (s4.extBut _ _ D.i2z.symm hz3)
      have kp : ∀ c o, c ≠ z → c ≠ TO → c ≠ i1 → c ≠ i2 → s.heap.get? c = some o → g5.get? c = some o := fun c o c1 c2 c3 c4 e => s5.extBut _ _ c2 (s4.extBut _ _ c4 (s3.extBut _ _ c2 (s2.extBut _ _ c3 (s1.extBut _ _ c1 e))))
      have h15 : SIt g5 i1 c1 (k + 1) := ((h12.but s3.extBut D.TOi1.symm).but s4.extBut D.i12).but s5.extBut D.TOi1.symm
      have h25 : SIt g5 i2 c2 (k + 1) := h24.but s5.extBut D.TOi2.symm
      have zl : z < g5.objs.size := Heap.lt_size hz5
      refine wpAny_bind (wpAny_seqItems hTO5 rfl (wpAny_bind (wpAny_newTuple ?_)))
      show wpAny _ _ (Builtin.SmallTypes.ownedTupleHandOut (.ref z) (.ref g5.objs.size) >>= _) _ _ _; refine wpAny_bind ?_; unfold Builtin.SmallTypes.ownedTupleHandOut
      have hz6 : IsZip (g5.push { cls := .type "tuple", data := .seq #[x, y] }) z TI TO .ellipsis := Heap.get?_push_of_some _ hz5
      refine wpAny_bind (wpAny_setField_rec hz6 (by simp) fun g7 hz7 s7 => ?_)
      replace hz7 : IsZip g7 z TI TO (rawInt g5.objs.size) := hz7
      refine wpAny_setField_rec hz7 (by simp) fun g8 hz8 s8 => ?_
      replace hz8 : IsZip g8 z TI TO (rawInt g5.objs.size) := hz8
      have up : ∀ c o, c ≠ z → g5.get? c = some o → g8.get? c = some o := fun c o c1 e => s8.extBut _ _ c1 (s7.extBut _ _ c1 (Heap.get?_push_of_some _ e))
      have hT8 : IsPair g8 g5.objs.size x y := s8.extBut _ _ (Nat.ne_of_gt zl) (s7.extBut _ _ (Nat.ne_of_gt zl) (Heap.get?_push_size _ rfl))
      have z8 : g8.objs.size = g5.objs.size + 1 := by rw [s8.1, s7.1, Heap.size_push]
      rw [hsz] at hz8 hT8 z8
      refine wpAny_pure ?_
      show Q (.done (.ret (.ref g5.objs.size))) _
      rw [hsz]
      exact hi x y g8 hx hy hz8 (up _ _ D.TOz hTO5) (h15.at fun o e => up _ o D.i1z e) (h25.at fun o e => up _ o D.i2z e) hT8 z8 fun c o c1 c2 c3 c4 e => up c o c1 (kp c o c1 c2 c3 c4 e)

theorem z2_next {z TI TO i1 i2 : Addr} {Q : Option Value → Shared → Prop} (hz : IsZip s.heap z TI TO .none) (hTI : IsPair s.heap TI (.ref i1) (.ref i2)) {a b : Value} (hTO : IsPair s.heap TO a b) {c1 c2 : Src} {k : Nat} {xs ys : Array Value}
    (D : ZipApart z TI TO i1 i2 c1.2 c2.2) (h1 : SIt s.heap i1 c1 k) (h2 : SIt s.heap i2 c2 k) (hl1 : SSq s.heap c1 xs) (hl2 : SSq s.heap c2 ys)
    (hi : ∀ x y h', xs[k]? = some x → ys[k]? = some y → IsZip h' z TI TO (rawInt s.heap.objs.size) → IsPair h' TO x y → SIt h' i1 c1 (k + 1) → SIt h' i2 c2 (k + 1) → IsPair h' s.heap.objs.size x y → h'.objs.size = s.heap.objs.size + 1 →
      (∀ c o, c ≠ z → c ≠ TO → c ≠ i1 → c ≠ i2 → s.heap.get? c = some o → h'.get? c = some o) → Q (some (.ref s.heap.objs.size)) { s with heap := h' })
    (he : xs[k]? = none ∨ ys[k]? = none → A.handled = none ∧ ∀ h', (∀ c o, c ≠ z → c ≠ TO → c ≠ i1 → c ≠ i2 → s.heap.get? c = some o → h'.get? c = some o) → Q none { s with heap := h' }) :
    wpAny (model prog w) A (pyNext (.ref z)) Q E s := by
  have hT : s.TypeIs (.ref z) "zip" := ⟨_, hz, rfl⟩
  unfold pyNext
  refine wpAny_bind (wpAny_attempt (wpAny_callSpecial?_slot (name := Str.ofString "__next__") hT F.slot_zip_next (wpAny_call_entry F.slot_zip_next hT F.entry_zip_next (z2_open hz hTI hTO D h1 h2 hl1 hl2 ?_ ?_) (F.args_zip_next_1 _))))
  · exact fun x y h' e1 e2 q1 q2 q3 q4 q5 q6 q7 => ⟨_, rfl, wpAny_pure (hi x y h' e1 e2 q1 q2 q3 q4 q5 q6 q7)⟩
  · intro q
    obtain ⟨hh, he⟩ := he q
    refine ⟨hh, fun h' e kp hx => ?_⟩
    obtain ⟨o, ho, hc⟩ := hx
    exact wpAny_bind (wpAny_isInstance (T := "StopIteration") (b := true) ⟨o, ho, hc⟩ isSubtype_stop (wpAny_pure (he h' kp)))
def itN (c : Src) : String := match c.1 with
  | true => "list_iterator"
  | false => "tuple_iterator"
theorem it_seq {c : Src} {xs : Array Value} {Q : Value → Shared → Prop} (p : SSq s.heap c xs) (h : Q (.ref s.heap.objs.size) { s with heap := s.heap.push { cls := .type (itN c), data := .fields #[.ref c.2, .int 0 0] } }) :
    wpAny (model prog w) A (pyIter (.ref c.2)) Q E s := by
  obtain ⟨b, a⟩ := c
  cases b
  · exact wpAny_pyIter_tuple p h
  · exact wpAny_pyIter_list p h
theorem SIt.new {h : Heap} {it : Addr} {c : Src} (e : h.get? it = some { cls := .type (itN c), data := .fields #[.ref c.2, .int 0 0] }) : SIt h it c 0 := by
  obtain ⟨b, a⟩ := c
  cases b <;> exact ⟨_, e, rfl, rfl⟩
theorem SSq.push {h : Heap} {c : Src} {xs : Array Value} (p : SSq h c xs) (o : Obj) : SSq (h.push o) c xs := p.at fun _ e => Heap.get?_push_of_some _ e
abbrev zh2 (h : Heap) (c1 c2 : Src) : Heap := (h.push { cls := .type (itN c1), data := .fields #[.ref c1.2, .int 0 0] }).push { cls := .type (itN c2), data := .fields #[.ref c2.2, .int 0 0] }
abbrev zh5 (h : Heap) (c1 c2 : Src) : Heap := (((zh2 h c1 c2).push { cls := .type "tuple", data := .seq #[.ref h.objs.size, .ref (h.push { cls := .type (itN c1), data := .fields #[.ref c1.2, .int 0 0] }).objs.size] }).push { cls := .type "tuple", data := .seq #[.none, .none] }).push
  { cls := .type "zip", data := .fields #[.none, .bool false, .bool false, .ref (zh2 h c1 c2).objs.size, .ref ((zh2 h c1 c2).push { cls := .type "tuple", data := .seq #[.ref h.objs.size, .ref (h.push { cls := .type (itN c1), data := .fields #[.ref c1.2, .int 0 0] }).objs.size] }).objs.size] }
theorem z2_new (c1 c2 : Src) (xs ys : Array Value) :
    Meets (Builtin.«zip.__new__» ⟨[.type "zip", .ref c1.2, .ref c2.2], []⟩) (fun _ R s => SSq s.heap c1 xs ∧ SSq s.heap c2 ys ∧ R (.ok (.ret (.ref (s.heap.objs.size + 4)))) { s with heap := zh5 s.heap c1 c2 }) :=
  .of_wp fun prog w A R s h => by
    obtain ⟨hp, g, d, tk, os⟩ := s
    obtain ⟨p1, p2, h⟩ := h
    have hsub := sub_zip
    have q1 : SSq (Shared.heap ⟨hp, g, d, tk, os⟩) c1 xs := p1
    have q2 : SSq (Shared.heap ⟨hp.push { cls := .type (itN c1), data := .fields #[.ref c1.2, .int 0 0] }, g, d, tk, os⟩) c2 ys := SSq.push p2 _
    wp_walk using it_seq q1, it_seq q2
    have e : (((zh2 hp c1 c2).push { cls := .type "tuple", data := .seq #[.ref hp.objs.size, .ref (hp.push { cls := .type (itN c1), data := .fields #[.ref c1.2, .int 0 0] }).objs.size] }).push { cls := .type "tuple", data := .seq #[.none, .none] }).objs.size = hp.objs.size + 4 := by
      simp only [Heap.size_push]
    refine ⟨_, rfl, ?_⟩
    have h' : R (.ok (.ret (.ref (hp.objs.size + 4)))) _ := h
    rw [← e] at h'
    exact h'
theorem z2_call {c1 c2 : Src} {xs ys : Array Value} {Q : Value → Shared → Prop} (p1 : SSq s.heap c1 xs) (p2 : SSq s.heap c2 ys)
    (h : ∀ h', IsZip h' (s.heap.objs.size + 4) (s.heap.objs.size + 2) (s.heap.objs.size + 3) .none → IsPair h' (s.heap.objs.size + 2) (.ref s.heap.objs.size) (.ref (s.heap.objs.size + 1)) → IsPair h' (s.heap.objs.size + 3) .none .none →
      SIt h' s.heap.objs.size c1 0 → SIt h' (s.heap.objs.size + 1) c2 0 → (∀ c o, s.heap.get? c = some o → h'.get? c = some o) → Q (.ref (s.heap.objs.size + 4)) { s with heap := h' }) :
    wpAny (model prog w) A (call (.type "zip") [.ref c1.2, .ref c2.2]) Q E s := by
  refine callType_new F.called_zip (by decide) (F.typeCall_zip_2 _ _) (F.newCall_zip_2 _ _) (fun obj => F.args_object_init_3 obj _ _) F.entry_zip_new (z2_new c1 c2 xs ys) ⟨p1, p2, ?_⟩
  have up : ∀ {g : Heap} {o : Obj} {c : Addr} {u : Obj}, g.get? c = some u → (g.push o).get? c = some u := fun e => Heap.get?_push_of_some _ e
  have nw : ∀ {g : Heap} {o : Obj} {c : Addr}, o.isFreed = false → c = g.objs.size → (g.push o).get? c = some o := fun f e => by rw [e]; exact Heap.get?_push_size _ f
  have g5 : IsZip (zh5 s.heap c1 c2) (s.heap.objs.size + 4) (s.heap.objs.size + 2) (s.heap.objs.size + 3) .none := by
    refine nw rfl (by simp only [Heap.size_push]) |>.trans ?_
    simp only [Heap.size_push]
  have g3 : IsPair (zh5 s.heap c1 c2) (s.heap.objs.size + 2) (.ref s.heap.objs.size) (.ref (s.heap.objs.size + 1)) := by
    refine (up (up (nw rfl (by simp only [Heap.size_push])))).trans ?_
    simp only [Heap.size_push]
  have g4 : IsPair (zh5 s.heap c1 c2) (s.heap.objs.size + 3) .none .none := up (nw rfl (by simp only [Heap.size_push]))
  have g1 : SIt (zh5 s.heap c1 c2) s.heap.objs.size c1 0 := .new (up (up (up (up (nw rfl rfl)))))
  have g2 : SIt (zh5 s.heap c1 c2) (s.heap.objs.size + 1) c2 0 := .new (up (up (up (nw rfl (by simp only [Heap.size_push])))))
  exact ⟨⟨_, g5, rfl⟩, h _ g5 g3 g4 g1 g2 fun c o x => up (up (up (up (up x))))⟩
end

def SqS (K : PySem.W.Frag) (H : Hp) (c : Src) (xs : List V) : Prop := match c.1 with
  | true => SqL K H c.2 xs
  | false => SqT K H c.2 xs
theorem SqS.inv {X : Cx} {pins : List (Addr × Obj)} {σ : St} {H : Hp} {s : Shared} {c : Src} {xs : List V} (I : Inv X pins σ H s) (h : SqS X.K H c xs) : ∃ its : List Value, Vals xs its ∧ SSq s.heap c its.toArray := by
  obtain ⟨b, a⟩ := c
  cases b
  · obtain ⟨its, r, p, _⟩ := I.tuple (show SqT X.K H a xs from h)
    exact ⟨its, r, (show s.heap.IsTuple a its.toArray from p)⟩
  · obtain ⟨its, r, p, _⟩ := I.list (show SqL X.K H a xs from h)
    exact ⟨its, r, p.isList⟩
theorem SqS.inj {X : Cx} {pins : List (Addr × Obj)} {σ : St} {H : Hp} {s : Shared} {c : Src} {xs ys : List V} (I : Inv X pins σ H s) (h : SqS X.K H c xs) (h' : SqS X.K H c ys) : xs = ys := by
  obtain ⟨b, a⟩ := c
  cases b
  · exact I.tuple_inj h h'
  · exact I.list_inj h h'
def Itz2 (K : PySem.W.Frag) (c1 c2 : Src) : It :=
  ⟨fun i H => ∃ (xs ys : List V) (x y : V), SqS K H c1 xs ∧ SqS K H c2 ys ∧ xs[i]? = some x ∧ ys[i]? = some y,
    fun i H v H' => ∃ T x y, v = .ref T ∧ H T = none ∧ H' = upd H T (.tup [x, y]) ∧ (∀ xs, SqS K H c1 xs → xs[i]? = some x) ∧ ∀ ys, SqS K H c2 ys → ys[i]? = some y,
    fun i H => ∃ xs ys : List V, SqS K H c1 xs ∧ SqS K H c2 ys ∧ (xs.length ≤ i ∨ ys.length ≤ i)⟩
theorem turn_zip2 {P : Program} {w : World} {K : PySem.W.Frag} {elts : List Expr} {kk : Nat} {tpos : Pos} {c1 c2 : Src} {z TI TO i1 i2 : Addr} (D : ZipApart z TI TO i1 i2 c1.2 c2.2) :
    Turn P w K (.Tuple elts kk tpos) (Itz2 K c1 c2) [z, TI, TO, i1, i2] z (fun i h => IsZip h z TI TO .none ∧ IsPair h TI (.ref i1) (.ref i2) ∧ (∃ x y, IsPair h TO x y) ∧ SIt h i1 c1 i ∧ SIt h i2 c2 i) where
  mem := by simp
  obj := fun i h st c hc => by
    obtain ⟨hz, hTI, ⟨x, y, hTO⟩, h1, h2⟩ := st
    have e' : c = z ∨ c = TI ∨ c = TO ∨ c = i1 ∨ c = i2 := by simpa using hc
    rcases e' with q | q | q | q | q
    · rw [q]; exact ⟨_, hz, fun v q => nomatch q⟩
    · rw [q]; exact ⟨_, hTI, fun v q => nomatch q⟩
    · rw [q]; exact ⟨_, hTO, fun v q => nomatch q⟩
    · rw [q]; exact h1.obj
    · rw [q]; exact h2.obj
  keep := fun i h h' st k => by
    obtain ⟨hz, hTI, ⟨x, y, hTO⟩, h1, h2⟩ := st
    exact ⟨k z (by simp) _ hz, k TI (by simp) _ hTI, ⟨x, y, k TO (by simp) _ hTO⟩, h1.at fun o q => k i1 (by simp) o q, h2.at fun o q => k i2 (by simp) o q⟩
  item := by
    intro X hP hw hK hc i pins s σ H E I hf st hg
    subst hP hw hK
    obtain ⟨hz, hTI, ⟨x0, y0, hTO⟩, h1, h2⟩ := st
    obtain ⟨xs, ys, x, y, hqx, hqy, hx, hy⟩ := hg
    obtain ⟨its, rv, p⟩ := hqx.inv I
    obtain ⟨its2, rv2, p2⟩ := hqy.inv I
    obtain ⟨u, hu, ru⟩ := rv.get hx
    obtain ⟨u2, hu2, ru2⟩ := rv2.get hy
    have hzl : z < s.heap.objs.size := Heap.lt_size hz
    refine z2_next hz hTI hTO D h1 h2 p p2 (fun v v2 h' e1 e2 z' TO' h1' h2' hT hsz hk => ?_) (fun q => ?_)
    · have ev : v = u := by
        have : its.toArray[i]? = some u := by simpa using hu
        rw [this] at e1; exact (Option.some.inj e1).symm
      have ev2 : v2 = u2 := by
        have : its2.toArray[i]? = some u2 := by simpa using hu2
        rw [this] at e2; exact (Option.some.inj e2).symm
      subst ev ev2
      refine ⟨_, rfl, wpAny_letOwnedTupleGo_zip (s := { s with heap := h' }) z' fun h'' z'' sb => ?_⟩
      have hT2 : h''.get? s.heap.objs.size = some { cls := .type "tuple", data := .seq #[v, v2] } := (sb.2 _ (Nat.ne_of_gt hzl)).trans hT
      have new : ObjOk X.prog X.w (upd H s.heap.objs.size (.tup [x, y])) h'' s.heap.objs.size (.tup [x, y]) :=
        ⟨by show 2 ≤ sizeLine; decide, [v, v2], .cons ru (.cons ru2 .nil), ⟨_, hT2, rfl, ⟨_, rfl⟩, rfl⟩⟩
      have I1 : Inv X pins σ (upd H s.heap.objs.size (.tup [x, y])) { s with heap := h'' } :=
        I.turnedNew (t' := s.toks) (ch := [z, TI, TO, i1, i2]) (fun c o hb q => (sb.2 c (fun q' => hb (by simp [q']))).trans (hk c o (fun q' => hb (by simp [q'])) (fun q' => hb (by simp [q'])) (fun q' => hb (by simp [q'])) (fun q' => hb (by simp [q'])) q)) hf (Nat.le_refl _) new
      refine ⟨.ref s.heap.objs.size, _, I1, rfl, ⟨_, x, y, rfl, I.hok.fresh (Nat.le_refl _), rfl, fun l hl => by rw [hl.inj I hqx]; exact hx, fun l hl => by rw [hl.inj I hqy]; exact hy⟩, ⟨z'', ?_, ⟨v, v2, ?_⟩, ?_, ?_⟩, fun c hcm => ?_⟩
      · exact (sb.2 _ D.TIz).trans (hk _ _ D.TIz D.TITO D.TIi1 D.TIi2 hTI)
      · exact (sb.2 _ D.TOz).trans TO'
      · exact h1'.at fun o q => (sb.2 _ D.i1z).trans q
      · exact h2'.at fun o q => (sb.2 _ D.i2z).trans q
      · have hlt : c < s.heap.objs.size := by
          have e' : c = z ∨ c = TI ∨ c = TO ∨ c = i1 ∨ c = i2 := by simpa using hcm
          rcases e' with q | q | q | q | q
          · rw [q]; exact hzl
          · rw [q]; exact Heap.lt_size hTI
          · rw [q]; exact Heap.lt_size hTO
          · rw [q]; exact h1.lt
          · rw [q]; exact h2.lt
        rw [upd_ne (Nat.ne_of_lt hlt)]
        exact (hf c hcm).1
    · exfalso
      have h1' : its.toArray[i]? = some u := by simpa using hu
      have h2' : its2.toArray[i]? = some u2 := by simpa using hu2
      rcases q with q | q
      · rw [h1'] at q; cases q
      · rw [h2'] at q; cases q
  done := by
    intro X hP hw hK hc i pins s σ H E I hf st hg
    subst hP hw hK
    obtain ⟨hz, hTI, ⟨x0, y0, hTO⟩, h1, h2⟩ := st
    obtain ⟨xs, ys, hqx, hqy, hend⟩ := hg
    obtain ⟨its, rv, p⟩ := hqx.inv I
    obtain ⟨its2, rv2, p2⟩ := hqy.inv I
    have l1 := rv.length
    have l2 := rv2.length
    refine z2_next hz hTI hTO D h1 h2 p p2 (fun v v2 h' e1 e2 => ?_) (fun _ => ⟨I.ok.hd hc, fun h' hk => ⟨rfl, I.turnedL (t' := s.toks) (ch := [z, TI, TO, i1, i2]) (fun c o hb q =>
      hk c o (fun q' => hb (by simp [q'])) (fun q' => hb (by simp [q'])) (fun q' => hb (by simp [q'])) (fun q' => hb (by simp [q'])) q) hf⟩⟩)
    exfalso
    rcases hend with q | q
    · have : its.toArray[i]? = none := by simp; omega
      rw [this] at e1; cases e1
    · have : its2.toArray[i]? = none := by simp; omega
      rw [this] at e2; cases e2
  self := fun A i s Q E st h => wpAny_pyIter_zip st.1 h
def iZip2 (K : PySem.W.Frag) (ta : TA) : TI := fun σ H R => ta σ H fun vs H1 => ∃ c1 c2 xs ys, vs = [.ref c1.2, .ref c2.2] ∧ SqS K H1 c1 xs ∧ SqS K H1 c2 ys ∧ R (Itz2 K c1 c2) H1
theorem pi_zip2 {X : Cx} {e e2 : Expr} {ta : TA} {p pos tpos : Pos} {elts : List Expr} {kk : Nat} (hg : Gl X "zip") (hm : X.mg "zip" = none) (ha : PA X [e, e2] ta)
    (hs : starEach [e, e2] X.env = (false, eval e X.env) :: starEach [e2] X.env := by rfl) (hpl : (backTo pos (starEach [e2] X.env)).any (·.1) = false := by rfl) :
    PI X (.Tuple elts kk tpos) (.Call (.Name "zip" p) [e, e2] [] pos) (iZip2 X.K ta) := by
  constructor
  intro pins s σ H R I h
  refine Call_ (ld_blt I hg hm boot_zip5 (PyProof.Rows.callWith_type1 (thn (ha pos pins s σ H _ I h) fun us s1 ⟨vs, H1, I1, r1, q1⟩ => ?_) hs hpl))
  obtain ⟨c1, c2, xs, ys, ex, hqx, hqy, q⟩ := q1
  subst ex
  cases r1 with
  | cons r rr =>
    cases rr with
    | cons r' rr =>
      cases rr
      cases r
      cases r'
      obtain ⟨its, rv, p1⟩ := hqx.inv I1
      obtain ⟨its2, rv2, p2⟩ := hqy.inv I1
      have la : c1.2 < s1.heap.objs.size := p1.lt
      have lb : c2.2 < s1.heap.objs.size := p2.lt
      refine z2_call p1 p2 fun h' hz hTI hTO h1 h2 hk => wpAny_pyIter_zip hz ?_
      have I2 : Inv X pins σ H1 { s1 with heap := h' } := I1.kept (t' := s1.toks) hk
      refine ⟨s1.heap.objs.size + 4, [s1.heap.objs.size + 4, s1.heap.objs.size + 2, s1.heap.objs.size + 3, s1.heap.objs.size, s1.heap.objs.size + 1], _, _, H1, rfl, I2, turn_zip2 (PySem.W.ktu_apart s1.heap.objs.size c1.2 c2.2 la lb), ⟨hz, hTI, ⟨_, _, hTO⟩, h1, h2⟩, fun c hcm => ?_, q⟩
      have e' : c = s1.heap.objs.size + 4 ∨ c = s1.heap.objs.size + 2 ∨ c = s1.heap.objs.size + 3 ∨ c = s1.heap.objs.size ∨ c = s1.heap.objs.size + 1 := by simpa using hcm
      have hle : s1.heap.objs.size ≤ c := by
        rcases e' with z | z | z | z | z <;> rw [z] <;> first | exact Nat.le_refl _ | exact Nat.le_add_right _ _
      exact I1.fpOk hle (I1.hok.fresh hle)
theorem SqS.same {K : PySem.W.Frag} {H H' : Hp} {c : Src} {xs : List V} (h : SqS K H c xs) (e : Same H H') : SqS K H' c xs := by
  obtain ⟨b, a⟩ := c
  cases b
  · rcases (show SqT K H a xs from h) with (h | ⟨o, h⟩) | h
    · exact .inl (.inl (e _ _ h))
    · exact .inl (.inr ⟨o, e _ _ h⟩)
    · exact .inr h
  · exact e.seq (show SqL K H a xs from h)
theorem SqS.tup {K : PySem.W.Frag} {H : Hp} {a : Addr} {xs : List V} (h : H a = some (.tup xs)) : SqS K H (false, a) xs := SqT.of h
theorem SqS.lst {K : PySem.W.Frag} {H : Hp} {a : Addr} {xs : List V} (h : H a = some (.lst xs)) : SqS K H (true, a) xs := SqL.of h

theorem lc_zip2_map {K : PySem.W.Frag} {c1 c2 : Src} {xs ys : List V} {g : TG} {tt : TT} {te : TE} {vs : List Nat} {σ : St} {H1 : Hp} {D : Addr} {Qd : Hp → Prop} (hD : H1 D = none) (f : Nat → V) (hx : SqS K H1 c1 xs) (hy : SqS K H1 c2 ys) (hz : xs.length ≤ 1000)
    (hs : ∀ i x y T H (R : VK) (F : Hp → Prop), xs[i]? = some x → ys[i]? = some y → Same H1 H → H T = some (.tup [x, y]) → (∀ H', Same H H' → R (f i) H') →
      g (.ref T) (wipe σ vs) H fun σ2 H2 => wipe σ2 vs = wipe σ vs ∧ tt σ2 H2 fun b H3 => if b = true then te σ2 H3 R else F H3)
    (hd : ∀ H', Same H1 H' → H' D = some (.lst ((List.range (min xs.length ys.length)).map f)) → Qd H') :
    ∃ W : Nat → Nat → Hp → Prop, (∃ m, W 0 m (upd H1 D (.lst []))) ∧ ∀ i m H, W i m H →
      ((Itz2 K c1 c2).stop i H ∧ Qd H) ∨ ((Itz2 K c1 c2).go i H ∧ ∃ Nx : Hp → Prop, (∀ H', Nx H' → ∃ m', m' < m ∧ W (i + 1) m' H') ∧ ∀ x H', (Itz2 K c1 c2).yld i H x H' → g x (wipe σ vs) H' fun σ2 H2 => wipe σ2 vs = wipe σ vs ∧ tt σ2 H2 fun b H3 =>
        if b = true then te σ2 H3 fun y H4 => ∃ acc, H4 D = some (.lst acc) ∧ acc.length < sizeLine ∧ Nx (upd H4 D (.lst (acc ++ [y]))) else Nx H3) := by
  refine ⟨fun i m H => m = min xs.length ys.length - i ∧ i ≤ min xs.length ys.length ∧ Same H1 H ∧ H D = some (.lst ((List.range i).map f)), ⟨_, rfl, Nat.zero_le _, same_push hD, upd_same⟩, ?_⟩
  rintro i m H ⟨rfl, hi, hS, hDl⟩
  by_cases hlt : i < min xs.length ys.length
  · have i1 : i < xs.length := Nat.lt_of_lt_of_le hlt (Nat.min_le_left _ _)
    have i2 : i < ys.length := Nat.lt_of_lt_of_le hlt (Nat.min_le_right _ _)
    refine .inr ⟨⟨xs, ys, xs[i], ys[i], hx.same hS, hy.same hS, by simp [i1], by simp [i2]⟩, fun H => Same H1 H ∧ H D = some (.lst ((List.range (i + 1)).map f)), fun H' p' => ⟨min xs.length ys.length - (i + 1), by omega, rfl, hlt, p'⟩, fun v H' y => ?_⟩
    obtain ⟨T, x, y, rfl, hT, rfl, qx, qy⟩ := y
    refine hs i x y T _ _ _ (qx xs (hx.same hS)) (qy ys (hy.same hS)) (hS.trans (same_push hT)) upd_same fun H4 s4 => ⟨_, s4 _ _ (same_push hT _ _ hDl), ?_, ?_, ?_⟩
    · rw [List.length_map, List.length_range]
      exact Nat.lt_of_lt_of_le (Nat.lt_of_lt_of_le i1 hz) (by decide)
    · exact fun b o e => by rw [upd_ne (ne_of_none e hD)]; exact s4 _ _ (same_push hT _ _ (hS _ _ e))
    · rw [upd_same, List.range_succ, List.map_append]; rfl
  · have e : i = min xs.length ys.length := by omega
    subst e
    refine .inl ⟨⟨xs, ys, hx.same hS, hy.same hS, by omega⟩, hd _ hS hDl⟩

theorem for_zip2 {K : PySem.W.Frag} {c1 c2 : Src} {xs ys : List V} {g : TG} {tb : TS} {D : Ends} {σ : St} {H : Hp} (Pv : Nat → St → Hp → Prop) (h0 : Pv 0 σ H) (hx : ∀ i σ H, Pv i σ H → SqS K H c1 xs) (hy : ∀ i σ H, Pv i σ H → SqS K H c2 ys)
    (hs : ∀ i x y T σ H, xs[i]? = some x → ys[i]? = some y → Pv i σ H → H T = none → g (.ref T) σ (upd H T (.tup [x, y])) fun σ2 H2 => tb { D with nx := Pv (i + 1), ct := Pv (i + 1), bk := D.nx } σ2 H2) (hd : ∀ σ H, Pv (min xs.length ys.length) σ H → D.nx σ H) :
    ∃ W : Nat → Nat → St → Hp → Prop, (∃ m, W 0 m σ H) ∧ ∀ i m σ H, W i m σ H →
      ((Itz2 K c1 c2).stop i H ∧ D.nx σ H) ∨ ((Itz2 K c1 c2).go i H ∧ ∃ N : St → Hp → Prop, (∀ σ' H', N σ' H' → ∃ m', m' < m ∧ W (i + 1) m' σ' H') ∧ ∀ x H', (Itz2 K c1 c2).yld i H x H' → g x σ H' fun σ2 H2 => tb { D with nx := N, ct := N, bk := D.nx } σ2 H2) := by
  refine ⟨fun i m σ H => m = min xs.length ys.length - i ∧ i ≤ min xs.length ys.length ∧ Pv i σ H, ⟨_, rfl, Nat.zero_le _, h0⟩, ?_⟩
  rintro i m σ H ⟨rfl, hi, p⟩
  by_cases hlt : i < min xs.length ys.length
  · have i1 : i < xs.length := Nat.lt_of_lt_of_le hlt (Nat.min_le_left _ _)
    have i2 : i < ys.length := Nat.lt_of_lt_of_le hlt (Nat.min_le_right _ _)
    refine .inr ⟨⟨xs, ys, xs[i], ys[i], hx _ _ _ p, hy _ _ _ p, by simp [i1], by simp [i2]⟩, Pv (i + 1), fun σ' H' p' => ⟨min xs.length ys.length - (i + 1), by omega, rfl, hlt, p'⟩, fun v H' y => ?_⟩
    obtain ⟨T, x, y, rfl, hT, rfl, qx, qy⟩ := y
    exact hs i x y T σ H (qx xs (hx _ _ _ p)) (qy ys (hy _ _ _ p)) p hT
  · have e : i = min xs.length ys.length := by omega
    subst e
    exact .inl ⟨⟨xs, ys, hx _ _ _ p, hy _ _ _ p, by omega⟩, hd σ H p⟩
end L2

set_option Elab.async false
set_option linter.all false
set_option maxRecDepth 100000

namespace L2
open PySem PySem.Spec PyProof.Rows
section
variable {X : Cx} {pos : Pos}
theorem pg_tupK {K : PySem.W.Frag} {es : List Expr} {k : Nat} {t : TGs} {n : Nat} (hc : X.calm = true) (h : PGs X es t) (hK : X.K = K := by rfl)
    (hn : (assignEach es X.env).length = n := by rfl) (hst : (assignEach es X.env).findIdx? (·.1) = none := by rfl) : PG X (.Tuple es k pos) (gTup K n t) := by subst hK; exact pg_tup hc h hn hst
theorem MtM.r {id : String} {r : V → List V → Hp → VK → Prop} (h : MtM X id r) : MtR X id r := ⟨h.run⟩

def rEqT0 (neg : Bool) : R2 := fun x y H Q => ∃ a b xs, x = .ref a ∧ y = .ref b ∧ H a = some (.tup xs) ∧ H b = some (.tup []) ∧ Q (.bl (if neg then !decide (xs = []) else decide (xs = []))) H
end
end L2

set_option Elab.async false
set_option linter.all false
set_option maxRecDepth 100000

namespace My
open PySem PySem.Spec PyProof.Rows L2
abbrev Cols := List (Str × Str)

structure FormAt (H : Hp) (a : Addr) (cols : Cols) : Prop where
  ex : ∃ ts : List Addr, H a = some (.tup (ts.map V.ref)) ∧ ts.length = cols.length ∧ ∀ (i : Nat) (t : Addr) (c : Str × Str), ts[i]? = some t → cols[i]? = some c → H t = some (.tup [.str c.1, .str c.2])
def Kinds (cols : Cols) : Prop := ∀ c ∈ cols, c.2 = "number" ∨ c.2 = "word"

def rowR (cols : Cols) (xs : List V) : Bool := ((List.range (min cols.length xs.length)).map fun i => isVal (cols.getD i ("", "")).2 (xs.getD i .non)).all id
def rowB (cols : Cols) (xs : List V) : Bool := decide (xs.length = cols.length) && rowR cols xs

def Tyd2 (H : Hp) (v : V) (n : Nat) : Prop := Tyd H v ∧ ∀ a xs, v = .ref a → H a = some (.tup xs) → xs.length ≤ n ∧ ∀ x ∈ xs, Tyd H x
theorem Tyd2.tup {H : Hp} {a : Addr} {xs : List V} {n : Nat} (e : H a = some (.tup xs)) (l : xs.length ≤ n) (f : ∀ x ∈ xs, Tyd H x) : Tyd2 H (.ref a) n :=
  ⟨.inr ⟨_, e⟩, fun b ys z q => by cases z; rw [e] at q; cases q; exact ⟨l, f⟩⟩
theorem inst_tup {H : Hp} {v : V} {n : Nat} (h : Tyd2 H v n) : (∃ a xs, v = .ref a ∧ H a = some (.tup xs) ∧ xs.length ≤ n ∧ (∀ x ∈ xs, Tyd H x) ∧ instB H v "tuple" = true) ∨ (instB H v "tuple" = false ∧ ∀ a xs, v = .ref a → H a ≠ some (.tup xs)) := by
  obtain ⟨h, h2⟩ := h
  cases v with
  | ref a =>
    rcases h with ⟨xs, e⟩ | ⟨xs, e⟩
    · refine .inr ⟨?_, fun b ys z q => by cases z; rw [e] at q; cases q⟩
      have z : tyN H (.ref a) = "list" := by show (match H a with | some (.lst _) => "list" | _ => "tuple") = _; rw [e]
      unfold instB
      rw [z]; rfl
    · refine .inl ⟨a, xs, rfl, e, (h2 a xs rfl e).1, (h2 a xs rfl e).2, ?_⟩
      have z : tyN H (.ref a) = "tuple" := by show (match H a with | some (.lst _) => "list" | _ => "tuple") = _; rw [e]
      unfold instB
      rw [z]; rfl
  | byt _ => exact h.elim
  | flt _ => exact h.elim
  | ty _ => exact h.elim
  | _ => exact .inr ⟨rfl, fun a xs e => nomatch e⟩

def rowOf (H : Hp) (cols : Cols) (v : V) : Bool := match v with
  | .ref a => match H a with
    | some (.tup xs) => rowB cols xs
    | _ => false
  | _ => false
theorem rowOf_tup {H : Hp} {cols : Cols} {a : Addr} {xs : List V} (e : H a = some (.tup xs)) : rowOf H cols (.ref a) = rowB cols xs := by
  show (match H a with | some (.tup xs) => rowB cols xs | _ => false) = _
  rw [e]
theorem rowOf_no {H : Hp} {cols : Cols} {v : V} {n : Nat} (h : Tyd2 H v n) (f : ∀ a xs, v = .ref a → H a ≠ some (.tup xs)) : rowOf H cols v = false := by
  cases v with
  | ref a =>
    rcases h.1 with ⟨xs, e⟩ | ⟨xs, e⟩
    · show (match H a with | some (.tup xs) => rowB cols xs | _ => false) = _
      rw [e]
    · exact absurd e (f a xs rfl)
  | _ => rfl
def sp_is_row : Sp := fun vs H Q _ => ∃ (a : Addr) (cols : Cols) (v : V) (n : Nat), vs = [.ref a, v] ∧ FormAt H a cols ∧ cols.length ≤ 10 ∧ Kinds cols ∧ Tyd2 H v n ∧ n ≤ 1000 ∧ ∀ H', Same H H' → Q (.bl (rowOf H cols v)) H'
end My
namespace My
open PySem PySem.Spec PyProof.Rows L2
theorem az_nth {i : Int} (h0 : 0 ≤ i) (h1 : i < 26) : atI ("abcdefghijklmnopqrstuvwxyz" : Str).cps.toList i = some (97 + i.toNat) := by
  have e : ("abcdefghijklmnopqrstuvwxyz" : Str).cps.toList = (List.range 26).map (· + 97) := by decide +kernel
  rw [e]
  have hl : i.toNat < 26 := by omega
  have q : ((List.range 26).map (· + 97))[i.toNat]? = some (97 + i.toNat) := by
    rw [List.getElem?_map, List.getElem?_range hl]
    show some (i.toNat + 97) = _
    rw [Nat.add_comm]
  have z := atI_nat q
  have y : ((i.toNat : Nat) : Int) = i := by omega
  rw [y] at z
  exact z

def NamesOK (ws : List Str) : Prop := ∀ (i : Nat) (w : Str), ws[i]? = some w → WordS w ∧ ∃ cs, w.cps.toList = cs ++ [97 + i]
theorem NamesOK.snoc {ws : List Str} {w : Str} (h : NamesOK ws) (hw : WordS w) {cs : List Nat} (e : w.cps.toList = cs ++ [97 + ws.length]) : NamesOK (ws ++ [w]) := by
  intro i v hv
  by_cases hi : i < ws.length
  · rw [List.getElem?_append_left hi] at hv
    exact h i v hv
  · rw [List.getElem?_append_right (by omega)] at hv
    have : i - ws.length = 0 := by
      have := (List.getElem?_eq_some_iff.mp hv).1
      simp at this
      omega
    rw [this] at hv
    cases hv
    have : i = ws.length := by omega
    subst this
    exact ⟨hw, cs, e⟩
theorem NamesOK.nodup {ws : List Str} (h : NamesOK ws) : ws.Nodup := by
  refine List.pairwise_iff_getElem.mpr fun i j hi hj hij e => ?_
  obtain ⟨_, cs, q⟩ := h i ws[i] (by simp [hi])
  obtain ⟨_, ds, r⟩ := h j ws[j] (by simp [hj])
  rw [e] at q
  rw [q] at r
  have := congrArg List.getLast? r
  simp at this
  omega
theorem word_stem {cs : List Nat} {i : Nat} (h : ∀ c ∈ cs, 97 ≤ c ∧ c ≤ 122) (hl : cs.length ≤ 7) (hi : i < 26) :
    WordS (Txt.join "" (cs.map fun c => (⟨#[c]⟩ : Str)) ++ (⟨#[97 + i]⟩ : Str)) ∧ (Txt.join "" (cs.map fun c => (⟨#[c]⟩ : Str)) ++ (⟨#[97 + i]⟩ : Str)).cps.toList = cs ++ [97 + i] := by
  have e : (Txt.join "" (cs.map fun c => (⟨#[c]⟩ : Str)) ++ (⟨#[97 + i]⟩ : Str)).cps.toList = cs ++ [97 + i] := by
    have := TL.tl_append (Txt.join "" (cs.map fun c => (⟨#[c]⟩ : Str))) (⟨#[97 + i]⟩ : Str)
    refine this.trans ?_
    show (Txt.join "" (cs.map fun c => (⟨#[c]⟩ : Str))).cps.toList ++ [97 + i] = _
    rw [glue]
  have l : (Txt.join "" (cs.map fun c => (⟨#[c]⟩ : Str)) ++ (⟨#[97 + i]⟩ : Str)).length = cs.length + 1 := by
    rw [Str.length_append, glue_len]; rfl
  refine ⟨⟨by rw [l]; omega, by rw [l]; omega, ?_⟩, e⟩
  rw [e]
  intro c hc
  rcases List.mem_append.mp hc with q | q
  · exact h c q
  · rw [List.mem_singleton.mp q]; omega
def sp_law_names : Sp := fun vs H Q _ => ∃ (b : Addr) (m : Int), vs = [.ref b, .int m] ∧ Bag H b ∧ 0 ≤ m ∧ m ≤ 26 ∧ ∀ p ws H', H p = none → H' p = some (.lst (ws.map V.str)) → (ws.length : Int) = m → NamesOK ws → Eff b H H' → Q (.ref p) H'
end My
namespace My
open PySem PySem.Spec PyProof.Rows L2
def sp_law_form : Sp := fun vs H Q _ => ∃ (b : Addr), vs = [.ref b] ∧ Bag H b ∧ ∀ p cols H', FormAt H' p cols → 1 ≤ cols.length → cols.length ≤ 6 → Kinds cols → NamesOK (cols.map (·.1)) → Eff b H H' → Q (.ref p) H'
theorem kind_at {i : Int} (h0 : 0 ≤ i) (h1 : i < 2) : ∃ v, atI [V.str "number", V.str "word"] i = some v ∧ ∃ z : Str, v = V.str z ∧ (z = "number" ∨ z = "word") :=
  at_all _ (fun x hx => by
    simp only [List.mem_cons, List.not_mem_nil, or_false] at hx
    rcases hx with rfl | rfl
    · exact ⟨_, rfl, .inl rfl⟩
    · exact ⟨_, rfl, .inr rfl⟩) h0 h1

structure ColsIn (H : Hp) (ws : List Str) (ts : List Addr) (ks : List Str) (i : Nat) : Prop where
  lt : ts.length = i
  lk : ks.length = i
  at_ : ∀ (j : Nat) (t : Addr) (k w : Str), ts[j]? = some t → ks[j]? = some k → ws[j]? = some w → H t = some (.tup [.str w, .str k])
  kd : ∀ k ∈ ks, k = "number" ∨ k = "word"
theorem ColsIn.snoc {H H' : Hp} {ws : List Str} {ts : List Addr} {ks : List Str} {i : Nat} {t : Addr} {k w : Str} (h : ColsIn H ws ts ks i) (s : ∀ c xs, H c = some (.tup xs) → H' c = some (.tup xs)) (hw : ws[i]? = some w) (ht : H' t = some (.tup [.str w, .str k])) (hk : k = "number" ∨ k = "word") :
    ColsIn H' ws (ts ++ [t]) (ks ++ [k]) (i + 1) := by
  refine ⟨by rw [List.length_append, h.lt]; rfl, by rw [List.length_append, h.lk]; rfl, fun j t' k' w' h1 h2 h3 => ?_, fun x hx => ?_⟩
  · by_cases hj : j < i
    · rw [List.getElem?_append_left (by rw [h.lt]; exact hj)] at h1
      rw [List.getElem?_append_left (by rw [h.lk]; exact hj)] at h2
      exact s _ _ (h.at_ j t' k' w' h1 h2 h3)
    · have hj2 : j = i := by
        have := (List.getElem?_eq_some_iff.mp h1).1
        rw [List.length_append, h.lt] at this
        simp at this
        omega
      subst hj2
      rw [List.getElem?_append_right (by rw [h.lt]; exact Nat.le_refl _), h.lt, Nat.sub_self] at h1
      rw [List.getElem?_append_right (by rw [h.lk]; exact Nat.le_refl _), h.lk, Nat.sub_self] at h2
      cases h1
      cases h2
      rw [hw] at h3
      cases h3
      exact ht
  · rcases List.mem_append.mp hx with q | q
    · exact h.kd x q
    · rw [List.mem_singleton.mp q]; exact hk
theorem ColsIn.form {H : Hp} {ws : List Str} {ts : List Addr} {ks : List Str} {a : Addr} (h : ColsIn H ws ts ks ws.length) (ha : H a = some (.tup (ts.map V.ref))) : FormAt H a (ws.zip ks) ∧ Kinds (ws.zip ks) ∧ (ws.zip ks).map (·.1) = ws ∧ (ws.zip ks).length = ws.length := by
  have l : (ws.zip ks).length = ws.length := by rw [List.length_zip, h.lk, Nat.min_self]
  refine ⟨⟨ts, ha, by rw [l]; exact h.lt, fun i t c h1 h2 => ?_⟩, fun c hc => ?_, List.map_fst_zip (by rw [h.lk]; exact Nat.le_refl _), l⟩
  · obtain ⟨q1, q2⟩ := List.getElem?_zip_eq_some.mp h2
    exact h.at_ i t c.2 c.1 h1 q2 q1
  · exact h.kd c.2 (List.of_mem_zip hc).2
end My
namespace My
open PySem PySem.Spec PyProof.Rows L2
end My
namespace My
open PySem PySem.Spec PyProof.Rows L2

def RowVals (cols : Cols) (xs : List V) : Prop := ∀ (j : Nat) (x : V) (c : Str × Str), xs[j]? = some x → cols[j]? = some c → ValS c.2 x
theorem ValS.isVal {x : Str} {v : V} (h : ValS x v) (hx : x = "number" ∨ x = "word") : isVal x v = true := by
  rcases hx with rfl | rfl
  · unfold ValS at h
    rw [if_neg (by decide)] at h
    obtain ⟨i, rfl, h1, h2⟩ := h
    show (decide (-999 ≤ i) && decide (i ≤ 999)) = true
    rw [decide_eq_true h1, decide_eq_true h2]; rfl
  · unfold ValS at h
    rw [if_pos rfl] at h
    obtain ⟨z, rfl, hz⟩ := h
    exact hz.b
theorem row_true {cols : Cols} {xs : List V} (l : xs.length = cols.length) (h : RowVals cols xs) (kd : Kinds cols) : rowB cols xs = true := by
  unfold rowB rowR
  rw [decide_eq_true l]
  simp only [Bool.true_and, List.all_map, List.all_eq_true, List.mem_range]
  intro i hi
  have i1 : i < cols.length := Nat.lt_of_lt_of_le hi (Nat.min_le_left _ _)
  have i2 : i < xs.length := Nat.lt_of_lt_of_le hi (Nat.min_le_right _ _)
  have e1 : cols[i]? = some cols[i] := by simp [i1]
  have e2 : xs[i]? = some xs[i] := by simp [i2]
  show isVal (cols.getD i ("", "")).2 (xs.getD i .non) = true
  rw [List.getD_eq_getElem?_getD, List.getD_eq_getElem?_getD, e1, e2]
  exact (h i _ _ e2 e1).isVal (kd _ (List.getElem_mem _))
theorem RowVals.tyd {cols : Cols} {xs : List V} (l : xs.length = cols.length) (h : RowVals cols xs) (H : Hp) : ∀ x ∈ xs, Tyd H x := by
  intro x hx
  obtain ⟨j, hj, rfl⟩ := List.getElem_of_mem hx
  exact (h j xs[j] (cols[j]'(by omega)) (by simp [hj]) (by simp [show j < cols.length by omega])).tyd H
end My
namespace My
open PySem PySem.Spec PyProof.Rows L2
end My

set_option Elab.async false
set_option linter.all false
set_option maxRecDepth 100000

namespace My
open PySem PySem.Spec PyProof.Rows L2
def ValOK (v : V) : Prop := (∃ i, v = .int i ∧ -999 ≤ i ∧ i ≤ 999) ∨ ∃ z, v = .str z ∧ WordS z
def numStep (n : Int) (c : Nat) : Int := n * 27 + (c : Int) - 97 + 1
def wordNum (z : Str) : Int := z.cps.toList.foldl numStep 0
def numV : V → Int
  | .int i => i + 1000
  | .str z => wordNum z
  | _ => 0
def markL (xs : List V) : Int := xs.foldl (fun m v => (m * 31 + numV v) % 1009) 7
def sp_mark : PySem.W.Frag → Sp := fun K vs H Q _ => ∃ (a : Addr) (xs : List V), vs = [.ref a] ∧ SqT K H a xs ∧ (∀ x ∈ xs, ValOK x) ∧ Q (.int (markL xs)) H
end My

set_option Elab.async false
set_option linter.all false
set_option maxRecDepth 100000

namespace My
open PySem PySem.Spec PyProof.Rows L2
mutual
inductive Dt (H : Hp) : V → PyData → Prop
  | non : Dt H .non .none
  | bl (b : Bool) : Dt H (.bl b) (.bool b)
  | int (i : Int) : Dt H (.int i) (.int i)
  | str (x : Str) : Dt H (.str x) (.str x)
  | lst {a : Addr} {xs : List V} {ds : List PyData} : H a = some (.lst xs) → DtAll H xs ds → Dt H (.ref a) (.list ds)
  | tup {a : Addr} {xs : List V} {ds : List PyData} : H a = some (.tup xs) → DtAll H xs ds → Dt H (.ref a) (.tuple ds)
inductive DtAll (H : Hp) : List V → List PyData → Prop
  | nil : DtAll H [] []
  | cons {v : V} {vs : List V} {d : PyData} {ds : List PyData} : Dt H v d → DtAll H vs ds → DtAll H (v :: vs) (d :: ds)
end
mutual
theorem Dt.map {H H' : Hp} (s : ∀ a o, H a = some o → (∃ xs, o = .lst xs ∨ o = .tup xs) → H' a = some o) : ∀ {d : PyData} {v : V}, Dt H v d → Dt H' v d
  | _, _, .non => .non
  | _, _, .bl b => .bl b
  | _, _, .int i => .int i
  | _, _, .str x => .str x
  | _, _, .lst e r => .lst (s _ _ e ⟨_, .inl rfl⟩) (DtAll.map s r)
  | _, _, .tup e r => .tup (s _ _ e ⟨_, .inr rfl⟩) (DtAll.map s r)
theorem DtAll.map {H H' : Hp} (s : ∀ a o, H a = some o → (∃ xs, o = .lst xs ∨ o = .tup xs) → H' a = some o) : ∀ {ds : List PyData} {vs : List V}, DtAll H vs ds → DtAll H' vs ds
  | _, _, .nil => .nil
  | _, _, .cons h r => .cons (Dt.map s h) (DtAll.map s r)
end
theorem Dt.same {H H' : Hp} {v : V} {d : PyData} (h : Dt H v d) (s : Same H H') : Dt H' v d := h.map fun a o e _ => s a o e
mutual
theorem Dt.dp {K : PySem.W.Frag} {H : Hp} : ∀ {d : PyData} {v : V}, Dt H v d → Dp K H v d
  | _, _, .non => .non
  | _, _, .bl b => .bl b
  | _, _, .int i => .int i
  | _, _, .str x => .str x
  | _, _, .lst e r => .lst (SqL.of e) (DtAll.dp r)
  | _, _, .tup e r => .tup (SqT.of e) (DtAll.dp r)
theorem DtAll.dp {K : PySem.W.Frag} {H : Hp} : ∀ {ds : List PyData} {vs : List V}, DtAll H vs ds → DpAll K H vs ds
  | _, _, .nil => .nil
  | _, _, .cons h r => .cons (Dt.dp h) (DtAll.dp r)
end
theorem DtAll.length {H : Hp} : ∀ {ds : List PyData} {vs : List V}, DtAll H vs ds → vs.length = ds.length
  | _, _, .nil => rfl
  | _, _, .cons _ r => by rw [List.length_cons, List.length_cons, r.length]
theorem DtAll.get {H : Hp} : ∀ {ds : List PyData} {vs : List V} {i : Nat} {v : V}, DtAll H vs ds → vs[i]? = some v → ∃ d, ds[i]? = some d ∧ Dt H v d
  | _, _, 0, v, .cons h _, e => by cases e; exact ⟨_, rfl, h⟩
  | _, _, i + 1, v, .cons _ r, e => by
    obtain ⟨d, q, h⟩ := DtAll.get (i := i) r (by simpa using e)
    exact ⟨d, by simpa using q, h⟩
mutual
def shortD : PyData → Bool
  | .str x => decide (x.length ≤ 1000)
  | .list xs => shortAll xs
  | .tuple xs => shortAll xs
  | _ => true
def shortAll : List PyData → Bool
  | [] => true
  | x :: r => shortD x && shortAll r
end
theorem shortAll_mem : ∀ {ds : List PyData} {d : PyData}, shortAll ds = true → d ∈ ds → shortD d = true
  | x :: r, d, h, m => by
    simp only [shortAll, Bool.and_eq_true] at h
    rcases List.mem_cons.mp m with rfl | m
    · exact h.1
    · exact shortAll_mem h.2 m
theorem Dt.tyd {H : Hp} {v : V} {d : PyData} (h : Dt H v d) (s : shortD d = true) : Tyd H v := by
  cases h with
  | non => trivial
  | bl b => trivial
  | int i => trivial
  | str x => exact (of_decide_eq_true s : x.length ≤ 1000)
  | lst e r => exact .inl ⟨_, e⟩
  | tup e r => exact .inr ⟨_, e⟩

def isTupD : PyData → Bool
  | .tuple _ => true
  | _ => false
def isStrD : PyData → Bool
  | .str _ => true
  | _ => false
theorem Dt.instTup {H : Hp} {v : V} {d : PyData} (h : Dt H v d) : instB H v "tuple" = isTupD d := by
  cases h with
  | lst e r =>
    unfold instB
    rw [show tyN H (.ref _) = "list" by show (match H _ with | some (.lst _) => "list" | _ => "tuple") = _; rw [e]]; rfl
  | tup e r =>
    unfold instB
    rw [show tyN H (.ref _) = "tuple" by show (match H _ with | some (.lst _) => "list" | _ => "tuple") = _; rw [e]]; rfl
  | _ => rfl
end My

namespace L2
open PySem PySem.Spec PyProof.Rows
section
variable {X : Cx}

def strD : PyData → Str
  | .str x => x
  | d => d.shown

end
end L2

set_option Elab.async false
set_option linter.all false
set_option maxRecDepth 100000

namespace My
open PySem PySem.Spec PyProof.Rows L2
mutual
def wtD : PyData → Nat
  | .list xs => wtAll xs + 2
  | .tuple xs => wtAll xs + 3
  | d => d.shown.length
def wtAll : List PyData → Nat
  | [] => 0
  | x :: r => wtD x + 2 + wtAll r
end
def sumL (ts : List Str) : Nat := (ts.map fun t => t.length + 2).sum
theorem sumL_cons (t : Str) (r : List Str) : sumL (t :: r) = t.length + 2 + sumL r := by unfold sumL; rw [List.map_cons, List.sum_cons]
theorem textFrom_le : ∀ (ts : List Str) (k : Nat) (acc : Str), (textFrom k acc ts).length ≤ acc.length + sumL ts
  | [], k, acc => Nat.le_refl _
  | t :: r, k, acc => by
    have h := textFrom_le r (k + 1) (acc ++ (if k > 0 then ", " else "" : String) ++ t)
    have e : (acc ++ (if k > 0 then ", " else "" : String) ++ t).length ≤ acc.length + 2 + t.length := by
      rw [Str.length_append, Str.length_append]
      split
      · show acc.length + 2 + t.length ≤ _; omega
      · show acc.length + 0 + t.length ≤ _; omega
    have e2 : textFrom k acc (t :: r) = textFrom (k + 1) (acc ++ (if k > 0 then ", " else "" : String) ++ t) r := rfl
    rw [e2, sumL_cons]
    omega
theorem join_le : ∀ ts : List Str, (Str.join ", " ts).length ≤ sumL ts
  | [] => Nat.le_refl _
  | [x] => by rw [sumL_cons]; show x.length ≤ _; omega
  | x :: y :: r => by
    have ih := join_le (y :: r)
    show (x ++ ", " ++ Str.join ", " (y :: r)).length ≤ _
    rw [Str.length_append, Str.length_append, sumL_cons]
    show x.length + 2 + _ ≤ _
    omega
mutual
theorem shown_le : ∀ d : PyData, d.shown.length ≤ wtD d
  | .none => Nat.le_refl _
  | .bool b => Nat.le_refl _
  | .int i => Nat.le_refl _
  | .str x => Nat.le_refl _
  | .dict kvs => Nat.le_refl _
  | .list xs => by
    have h := shownAll_le xs
    show (textFrom 0 "[" (PyData.shownAll xs) ++ ("]" : Str)).length ≤ wtAll xs + 2
    rw [Str.length_append]
    have := textFrom_le (PyData.shownAll xs) 0 "["
    have e : ("[" : Str).length = 1 := rfl
    have e2 : ("]" : Str).length = 1 := rfl
    omega
  | .tuple xs => by
    have h := shownAll_le xs
    show (("(" : Str) ++ Str.join ", " (PyData.shownAll xs) ++ (if (PyData.shownAll xs).length == 1 then ",)" else ")" : String)).length ≤ wtAll xs + 3
    rw [Str.length_append, Str.length_append]
    have := join_le (PyData.shownAll xs)
    have e : ("(" : Str).length = 1 := rfl
    split
    · show _ + _ + 2 ≤ _; omega
    · show _ + _ + 1 ≤ _; omega
theorem shownAll_le : ∀ xs : List PyData, sumL (PyData.shownAll xs) ≤ wtAll xs
  | [] => Nat.le_refl _
  | x :: r => by
    have h1 := shown_le x
    have h2 := shownAll_le r
    show sumL (PyData.shown x :: PyData.shownAll r) ≤ wtD x + 2 + wtAll r
    rw [sumL_cons]
    omega
end
end My

set_option Elab.async false
set_option linter.all false
set_option maxRecDepth 100000

namespace L2
open PySem PySem.Spec PyProof.Rows
section
variable {X : Cx}

def rInS (K : PySem.W.Frag) : R2 := fun x y H Q => ∃ (p : Addr) (zs : List Str), y = .ref p ∧ SqT K H p (zs.map V.str) ∧ ((flatV x = true ∧ Q (.bl (inV x (zs.map V.str))) H) ∨ (∃ a, x = .ref a ∧ ((∃ xs, H a = some (.lst xs)) ∨ ∃ xs, H a = some (.tup xs)) ∧ Q (.bl false) H))
theorem op_inS {K : PySem.W.Frag} (hu : X.A.units + 64 < cLine) (hK : X.K = K := by rfl) : OpR X (compareOp .In) (rInS K) := by
  subst hK
  constructor
  intro pins s σ H x y v u Q I rx ry h
  obtain ⟨p, zs, rfl, hs, h⟩ := h
  have fs : (zs.map V.str).all flatV = true := by simp [List.all_map, flatV]
  rcases h with ⟨fx, q⟩ | ⟨a, rfl, ha, q⟩
  · exact op_in_seq.run pins s σ H x _ v u Q I rx ry ⟨p, _, rfl, .inr hs, fx, fs, q⟩
  · cases ry
    cases rx
    obtain ⟨its, r, pl, hz⟩ := I.tuple hs
    refine SeqAt.in_tupleAt (fun _ => false) pl (fun w hw => ?_) ⟨.bl false, H, I, ?_, q⟩
    · have hw' : w ∈ its := by simpa using hw
      obtain ⟨i, hi, rfl⟩ := List.getElem_of_mem hw'
      have hl := r.length
      have hi' : i < (zs.map V.str).length := by omega
      obtain ⟨u', hu', ru'⟩ := r.get (i := i) (x := (zs.map V.str)[i]) (by simp [hi'])
      have e : its[i] = u' := by
        have : its[i]? = some its[i] := by simp [hi]
        rw [this] at hu'; exact Option.some.inj hu'
      rw [e]
      simp only [List.getElem_map] at ru'
      obtain ⟨t, rfl⟩ := ru'
      rcases ha with ⟨xs, e1⟩ | ⟨xs, e1⟩
      · obtain ⟨its2, _, p2, _⟩ := I.list (SqL.of e1)
        exact SeqAt.EqAt.str_list _ _ p2.isList (by show X.A.units + 1 < cLine; omega)
      · obtain ⟨its2, _, p2, _⟩ := I.tuple (SqT.of e1)
        exact SeqAt.EqAt.str_tuple _ _ p2 (by show X.A.units + 1 < cLine; omega)
    · show Value.bool _ = Value.bool false
      congr 1
      simp

def rCount (K : PySem.W.Frag) : V → List V → Hp → VK → Prop := fun x vs H Q => ∃ (a : Addr) (ys : List V) (y : V), x = .ref a ∧ vs = [y] ∧ SqL K H a ys ∧ flatV y = true ∧ ys.all flatV = true ∧ Q (.int ((ys.countP fun z => eqV z y : Nat) : Int)) H
end
end L2

set_option Elab.async false
set_option linter.all false
set_option maxRecDepth 100000

namespace L2
open PySem PySem.Spec PyProof.Rows
def hasK (k : Key) (ks : List Key) : Bool := ks.any fun x => decide (x = k)

def dcnt : List Key → Nat
  | [] => 0
  | k :: r => if hasK k r = true then dcnt r else dcnt r + 1

def setO (P : Program) (w : World) (D : Addr) (ks : List Key) : HO := .ext fun h => ∃ S : Key → Bool, h.SetOf (mixKind P w) D S (dcnt ks) ∧ ∀ k, S k = hasK k ks
theorem setO_ok {P : Program} {w : World} {H : Hp} {h : Heap} {D : Addr} {ks : List Key} (q : ∃ S : Key → Bool, h.SetOf (mixKind P w) D S (dcnt ks) ∧ ∀ k, S k = hasK k ks) : ObjOk P w H h D (setO P w D ks) := by
  refine ⟨q, ?_, fun h1 h2 ⟨S, e, r⟩ k => ?_⟩
  · obtain ⟨S, ⟨o, _, _, _, e, _⟩, _⟩ := q
    exact ⟨o, e⟩
  · obtain ⟨o, es, ep, t, e1, r1⟩ := e
    exact ⟨S, ⟨o, es, ep, t, k o e1, r1⟩, r⟩
section
variable {X : Cx} {pins : List (Addr × Obj)} {σ : St} {H : Hp} {s : Shared}
theorem add_ok {E : Value → Shared → Prop} {D : Addr} {ks : List Key} {k : Key} {v : Value} {Q : Value → Shared → Prop} (I : Inv X pins σ H s) (hD : H D = some (setO X.prog X.w D ks)) (hz : ks.length < 1000) (r : RelV (kV k) v)
    (h : ∀ s', Inv X pins σ (upd H D (setO X.prog X.w D (k :: ks))) s' → Q .none s') : wpAny (model X.prog X.w) X.A (call (.builtin "set.add") [.ref D, v]) Q E s := by
  obtain ⟨⟨S, hS, hk⟩, _, _⟩ := I.hok D _ hD
  have hkey : (mixKind X.prog X.w).is k v = true := by
    cases k with
    | inl i => obtain ⟨t, rfl⟩ := r; exact keyIs_int i t
    | inr x => obtain ⟨t, rfl⟩ := r; exact keyIs_str x t
  have hsc : v.scannable = true := by
    cases k with
    | inl i => obtain ⟨t, rfl⟩ := r; rfl
    | inr x => obtain ⟨t, rfl⟩ := r; rfl
  have hn : ∀ l : List Key, dcnt l ≤ l.length := by
    intro l
    induction l with
    | nil => exact Nat.le_refl _
    | cons a r ih => simp only [dcnt]; split <;> (rw [List.length_cons]; omega)
  have hb := hn ks
  refine call_set_add hkey hsc hS (by show dcnt ks + 1 < 4096; omega) fun h' sb hS' => ?_
  have e1 : (if S k = true then dcnt ks else dcnt ks + 1) = dcnt (k :: ks) := by
    rw [hk]
    rfl
  rw [e1] at hS'
  refine h _ (I.write (t' := s.toks + 1) (by rw [hD]; trivial) (.inl rfl) (fun b u hb q => (sb.2 b hb).trans q) (let ⟨o, _, _, _, e, _⟩ := hS'; ⟨o, e⟩) (setO_ok ⟨_, hS', fun k' => ?_⟩))
  rw [hk]
  show (hasK k' ks || decide (k' = k)) = (decide (k = k') || hasK k' ks)
  rw [Bool.or_comm]
  congr 1
  by_cases q1 : k = k'
  · rw [decide_eq_true q1, decide_eq_true q1.symm]
  · rw [decide_eq_false q1, decide_eq_false (Ne.symm q1)]

theorem call_lenS : CallR X (.builtin "len") (fun xs H Q => ∃ a ks, xs = [V.ref a] ∧ H a = some (setO X.prog X.w a ks) ∧ ks.length ≤ 1000 ∧ Q (.int (dcnt ks : Nat)) H) := by
  constructor
  intro pins s σ H xs us Q I r h
  obtain ⟨a, ks, rfl, ha, hl, q⟩ := h
  obtain ⟨u, rfl, ru⟩ := vals1 r
  cases ru
  obtain ⟨⟨S, ⟨o, es, ep, t, ho, hex, hd, _, _, hsz, hf, hn⟩, _⟩, _, _⟩ := I.hok a _ ha
  have hb : es.size < 4096 := hsz
  refine call_len_set ho hex hd hf (by omega) ⟨.int (dcnt ks : Nat), H, (I.tok _).tok _, ⟨_, by rw [hn]⟩, q⟩
end
theorem compTurn_setA (elt target iter : Expr) (ifs : List Expr) (scope : Scope) (pos : Pos) (it acc : Value) (env : Env) :
    compTurn (.SetComp elt [⟨target, iter, ifs, 0⟩] scope pos) 0 it acc env = (do
      standAt iter.pos
      match ← pyNext it with
      | none => pure (.done .next)
      | some v =>
        letOwnedTupleGo target it v
        assign target env v
        let mut ok := true
        for c in ifs do
          if ok then ok ← isTrue c env (eval c env)
        if ok then
          (do let v ← eval elt env; standAt elt.pos; let _ ← call (.builtin "set.add") [acc, v])
        again (.compLoop (.SetComp elt [⟨target, iter, ifs, 0⟩] scope pos) 0 it acc env)) := by rfl
theorem eval_SetCompA {env : Env} (elt gens scope pos) : eval (.SetComp elt gens scope pos) env =
    comprehension (.SetComp elt gens scope pos) scope env (firstIterPos gens pos) (newSet (.type "set")) (firstAsync gens) (firstIter gens env) := rfl
theorem codeAny_compStart_setA {prog : Program} {w : World} {A : Around} {R : Result → Shared → Prop} {s : Shared} {elt target iter ifs rest scope pos it acc env}
    (h0 : codeAny (model prog w) A (.compLoop (.SetComp elt (⟨target, iter, ifs, 0⟩ :: rest) scope pos) 0 it acc env) R s)
    (h : wpAny (model prog w) A (pyIter it) (fun it' s' => codeAny (model prog w) A (.compLoop (.SetComp elt (⟨target, iter, ifs, 0⟩ :: rest) scope pos) 0 it' acc env) R s') (notedBy (model prog w) A env fun x s' => R (.error x) s') s) :
    codeAny (model prog w) A (.compStart (.SetComp elt (⟨target, iter, ifs, 0⟩ :: rest) scope pos) 0 it acc env) R s := by
  refine codeAny_of_tree ?_
  show wpAny _ _ ((compStart (.SetComp elt (⟨target, iter, ifs, 0⟩ :: rest) scope pos) 0 it acc env).onRaise (fun x => do noteFrame x env; standAt theWindowsPlace)) _ _ s
  refine wpAny_notedAt ?_; unfold compStart
  show wpAny _ _ (ask >>= _) _ _ s; refine wpAny_bind (wpAny_askSetting (wpAny_ite ?_)); split
  · first | exact wpAny_bind (wpAny_pure (wpAny_pure (And.intro rfl h0))) | exact wpAny_pure (And.intro rfl h0)
  · first
    | exact wpAny_bind (wpAny_rule (wpAny_bind (wpAny_standAt (wpAny_bind (wpAny_mono h (fun it' s' h' => wpAny_pure (And.intro rfl h')) fun _ _ x => x)))))
    | (refine wpAny_bind (wpAny_rule ?_); show wpAny _ _ (standAt iter.pos >>= _) _ _ s; exact wpAny_bind (wpAny_standAt (wpAny_bind (wpAny_mono h (fun it' s' h' => wpAny_pure (And.intro rfl h')) fun _ _ x => x))))
section
variable {X : Cx}

def tSc (X : Cx) (wi : TI) (g : TG) (tt : TT) (te : TE) (vs : List Nat) : TE := fun σ H Q => wi σ H fun J H1 => ∀ D, H1 D = none → ∃ W : Nat → Nat → Hp → Prop, (∃ m, W 0 m (upd H1 D (setO X.prog X.w D []))) ∧ ∀ i m H, W i m H →
  (J.stop i H ∧ Q (.ref D) H) ∨ (J.go i H ∧ ∃ Nx : Hp → Prop, (∀ H', Nx H' → ∃ m', m' < m ∧ W (i + 1) m' H') ∧ ∀ x H', J.yld i H x H' → g x (wipe σ vs) H' fun σ2 H2 => wipe σ2 vs = wipe σ vs ∧ tt σ2 H2 fun b H3 =>
    if b = true then te σ2 H3 fun y H4 => ∃ ks k, y = kV k ∧ H4 D = some (setO X.prog X.w D ks) ∧ ks.length < 1000 ∧ Nx (upd H4 D (setO X.prog X.w D (k :: ks))) else Nx H3)
theorem scLoop_any {prog : Program} {w : World} {A : Around} {R : Result → Shared → Prop} {s : Shared} {elt target iter : Expr} {ifs : List Expr} {scope : Scope} {pos : Pos} {it acc : Value} {env : Env} (I : Nat → Shared → Prop)
    (turn : ∀ n s, I n s → wpAny (model prog w) A (pyNext it) (fun r s₁ => match r with
      | none => R (.ok .next) s₁
      | some v => wpAny (model prog w) A (letOwnedTupleGo target it v) (fun _ s₁' => wpAny (model prog w) A (assign target env v) (fun _ s₂ =>
          wpAny (model prog w) A (forIn ifs true fun c r => if r = true then do let ok ← isTrue c env (eval c env); pure (ForInStep.yield ok) else pure (ForInStep.yield r)) (fun ok s₃ =>
            if ok = true then wpAny (model prog w) A (eval elt env) (fun x s₄ =>
              wpAny (model prog w) A (call (.builtin "set.add") [acc, x]) (fun _ s₅ => ∃ m, m < n ∧ I m s₅) (notedBy (model prog w) A env fun e s' => R (.error e) s') s₄) (notedBy (model prog w) A env fun e s' => R (.error e) s') s₃
            else ∃ m, m < n ∧ I m s₃) (notedBy (model prog w) A env fun e s' => R (.error e) s') s₂) (notedBy (model prog w) A env fun e s' => R (.error e) s') s₁') (notedBy (model prog w) A env fun e s' => R (.error e) s') s₁) (notedBy (model prog w) A env fun e s' => R (.error e) s') s)
    (n : Nat) (h : I n s) :
    codeAny (model prog w) A (.compLoop (.SetComp elt [⟨target, iter, ifs, 0⟩] scope pos) 0 it acc env) R s := by
  refine codeAny_loop rfl I (fun n s hI => ?_) n h
  show wpAny _ A ((compTurn (.SetComp elt [⟨target, iter, ifs, 0⟩] scope pos) 0 it acc env).onRaise (fun x => do noteFrame x env; theTreesLotGoes x)) _ _ s
  refine wpAny_noted ?_
  rw [compTurn_setA]
  refine wpAny_bind (wpAny_standAt (wpAny_bind (wpAny_mono (turn n s hI) (fun r s₁ h₁ => ?_) fun _ _ h' => h')))
  cases r with
  | none => exact wpAny_pure h₁
  | some v =>
    refine wpAny_bind (wpAny_mono h₁ (fun _ s₁' h₁' => ?_) fun _ _ h' => h')
    refine wpAny_bind (wpAny_mono h₁' (fun _ s₂ h₂ => wpAny_bind (wpAny_mono h₂ (fun ok s₃ h₃ => ?_) fun _ _ h' => h')) fun _ _ h' => h')
    cases ok with
    | false => exact wpAny_pure ⟨rfl, h₃⟩
    | true =>
      exact wpAny_bind (wpAny_bind (wpAny_mono h₃ (fun x s₄ h₄ => wpAny_bind (wpAny_standAt (wpAny_bind (wpAny_mono h₄ (fun _ s₅ h₅ => wpAny_pure (wpAny_pure ⟨rfl, h₅⟩)) fun _ _ h' => h')))) fun _ _ h' => h'))

theorem sc_core {pins : List (Addr × Obj)} {s : Shared} {σ : St} {H : Hp} {Q : VK} {elt tg iter : Expr} {ifs : List Expr} {scope : Scope} {own : List (Str × Nat)} {pos pos' : Pos} {wi : TI} {g : TG} {tt : TT} {te : TE} {use : Option (Value → Sem Unit)} {Qf : Value → Shared → Prop}
    (hc : X.calm = true) (hN : X.N.Nodup) (I : Inv X pins σ H s) (hi : PI X tg iter wi) (ok : BlkOk X.N X.env.scope scope own)
    (hg : ∀ (s : Shared) (H : Hp) (C : Addr) (cl : List (Str × Addr)) (fp : List Addr), PG (X.blk s H scope (compEnvC scope cl C X.env) fp) tg g) (ht : ∀ (s : Shared) (H : Hp) (C : Addr) (cl : List (Str × Addr)) (fp : List Addr), PTs (X.blk s H scope (compEnvC scope cl C X.env) fp) ifs tt)
    (he : ∀ (s : Shared) (H : Hp) (C : Addr) (cl : List (Str × Addr)) (fp : List Addr), PE (X.blk s H scope (compEnvC scope cl C X.env) fp) elt te) (hs : ∀ x, foldedSetIterable iter X.env x = pure x)
    (h : tSc X wi g tt te (own.map (·.2)) σ H Q)
    (hRR : ∀ D C s' m H', Inv X pins σ H' s' → Q (.ref D) H' → s'.heap.Ns C m → FpOk X pins H' C → compPost (model X.prog X.w) X.A X.xe use Qf (.ref D) C (.ok .next) s') :
    wpAny (model X.prog X.w) X.A (comprehension (.SetComp elt [⟨tg, iter, ifs, 0⟩] scope pos) scope X.env pos' (newSet (.type "set")) false (eval iter X.env) use) Qf X.xe s := by
  have hfree : ∀ y ∈ scope.names, y.2 = .free → ∃ c, X.env.cells.lookup y.1 = some c := fun y hy e => by
    rcases ok.free y hy e with k | k
    · exact I.ok.has _ (.inl k)
    · exact I.ok.has _ (.inr k)
  refine wpAny_comprehension_free (use := use) rfl hs (closure_ok hfree) ok.kind (fun y hy e => by rw [ok.uniq y hy, e])
    (thn (hi pins s σ H _ I h) fun xv s1 hx => thn hx fun itv s2 h2 => ?_)
  obtain ⟨it, fp, tn, J, H2, e, I2, T, st2, f2, q⟩ := h2
  subst e
  refine wpAny_newSet_of (knd := mixKind X.prog X.w) fun led hS0 => newEnv_comp ?_
  generalize hD : s2.heap.objs.size = D
  have hDn : H2 D = none := I2.hok.fresh (Nat.le_of_eq hD)
  obtain ⟨W, ⟨m0, w0⟩, turn⟩ := q D hDn
  -- the new set
  generalize hs3 : ({ s2 with heap := s2.heap.push { cls := .type "set", dict := none, data := .set #[] 0 (.fresh 0 0 led) } } : Shared) = s3
  have I3 : Inv X pins σ (upd H2 D (setO X.prog X.w D [])) s3 := by
    rw [← hs3]
    refine I2.laid (t' := s2.toks) (fun b o e => Heap.get?_push_of_some _ e) (Nat.le_of_eq hD) (setO_ok ?_)
    rw [hD] at hS0
    exact ⟨_, hS0, fun k => rfl⟩
  have h3 : s3.heap = s2.heap.push { cls := .type "set", dict := none, data := .set #[] 0 (.fresh 0 0 led) } := by rw [← hs3]
  have sz : ∀ b ∈ fp, b < s2.heap.objs.size := fun b hb => by
    obtain ⟨o, e, _⟩ := T.obj _ _ st2 b hb
    exact Heap.lt_size e
  have f3 : ∀ b ∈ fp, FpOk X pins (upd H2 D (setO X.prog X.w D [])) b ∧ b < s3.heap.objs.size := fun b hb => by
    have hlt := sz b hb
    refine ⟨⟨?_, (f2 b hb).2⟩, by rw [h3, Heap.size_push]; exact Nat.lt_succ_of_lt hlt⟩
    rw [upd_ne (by rw [← hD]; exact Nat.ne_of_lt hlt)]
    exact (f2 b hb).1
  have st3 : tn 0 s3.heap := T.keep _ _ _ st2 fun b _ o e => by rw [h3]; exact Heap.get?_push_of_some _ e
  have I4 := block_start I3 ok hN f3
  have pg := hg s3 (upd H2 D (setO X.prog X.w D [])) s3.heap.objs.size (cellsFrom (s3.heap.objs.size + 1) scope.names (cloFrom X.env.cells scope.names [])) fp
  have pt := ht s3 (upd H2 D (setO X.prog X.w D [])) s3.heap.objs.size (cellsFrom (s3.heap.objs.size + 1) scope.names (cloFrom X.env.cells scope.names [])) fp
  have pe := he s3 (upd H2 D (setO X.prog X.w D [])) s3.heap.objs.size (cellsFrom (s3.heap.objs.size + 1) scope.names (cloFrom X.env.cells scope.names [])) fp
  show codeAny _ _ (.compStart (.SetComp elt [⟨tg, iter, ifs, 0⟩] scope pos) 0 (.ref it) (.ref D) (compEnvC scope (cellsFrom (s3.heap.objs.size + 1) scope.names (cloFrom X.env.cells scope.names [])) s3.heap.objs.size X.env)) (compPost (model X.prog X.w) X.A X.xe use Qf (.ref D) s3.heap.objs.size) { s3 with heap := pushCells (s3.heap.push { cls := .type "dict", data := .dict #[] }) scope.names }
  have nfp : ∀ b ∈ fp, (upd H2 D (setO X.prog X.w D [])) b = none := fun b hb => (f3 b hb).1.1
  generalize hce : compEnvC scope (cellsFrom (s3.heap.objs.size + 1) scope.names (cloFrom X.env.cells scope.names [])) s3.heap.objs.size X.env = ce at I4 pg pt pe ⊢
  have cL : ce.locals = s3.heap.objs.size := by subst hce; rfl
  generalize hH3 : upd H2 D (setO X.prog X.w D []) = H3 at I3 I4 pg pt pe w0 nfp f3
  generalize hs4 : ({ s3 with heap := pushCells (s3.heap.push { cls := .type "dict", data := .dict #[] }) scope.names } : Shared) = s4 at I4 ⊢
  have st4 : tn 0 s4.heap := T.keep _ _ _ st3 fun b _ o e => by rw [← hs4]; exact pushCells_keeps _ _ _ _ (Heap.get?_push_of_some _ e)
  have stat : ∀ {σ' : St} {H' : Hp} {s' : Shared}, Inv (X.blk s3 H3 scope ce fp) [] σ' H' s' → (∀ b ∈ fp, H' b = none) → ∀ b ∈ fp, FpOk (X.blk s3 H3 scope ce fp) [] H' b := fun {σ' H' s'} I' hn b hb =>
    ⟨hn b hb, (I'.ok.exf b hb).1, I'.ok.exfs b hb, .inl hb, fun x c e => (I'.ok.exf b hb).2 x c e, fun p hp => absurd (show p ∈ ([] : List (Addr × Obj)) ++ [] from hp) (by simp)⟩
  have loop : codeAny (model X.prog X.w) X.A (.compLoop (.SetComp elt [⟨tg, iter, ifs, 0⟩] scope pos) 0 (.ref it) (.ref D) ce) (compPost (model X.prog X.w) X.A X.xe use Qf (.ref D) s3.heap.objs.size) s4 := by
    refine scLoop_any (fun n s' => ∃ i H', Inv (X.blk s3 H3 scope ce fp) [] (wipe σ (own.map (·.2))) H' s' ∧ tn i s'.heap ∧ (∀ b ∈ fp, H' b = none) ∧ W i n H') ?_ m0 ⟨0, H3, I4, st4, nfp, w0⟩
    rintro n s5 ⟨i, H5, I5, st5, n5, w5⟩
    rcases turn i n H5 w5 with ⟨stop, qq⟩ | ⟨go, Nx, hNx, step⟩
    · have td := T.done (X.blk s3 H3 scope ce fp) rfl rfl rfl hc i [] s5 _ H5 (fun _ _ => False) I5 (stat I5 n5) st5 stop
      refine thnF td fun r s6 ⟨hr, I6⟩ => ?_
      subst hr
      -- back in the def's context
      have I7 : Inv X pins σ H5 s6 := I3.call' (ch := fp) I6.os I6.base I6.hok I6.bare fun b hb => ⟨(f3 b hb).1.2.2.2.1, (f3 b hb).1.2.1, (f3 b hb).1.2.2.2.2.1, (f3 b hb).1.2.2.2.2.2⟩
      have nC : H5 s3.heap.objs.size = none := by
        have z : H5 ce.locals = none := I6.free
        rw [cL] at z
        exact z
      obtain ⟨m, hn, _⟩ := I6.loc
      have hn : s6.heap.Ns ce.locals m := hn
      rw [cL] at hn
      exact hRR D s3.heap.objs.size s6 m H5 I7 qq hn (I3.fpOk (Nat.le_refl _) nC)
    · have ti := T.item (X.blk s3 H3 scope ce fp) rfl rfl rfl hc i [] s5 _ H5 (fun _ _ => False) I5 (stat I5 n5) st5 go
      refine thnF ti fun r s6 ⟨u, hr, h6⟩ => ?_
      subst hr
      refine thnF h6 fun _ s7 ⟨x, H7, I7, r7, y7, st7, n7⟩ => ?_
      have I7' := I7.pinned (stat I7 n7) (T.obj _ _ st7)
      refine thnF (pg _ s7 _ H7 x u _ I7' r7 (step x H7 y7)) fun _ s8 ⟨σ8, H8, I8, hw8, q8⟩ => ?_
      refine thnF (pt _ s8 σ8 H8 _ I8 q8) fun b s9 ⟨H9, I9, q9⟩ => ?_
      -- the turn's end
      have fin : ∀ {s' : Shared} {H' : Hp}, Inv (X.blk s3 H3 scope ce fp) ([] ++ pinsAt fp s7.heap) σ8 H' s' → Nx H' → ∃ m, m < n ∧ ∃ i H', Inv (X.blk s3 H3 scope ce fp) [] (wipe σ (own.map (·.2))) H' s' ∧ tn i s'.heap ∧ (∀ b ∈ fp, H' b = none) ∧ W i m H' := fun {s' H'} I' nx => by
        obtain ⟨m', hm, w'⟩ := hNx H' nx
        have pin' : ∀ b ∈ fp, ∀ o, s7.heap.get? b = some o → s'.heap.get? b = some o ∧ H' b = none := fun b hb o e =>
          let z := I'.pin (b, o) (List.mem_append_right _ (List.mem_append_right _ (mem_pinsAt hb e)))
          ⟨z.1, z.2.1⟩
        have hl : (wipe σ (own.map (·.2))).length = σ8.length := by rw [← hw8, wipe_length]
        refine ⟨m', hm, i + 1, H', (I'.unpinned (pins := [])).weak hl (fun j v e => ?_), T.keep _ _ _ st7 fun b hb o e => (pin' b hb o e).1, fun b hb => ?_, w'⟩
        · rw [← hw8] at e
          exact (wipe_some e).1
        · obtain ⟨o, e, _⟩ := T.obj _ _ st7 b hb
          exact (pin' b hb o e).2
      cases b with
      | false =>
        simp only [Bool.false_eq_true, if_false] at q9 ⊢
        exact fin I9 q9
      | true =>
        simp only [if_true] at q9 ⊢
        refine thnF (pe _ s9 σ8 H9 _ I9 q9) fun z s10 ⟨yv, H10, I10, r10, ks, kk, ey, hD10, hz10, nx⟩ => ?_
        subst ey
        exact add_ok (X := X.blk s3 H3 scope ce fp) I10 hD10 hz10 r10 fun s11 I11 => fin I11 nx
  exact codeAny_compStart_setA loop (T.self X.A 0 _ _ _ st4 loop)
theorem pe_sc {elt tg iter : Expr} {ifs : List Expr} {scope : Scope} {own : List (Str × Nat)} {pos : Pos} {wi : TI} {g : TG} {tt : TT} {te : TE} (hc : X.calm = true) (hN : X.N.Nodup) (hi : PI X tg iter wi) (ok : BlkOk X.N X.env.scope scope own)
    (hg : ∀ (s : Shared) (H : Hp) (C : Addr) (cl : List (Str × Addr)) (fp : List Addr), PG (X.blk s H scope (compEnvC scope cl C X.env) fp) tg g) (ht : ∀ (s : Shared) (H : Hp) (C : Addr) (cl : List (Str × Addr)) (fp : List Addr), PTs (X.blk s H scope (compEnvC scope cl C X.env) fp) ifs tt)
    (he : ∀ (s : Shared) (H : Hp) (C : Addr) (cl : List (Str × Addr)) (fp : List Addr), PE (X.blk s H scope (compEnvC scope cl C X.env) fp) elt te) (hs : ∀ x, foldedSetIterable iter X.env x = pure x := by intro _; rfl) :
    PE X (.SetComp elt [⟨tg, iter, ifs, 0⟩] scope pos) (tSc X wi g tt te (own.map (·.2))) := by
  constructor
  intro pins s σ H Q I h
  rw [eval_SetCompA]
  refine sc_core hc hN I hi ok hg ht he hs h fun D C s' m H' I' q hn f => ⟨m, hn, fun h'' sb => ?_⟩
  obtain ⟨f0, f1, f2, f3, f4, f5⟩ := f
  exact ⟨.ref D, H', I'.turned (t' := s'.toks) (fun b o hb e => (sb.2 b hb).trans e) f0 f1 f3 f4 f5, rfl, q⟩
end
end L2

set_option Elab.async false
set_option linter.all false
set_option maxRecDepth 100000

namespace L2
open PySem PySem.Spec PyProof.Rows
theorem same_put {H H' : Hp} {D : Addr} {o : HO} (s : Same H H') (hD : H D = none) : Same H (upd H' D o) := fun b u e => by
  rw [upd_ne (ne_of_none e hD)]; exact s b u e
theorem seqR {t u : TS} {D : Ends} {σ : St} {H : Hp} (R : St → Hp → Prop) (h2 : ∀ σ' H', R σ' H' → u D σ' H') (h1 : ∀ nx : St → Hp → Prop, (∀ σ' H', R σ' H' → nx σ' H') → t { D with nx := nx } σ H) : tSeq t u D σ H := h1 _ h2

theorem lc_tup_map {K : PySem.W.Frag} {a : Addr} {xs : List V} {g : TG} {tt : TT} {te : TE} {vs : List Nat} {σ : St} {H1 : Hp} {D : Addr} {Qd : Hp → Prop} (hD : H1 D = none) (f : Nat → V) (ha : H1 a = some (.tup xs)) (hz : xs.length < sizeLine)
    (hs : ∀ i x H (R : VK) (F : Hp → Prop), xs[i]? = some x → Same H1 H → (∀ H', Same H H' → R (f i) H') → g x (wipe σ vs) H fun σ2 H2 => wipe σ2 vs = wipe σ vs ∧ tt σ2 H2 fun b H3 => if b = true then te σ2 H3 R else F H3)
    (hd : ∀ H', Same H1 H' → H' D = some (.lst ((List.range xs.length).map f)) → Qd H') :
    ∃ W : Nat → Nat → Hp → Prop, (∃ m, W 0 m (upd H1 D (.lst []))) ∧ ∀ i m H, W i m H →
      ((Itt K a).stop i H ∧ Qd H) ∨ ((Itt K a).go i H ∧ ∃ Nx : Hp → Prop, (∀ H', Nx H' → ∃ m', m' < m ∧ W (i + 1) m' H') ∧ ∀ x H', (Itt K a).yld i H x H' → g x (wipe σ vs) H' fun σ2 H2 => wipe σ2 vs = wipe σ vs ∧ tt σ2 H2 fun b H3 =>
        if b = true then te σ2 H3 fun y H4 => ∃ acc, H4 D = some (.lst acc) ∧ acc.length < sizeLine ∧ Nx (upd H4 D (.lst (acc ++ [y]))) else Nx H3) := by
  refine lc_tup (xs := xs) (fun i H => Same H1 H ∧ H D = some (.lst ((List.range i).map f))) ⟨same_put (Same.refl _) hD, upd_same⟩ (fun i H _ ⟨s, _⟩ => SqT.of (s _ _ ha)) (fun i x H hx ⟨s, e⟩ => ?_) (fun H ⟨s, e⟩ => hd H s e)
  refine hs i x H _ _ hx s fun H' s' => ⟨_, s' _ _ e, ?_, same_put (s.trans s') hD, ?_⟩
  · rw [List.length_map, List.length_range]
    exact Nat.lt_trans (List.getElem?_eq_some_iff.mp hx).1 hz
  · rw [upd_same, List.range_succ, List.map_append]; rfl

theorem lc_list_map {K : PySem.W.Frag} {a : Addr} {xs : List V} {g : TG} {tt : TT} {te : TE} {vs : List Nat} {σ : St} {H1 : Hp} {D : Addr} {Qd : Hp → Prop} (hD : H1 D = none) (f : Nat → V) (ha : H1 a = some (.lst xs)) (hz : xs.length < sizeLine)
    (hs : ∀ i x H (R : VK) (F : Hp → Prop), xs[i]? = some x → Same H1 H → (∀ H', Same H H' → R (f i) H') → g x (wipe σ vs) H fun σ2 H2 => wipe σ2 vs = wipe σ vs ∧ tt σ2 H2 fun b H3 => if b = true then te σ2 H3 R else F H3)
    (hd : ∀ H', Same H1 H' → H' D = some (.lst ((List.range xs.length).map f)) → Qd H') :
    ∃ W : Nat → Nat → Hp → Prop, (∃ m, W 0 m (upd H1 D (.lst []))) ∧ ∀ i m H, W i m H →
      ((Itl K a).stop i H ∧ Qd H) ∨ ((Itl K a).go i H ∧ ∃ Nx : Hp → Prop, (∀ H', Nx H' → ∃ m', m' < m ∧ W (i + 1) m' H') ∧ ∀ x H', (Itl K a).yld i H x H' → g x (wipe σ vs) H' fun σ2 H2 => wipe σ2 vs = wipe σ vs ∧ tt σ2 H2 fun b H3 =>
        if b = true then te σ2 H3 fun y H4 => ∃ acc, H4 D = some (.lst acc) ∧ acc.length < sizeLine ∧ Nx (upd H4 D (.lst (acc ++ [y]))) else Nx H3) := by
  refine lc_list (xs := xs) (fun i H => Same H1 H ∧ H D = some (.lst ((List.range i).map f))) ⟨same_put (Same.refl _) hD, upd_same⟩ (fun i H _ ⟨s, _⟩ => SqL.of (s _ _ ha)) (fun i x H hx ⟨s, e⟩ => ?_) (fun H ⟨s, e⟩ => hd H s e)
  refine hs i x H _ _ hx s fun H' s' => ⟨_, s' _ _ e, ?_, same_put (s.trans s') hD, ?_⟩
  · rw [List.length_map, List.length_range]
    exact Nat.lt_trans (List.getElem?_eq_some_iff.mp hx).1 hz
  · rw [upd_same, List.range_succ, List.map_append]; rfl
section
variable {X : Cx} {T : String} {name : Str} {id : String} {r : V → List V → Hp → VK → Prop} {o e : Expr} {es : List Expr} {to : TE} {t : TA} {apos cpos : Pos}

end

theorem sc_tup_map {X : Cx} {K : PySem.W.Frag} {a : Addr} {xs : List V} {g : TG} {tt : TT} {te : TE} {vs : List Nat} {σ : St} {H1 : Hp} {D : Addr} {Qd : Hp → Prop} (hD : H1 D = none) (f : Nat → Key) (ha : H1 a = some (.tup xs)) (hz : xs.length < 1000)
    (hs : ∀ i x H (R : VK) (F : Hp → Prop), xs[i]? = some x → Same H1 H → (∀ H', Same H H' → R (kV (f i)) H') → g x (wipe σ vs) H fun σ2 H2 => wipe σ2 vs = wipe σ vs ∧ tt σ2 H2 fun b H3 => if b = true then te σ2 H3 R else F H3)
    (hd : ∀ H', Same H1 H' → H' D = some (setO X.prog X.w D ((List.range xs.length).map f).reverse) → Qd H') :
    ∃ W : Nat → Nat → Hp → Prop, (∃ m, W 0 m (upd H1 D (setO X.prog X.w D []))) ∧ ∀ i m H, W i m H →
      ((Itt K a).stop i H ∧ Qd H) ∨ ((Itt K a).go i H ∧ ∃ Nx : Hp → Prop, (∀ H', Nx H' → ∃ m', m' < m ∧ W (i + 1) m' H') ∧ ∀ x H', (Itt K a).yld i H x H' → g x (wipe σ vs) H' fun σ2 H2 => wipe σ2 vs = wipe σ vs ∧ tt σ2 H2 fun b H3 =>
        if b = true then te σ2 H3 fun y H4 => ∃ ks k, y = kV k ∧ H4 D = some (setO X.prog X.w D ks) ∧ ks.length < 1000 ∧ Nx (upd H4 D (setO X.prog X.w D (k :: ks))) else Nx H3) := by
  refine ⟨fun i m H => m = xs.length - i ∧ i ≤ xs.length ∧ Same H1 H ∧ H D = some (setO X.prog X.w D ((List.range i).map f).reverse), ⟨xs.length, by simp, Nat.zero_le _, same_put (Same.refl _) hD, upd_same⟩, ?_⟩
  rintro i m H ⟨rfl, hi, s, e⟩
  have q : SqT K H a xs := SqT.of (s _ _ ha)
  by_cases hlt : i < xs.length
  · refine .inr ⟨⟨xs, xs[i], q, by simp [hlt]⟩, fun H' => Same H1 H' ∧ H' D = some (setO X.prog X.w D ((List.range (i + 1)).map f).reverse), fun H' p' => ⟨xs.length - (i + 1), by omega, rfl, hlt, p'⟩, fun x H' y => ?_⟩
    obtain ⟨e', y⟩ := y
    subst e'
    refine hs i x _ _ _ (y xs q) s fun H' s' => ⟨_, f i, rfl, s' _ _ e, ?_, same_put (s.trans s') hD, ?_⟩
    · rw [List.length_reverse, List.length_map, List.length_range]
      omega
    · rw [upd_same, List.range_succ, List.map_append, List.reverse_append]; rfl
  · have e' : i = xs.length := by omega
    subst e'
    exact .inl ⟨⟨xs, q, Nat.le_refl _⟩, hd H s e⟩
end L2
namespace My
open PySem PySem.Spec PyProof.Rows L2
structure Fine (n k : Nat) (d : PyData) : Prop where
  sh : d.showable = true
  nd : d.hasDict = false
  dp : d.depth ≤ k
  wt : wtD d ≤ n
  st : shortD d = true
theorem Fine.mono {n k n' k' : Nat} {d : PyData} (h : Fine n k d) (a : n ≤ n') (b : k ≤ k') : Fine n' k' d := ⟨h.sh, h.nd, Nat.le_trans h.dp b, Nat.le_trans h.wt a, h.st⟩
theorem fineAll {n k : Nat} : ∀ {ds : List PyData}, (∀ d ∈ ds, Fine n k d) → PyData.showableAll ds = true ∧ PyData.hasDictAll ds = false ∧ PyData.depthAll ds ≤ k ∧ wtAll ds ≤ ds.length * (n + 2) ∧ shortAll ds = true
  | [], _ => ⟨rfl, rfl, Nat.zero_le _, Nat.zero_le _, rfl⟩
  | d :: r, h => by
    obtain ⟨h1, h2, h3, h4, h5⟩ := fineAll (ds := r) fun x hx => h x (List.mem_cons_of_mem _ hx)
    have f := h d List.mem_cons_self
    refine ⟨?_, ?_, ?_, ?_, ?_⟩
    · show (d.showable && PyData.showableAll r) = true; rw [f.sh, h1]; rfl
    · show (d.hasDict || PyData.hasDictAll r) = false; rw [f.nd, h2]; rfl
    · show max d.depth (PyData.depthAll r) ≤ k; have := f.dp; omega
    · show wtD d + 2 + wtAll r ≤ (r.length + 1) * (n + 2); have := f.wt; rw [Nat.add_mul]; omega
    · show (shortD d && shortAll r) = true; rw [f.st, h5]; rfl
theorem Fine.tup {n k m N : Nat} {ds : List PyData} (h : ∀ d ∈ ds, Fine n k d) (l : ds.length ≤ m) (hN : m * (n + 2) + 3 ≤ N) : Fine N (k + 1) (.tuple ds) := by
  obtain ⟨h1, h2, h3, h4, h5⟩ := fineAll h
  have := Nat.mul_le_mul_right (n + 2) l
  exact ⟨h1, h2, by show PyData.depthAll ds + 1 ≤ _; omega, by show wtAll ds + 3 ≤ _; omega, h5⟩
theorem Fine.lst {n k m N : Nat} {ds : List PyData} (h : ∀ d ∈ ds, Fine n k d) (l : ds.length ≤ m) (hN : m * (n + 2) + 3 ≤ N) : Fine N (k + 1) (.list ds) := by
  obtain ⟨h1, h2, h3, h4, h5⟩ := fineAll h
  have := Nat.mul_le_mul_right (n + 2) l
  exact ⟨h1, h2, by show PyData.depthAll ds + 1 ≤ _; omega, by show wtAll ds + 2 ≤ _; omega, h5⟩

theorem len_two {α : Type} : ∀ {xs : List α}, xs.length = 2 → ∃ x y, xs = [x, y]
  | [x, y], _ => ⟨x, y, rfl⟩

def hide (H : Hp) (b : Addr) : Hp := fun a => if a = b then none else H a
def cutD (ds : List PyData) (lo hi : Option Int) : List PyData := (ds.drop (HT.sIx ds.length 0 lo)).take (HT.sIx ds.length ds.length hi - HT.sIx ds.length 0 lo)
def g0 (d : PyData) : Bool := d.showable && !d.hasDict && decide (d.depth ≤ 3) && decide (wtD d ≤ 300) && shortD d && d.canLay0
def g1 (m : Nat) : PyData → Bool
  | .tuple ds => decide (ds.length ≤ m) && ds.all g0
  | .list ds => decide (ds.length ≤ m) && ds.all g0
  | d => g0 d
def g2 (n m : Nat) : PyData → Bool
  | .tuple ds => decide (ds.length ≤ n) && ds.all (g1 m)
  | .list ds => decide (ds.length ≤ n) && ds.all (g1 m)
  | d => g0 d
theorem g0_fine {d : PyData} (h : g0 d = true) : Fine 300 3 d := by
  unfold g0 at h
  simp only [Bool.and_eq_true, Bool.not_eq_true', decide_eq_true_eq] at h
  exact ⟨h.1.1.1.1.1, h.1.1.1.1.2, h.1.1.1.2, h.1.1.2, h.1.2⟩
theorem g1_fine {m : Nat} {d : PyData} (h : g1 m d = true) : Fine (m * 302 + 303) 4 d := by
  cases d with
  | tuple ds =>
    simp only [g1, Bool.and_eq_true, decide_eq_true_eq, List.all_eq_true] at h
    exact Fine.tup (n := 300) (k := 3) (m := m) (N := m * 302 + 303) (fun d hd => g0_fine (h.2 d hd)) h.1 (by rw [show 300 + 2 = 302 from rfl]; omega)
  | list ds =>
    simp only [g1, Bool.and_eq_true, decide_eq_true_eq, List.all_eq_true] at h
    exact Fine.lst (n := 300) (k := 3) (m := m) (N := m * 302 + 303) (fun d hd => g0_fine (h.2 d hd)) h.1 (by rw [show 300 + 2 = 302 from rfl]; omega)
  | _ => exact (g0_fine h).mono (by omega) (by omega)
theorem g2_fine {n m N : Nat} {d : PyData} (h : g2 n m d = true) (hN : n * (m * 302 + 303 + 2) + 303 ≤ N) : Fine N 5 d := by
  have G : ∀ d, g1 m d = true → Fine (m * 302 + 303) 4 d := fun d h => g1_fine h
  generalize m * 302 + 303 = q at hN G
  have h0 : g0 d = true → Fine N 5 d := fun h => (g0_fine h).mono (Nat.le_trans (Nat.le_trans (by decide) (Nat.le_add_left 303 _)) hN) (by decide)
  cases d with
  | tuple ds =>
    obtain ⟨h1, h2⟩ : ds.length ≤ n ∧ ∀ x ∈ ds, g1 m x = true := by simpa only [g2, Bool.and_eq_true, decide_eq_true_eq, List.all_eq_true] using h
    exact Fine.tup (n := q) (k := 4) (m := n) (N := N) (fun d hd => G d (h2 d hd)) h1 (Nat.le_trans (Nat.add_le_add_left (by decide) _) hN)
  | list ds =>
    obtain ⟨h1, h2⟩ : ds.length ≤ n ∧ ∀ x ∈ ds, g1 m x = true := by simpa only [g2, Bool.and_eq_true, decide_eq_true_eq, List.all_eq_true] using h
    exact Fine.lst (n := q) (k := 4) (m := n) (N := N) (fun d hd => G d (h2 d hd)) h1 (Nat.le_trans (Nat.add_le_add_left (by decide) _) hN)
  | _ => exact h0 h
theorem word_g0 {z : Str} (h : WordS z) : g0 (.str z) = true := by
  have h1 := PySem.StrLaws.reprText_len z (fun c hc => Nat.lt_of_le_of_lt (h.all c hc).2 (by decide))
  have h2 := h.hi
  have h3 : (reprText z).length ≤ 300 := Nat.le_trans h1 (by omega)
  show (true && !false && decide (0 ≤ 3) && decide ((reprText z).length ≤ 300) && decide (z.length ≤ 1000) && PyData.strOk z) = true
  rw [decide_eq_true h3, decide_eq_true (show z.length ≤ 1000 by omega)]
  have h4 : PyData.strOk z = true := by
    unfold PyData.strOk
    rw [Array.all_eq_true']
    intro c hc
    exact decide_eq_true (Nat.lt_of_le_of_lt (h.all c (by simpa using hc)).2 (by decide))
  rw [h4]; rfl
theorem g2_tup {n m : Nat} {ds : List PyData} : g2 n m (.tuple ds) = true ↔ ds.length ≤ n ∧ ∀ x ∈ ds, g1 m x = true := by
  simp only [g2, Bool.and_eq_true, decide_eq_true_eq, List.all_eq_true]
theorem g1_tup {m : Nat} {ds : List PyData} : g1 m (.tuple ds) = true ↔ ds.length ≤ m ∧ ∀ x ∈ ds, g0 x = true := by
  simp only [g1, Bool.and_eq_true, decide_eq_true_eq, List.all_eq_true]
def oddD (d : PyData) : Prop := g0 d = true ∧ g1 2 d = true ∧ g2 2 2 d = true
def sp_law_odd2 : Sp := fun vs H Q _ => ∃ (b : Addr), vs = [.ref b, .str "a"] ∧ Bag H b ∧ ∀ v d H', Dt (hide H' b) v d → oddD d → Eff b H H' → Q v H'

def wordD : PyData → Bool
  | .str z => wordV (.str z)
  | _ => false
def kindD : PyData → Bool
  | .str k => decide (k = "number") || decide (k = "word")
  | _ => false
def colL : List PyData → Bool
  | [x, y] => wordD x && kindD y
  | _ => false
def colD : PyData → Bool
  | .tuple ds => colL ds
  | _ => false
def nameD : PyData → Str
  | .tuple (.str z :: _) => z
  | _ => ""
def formD : PyData → Bool
  | .tuple cs => decide (1 ≤ cs.length) && decide (cs.length ≤ 6) && cs.all colD && decide ((cs.map nameD).Nodup)
  | _ => false
theorem Dt.word {H : Hp} {v : V} {d : PyData} (h : Dt H v d) : wordV v = wordD d := by
  cases h <;> rfl

theorem kind_in (z : Str) : inV (.str z) ([("number" : Str), "word"].map V.str) = kindD (.str z) := by
  show (eqV (.str "number") (.str z) || (eqV (.str "word") (.str z) || false)) = (decide (z = "number") || decide (z = "word"))
  have e : ∀ x : Str, eqV (.str x) (.str z) = decide (z = x) := fun x => by
    show decide (x = z) = _
    exact decide_eq_decide.mpr ⟨Eq.symm, Eq.symm⟩
  rw [e, e, Bool.or_false]
theorem range_all (ds : List PyData) (f : PyData → Bool) (d0 : PyData) : ((List.range ds.length).map fun i => f (ds.getD i d0)).all id = ds.all f := by
  have e : (List.range ds.length).map (fun i => f (ds.getD i d0)) = ds.map f := by
    refine List.ext_getElem? fun i => ?_
    rw [List.getElem?_map, List.getElem?_map]
    by_cases h : i < ds.length
    · rw [List.getElem?_range h, List.getElem?_eq_getElem h]
      simp only [Option.map_some, List.getD_eq_getElem?_getD, List.getElem?_eq_getElem h, Option.getD_some]
    · rw [List.getElem?_eq_none (by simpa using h), List.getElem?_eq_none (by simpa using h)]; rfl
  rw [e, List.all_map]; rfl
theorem range_mapG {β : Type} (ds : List β) {α : Type} (f : β → α) (d0 : β) : (List.range ds.length).map (fun i => f (ds.getD i d0)) = ds.map f := by
  refine List.ext_getElem? fun i => ?_
  rw [List.getElem?_map, List.getElem?_map]
  by_cases h : i < ds.length
  · rw [List.getElem?_range h, List.getElem?_eq_getElem h]
    simp only [Option.map_some, List.getD_eq_getElem?_getD, List.getElem?_eq_getElem h, Option.getD_some]
  · rw [List.getElem?_eq_none (by simpa using h), List.getElem?_eq_none (by simpa using h)]; rfl
theorem range_map (ds : List PyData) {α : Type} (f : PyData → α) (d0 : PyData) : (List.range ds.length).map (fun i => f (ds.getD i d0)) = ds.map f := range_mapG ds f d0

theorem col_pair {H : Hp} {v : V} {d : PyData} (h : Dt H v d) (c : colD d = true) : ∃ a, v = .ref a ∧ ∃ (z k : Str), d = .tuple [.str z, .str k] ∧ H a = some (.tup [.str z, .str k]) := by
  cases h with
  | @tup a xs ds e r =>
    refine ⟨a, rfl, ?_⟩
    cases r with
    | nil => cases c
    | cons h1 r =>
      cases r with
      | nil => cases c
      | cons h2 r =>
        cases r with
        | cons _ _ => cases c
        | nil =>
          simp only [colD, colL, Bool.and_eq_true] at c
          cases h1 with
          | str z =>
            cases h2 with
            | str k => exact ⟨z, k, rfl, e⟩
            | _ => exact absurd c.2 (by simp [kindD])
          | _ => exact absurd c.1 (by simp [wordD])
  | _ => cases c
theorem dcnt_le : ∀ ks : List Key, dcnt ks ≤ ks.length
  | [] => Nat.le_refl _
  | k :: r => by
    have := dcnt_le r
    show (if hasK k r = true then dcnt r else dcnt r + 1) ≤ r.length + 1
    split <;> omega
theorem hasK_iff {k : Key} {ks : List Key} : hasK k ks = true ↔ k ∈ ks := by
  unfold hasK
  simp [List.any_eq_true]
theorem dcnt_full : ∀ ks : List Key, dcnt ks = ks.length ↔ ks.Nodup
  | [] => ⟨fun _ => List.nodup_nil, fun _ => rfl⟩
  | k :: r => by
    have h := dcnt_full r
    have l := dcnt_le r
    rw [List.nodup_cons]
    show (if hasK k r = true then dcnt r else dcnt r + 1) = r.length + 1 ↔ _
    by_cases q : hasK k r = true
    · rw [if_pos q]
      exact ⟨fun e => by omega, fun ⟨n, _⟩ => absurd (hasK_iff.mp q) n⟩
    · rw [if_neg q]
      constructor
      · intro e
        exact ⟨fun m => q (hasK_iff.mpr m), h.mp (by omega)⟩
      · rintro ⟨_, n⟩
        rw [h.mpr n]
theorem nodup_rev {α : Type} {l : List α} : l.reverse.Nodup ↔ l.Nodup := by
  unfold List.Nodup
  rw [List.pairwise_reverse]
  exact ⟨fun h => h.imp fun q z => q z.symm, fun h => h.imp fun q z => q z.symm⟩
theorem form_set {ds : List PyData} (l1 : 1 ≤ ds.length) (l6 : ds.length ≤ 6) (ca : ds.all colD = true) :
    formD (.tuple ds) = decide (V.int ((dcnt (ds.map fun d => (Sum.inr (nameD d) : Key)).reverse : Nat) : Int) = V.int ((ds.length : Nat) : Int)) := by
  show (decide (1 ≤ ds.length) && decide (ds.length ≤ 6) && ds.all colD && decide ((ds.map nameD).Nodup)) = _
  rw [decide_eq_true l1, decide_eq_true l6, ca]
  simp only [Bool.true_and]
  refine decide_eq_decide.mpr ?_
  have h := dcnt_full (ds.map fun d => (Sum.inr (nameD d) : Key)).reverse
  rw [List.length_reverse, List.length_map, nodup_rev] at h
  have e : (ds.map fun d => (Sum.inr (nameD d) : Key)) = (ds.map nameD).map Sum.inr := by rw [List.map_map]; rfl
  have n : (ds.map fun d => (Sum.inr (nameD d) : Key)).Nodup ↔ (ds.map nameD).Nodup := by
    rw [e]
    constructor
    · intro q
      refine (List.pairwise_map.mp q).imp fun h z => h (by rw [z])
    · intro q
      refine List.pairwise_map.mpr (q.imp fun h z => h (Sum.inr.inj z))
  rw [← n, ← h]
  constructor
  · intro q; rw [q]
  · intro q; injection q with q; omega
def colDat (c : Str × Str) : PyData := .tuple [.str c.1, .str c.2]
theorem DtAll.of {H : Hp} {α : Type} (f : α → PyData) : ∀ {vs : List V} {cs : List α}, vs.length = cs.length → (∀ (i : Nat) (v : V) (c : α), vs[i]? = some v → cs[i]? = some c → Dt H v (f c)) → DtAll H vs (cs.map f)
  | [], [], _, _ => .nil
  | v :: vs, c :: cs, l, h => .cons (h 0 v c rfl rfl) (DtAll.of f (by simpa using l) fun i v c h1 h2 => h (i + 1) v c (by simpa using h1) (by simpa using h2))
theorem names_mem {cols : Cols} (nm : NamesOK (cols.map (·.1))) {c : Str × Str} (h : c ∈ cols) : WordS c.1 := by
  obtain ⟨i, hi, rfl⟩ := List.getElem_of_mem h
  exact (nm i cols[i].1 (by rw [List.getElem?_map, List.getElem?_eq_getElem hi]; rfl)).1
theorem form_g2 {cols : Cols} (c6 : cols.length ≤ 6) (kd : Kinds cols) (nm : NamesOK (cols.map (·.1))) : g2 6 2 (.tuple (cols.map colDat)) = true := by
  refine g2_tup.mpr ⟨by rw [List.length_map]; exact c6, fun x hx => ?_⟩
  obtain ⟨c, hc, rfl⟩ := List.mem_map.mp hx
  refine g1_tup.mpr ⟨Nat.le_refl 2, fun y hy => ?_⟩
  simp only [List.mem_cons, List.not_mem_nil, or_false] at hy
  rcases hy with rfl | rfl
  · exact word_g0 (names_mem nm hc)
  · rcases kd c hc with e | e
    · rw [e]; decide +kernel
    · rw [e]; decide +kernel
theorem form_true {cols : Cols} (c1 : 1 ≤ cols.length) (c6 : cols.length ≤ 6) (kd : Kinds cols) (nm : NamesOK (cols.map (·.1))) : formD (.tuple (cols.map colDat)) = true := by
  show (decide (1 ≤ (cols.map colDat).length) && decide ((cols.map colDat).length ≤ 6) && (cols.map colDat).all colD && decide (((cols.map colDat).map nameD).Nodup)) = true
  rw [List.length_map, decide_eq_true c1, decide_eq_true c6, List.map_map]
  have e : (nameD ∘ colDat) = (·.1) := rfl
  rw [e, decide_eq_true nm.nodup]
  simp only [Bool.true_and, Bool.and_true, List.all_map, List.all_eq_true]
  intro c hc
  show (wordV (.str c.1) && kindD (.str c.2)) = true
  have h1 := (names_mem nm hc).b
  rw [show wordV (.str c.1) = true from h1]
  rcases kd c hc with e | e
  · rw [e]; decide +kernel
  · rw [e]; decide +kernel

theorem g2_str {n m : Nat} {d : PyData} (h : g2 n m d = true) (hn : n ≤ 100) (hm : m ≤ 100) : d.showable = true ∧ d.hasDict = false ∧ d.depth ≤ 100 ∧ d.shown.length ≤ sizeLine ∧ shortD d = true := by
  have f := g2_fine (N := 100 * (100 * 302 + 303 + 2) + 303) h (Nat.add_le_add_right (Nat.mul_le_mul hn (by omega)) _)
  exact ⟨f.sh, f.nd, Nat.le_trans f.dp (by decide), Nat.le_trans (Nat.le_trans (shown_le d) f.wt) (by decide), f.st⟩
end My

set_option Elab.async false
set_option linter.all false
set_option maxRecDepth 100000

namespace My
open PySem PySem.Spec PyProof.Rows L2
theorem relV_inj {x y : V} {u : Value} (h : L2.RelV x u) (h' : L2.RelV y u) : x = y := by
  cases x <;> cases y <;> simp only [L2.RelV] at h h'
  all_goals (try (first | rfl | (obtain ⟨t, rfl⟩ := h; obtain ⟨t', e⟩ := h'; cases e; rfl) | (subst h; cases h'; rfl)))
  all_goals (exfalso; first | (obtain ⟨t, rfl⟩ := h; obtain ⟨t', e⟩ := h'; cases e) | (obtain ⟨t, rfl⟩ := h; cases h') | (obtain ⟨t, rfl⟩ := h'; cases h) | (subst h; cases h'))
mutual
theorem Dt.fn {H : Hp} : ∀ {d d' : PyData} {v : V}, Dt H v d → Dt H v d' → d = d'
  | _, _, _, .non, h => by cases h; rfl
  | _, _, _, .bl b, h => by cases h; rfl
  | _, _, _, .int i, h => by cases h; rfl
  | _, _, _, .str x, h => by cases h; rfl
  | _, _, _, .lst e r, h => by
    cases h with
    | lst e' r' => rw [e] at e'; cases e'; rw [DtAll.fn r r']
    | tup e' r' => rw [e] at e'; cases e'
  | _, _, _, .tup e r, h => by
    cases h with
    | lst e' r' => rw [e] at e'; cases e'
    | tup e' r' => rw [e] at e'; cases e'; rw [DtAll.fn r r']
theorem DtAll.fn {H : Hp} : ∀ {d d' : List PyData} {v : List V}, DtAll H v d → DtAll H v d' → d = d'
  | _, _, _, .nil, h => by cases h; rfl
  | _, _, _, .cons a r, h => by
    cases h with
    | cons a' r' => rw [Dt.fn a a', DtAll.fn r r']
end
end My
namespace L2
open PySem PySem.Spec PyProof.Rows My
section
variable {X : Cx}
theorem eqAt_D {pins : List (Addr × Obj)} {σ : St} {H : Hp} {s : Shared} {A : Around} (I : Inv X pins σ H s) {x y : V} {u v : Value} {d e : PyData} (hx : Dt H x d) (hy : Dt H y e) (rx : RelV x u) (ry : RelV y v)
    (sd : SeqAt.shaped d = true) (se : SeqAt.shaped e = true) (hu : A.units + 64 < cLine) : SeqAt.EqAt A s u v (PyData.eqv d e) := by
  obtain ⟨as, r1⟩ := Dp.reads I d x u hx.dp rx
  obtain ⟨bs, r2⟩ := Dp.reads I e y v hy.dp ry
  exact SeqAt.eqAt_reads d e A s u v as bs r1 r2 (SeqAt.canLay_of_shaped sd) (SeqAt.canLay_of_shaped se) (SeqAt.room_of_shaped sd hu)
open Classical in

noncomputable def eqO (H : Hp) (d : PyData) (u : Value) : Bool := if h : ∃ (e : PyData) (x : V), RelV x u ∧ Dt H x e then PyData.eqv (Classical.choose h) d else false
theorem eqO_of {H : Hp} {d e : PyData} {x : V} {u : Value} (r : RelV x u) (h : Dt H x e) : eqO H d u = PyData.eqv e d := by
  have hx : ∃ (e : PyData) (x : V), RelV x u ∧ Dt H x e := ⟨e, x, r, h⟩
  unfold eqO
  rw [dif_pos hx]
  obtain ⟨y, ry, hy⟩ := Classical.choose_spec hx
  have := relV_inj r ry
  subst this
  rw [Dt.fn h hy]
theorem any_eqO {H : Hp} {d : PyData} : ∀ {xs : List V} {us : List Value} {ds : List PyData}, Vals xs us → DtAll H xs ds → us.any (eqO H d) = ds.any fun e => PyData.eqv e d
  | _, _, _, .nil, h => by cases h; rfl
  | _, _, _, .cons r t, h => by
    cases h with
    | cons a b => rw [List.any_cons, List.any_cons, eqO_of r a, any_eqO t b]
theorem mem_eqO {pins : List (Addr × Obj)} {σ : St} {H : Hp} {s : Shared} {A : Around} (I : Inv X pins σ H s) {y : V} {v : Value} {d : PyData} (hy : Dt H y d) (ry : RelV y v) (sd : SeqAt.shaped d = true) (hu : A.units + 64 < cLine) :
    ∀ {xs : List V} {us : List Value} {ds : List PyData}, Vals xs us → DtAll H xs ds → (∀ e ∈ ds, SeqAt.shaped e = true) → ∀ u ∈ us, SeqAt.EqAt A s u v (eqO H d u)
  | _, _, _, .nil, _, _ => fun u hu => by cases hu
  | _, _, _, .cons r t, h, hs => fun u hm => by
    cases h with
    | cons a b =>
      rcases List.mem_cons.mp hm with rfl | hm
      · rw [eqO_of r a]; exact eqAt_D I a hy r ry (hs _ List.mem_cons_self) sd hu
      · exact mem_eqO I hy ry sd hu t b (fun e he => hs e (List.mem_cons_of_mem _ he)) u hm

def rInD (neg : Bool) : R2 := fun x y H Q => ∃ p xs ds d, y = .ref p ∧ (H p = some (.lst xs) ∨ H p = some (.tup xs)) ∧ DtAll H xs ds ∧ Dt H x d ∧ (∀ e ∈ ds, SeqAt.shaped e = true) ∧ SeqAt.shaped d = true ∧
  Q (.bl (if neg then !(ds.any fun e => PyData.eqv e d) else ds.any fun e => PyData.eqv e d)) H
theorem op_inD (hu : X.A.units + 80 < cLine) : OpR X (compareOp .In) (rInD false) := by
  constructor
  intro pins s σ H x y v u Q I rx ry h
  obtain ⟨p, xs, ds, d, rfl, hq, ha, hd, hs, sd, q⟩ := h
  cases ry
  have hu' : X.A.in1.units + 64 < cLine := by show X.A.units + 1 + 64 < cLine; omega
  rcases hq with hq | hq
  · obtain ⟨its, r, pl, hz⟩ := I.list (SqL.of hq)
    refine SeqAt.in_listAt (eqO H d) pl.isList (fun w hw => mem_eqO I hd rx sd hu' r ha hs w (by simpa using hw)) ⟨.bl _, H, I, rfl, ?_⟩
    rw [show its.toArray.any (eqO H d) = its.any (eqO H d) by simp, any_eqO r ha]
    exact q
  · obtain ⟨its, r, pl, hz⟩ := I.tuple (SqT.of hq)
    refine SeqAt.in_tupleAt (eqO H d) pl (fun w hw => mem_eqO I hd rx sd hu' r ha hs w (by simpa using hw)) ⟨.bl _, H, I, rfl, ?_⟩
    rw [show its.toArray.any (eqO H d) = its.any (eqO H d) by simp, any_eqO r ha]
    exact q
end
end L2

namespace PySem.SeqAt
open AutoSeq1 (wpAny_loadPart')
open MeetsSeq MeetsSeq2 MeetsSeq3 SeqRoads2
theorem my_remove_loopAt (l : Addr) (items : Array Value) (n : Nat) (x : Value) (e : Value → Bool) (j : Nat) (hj : j < items.size) (hit : e items[j] = true) (k : Nat) (hs1 : items.size ≤ sizeLine) :
    ∀ i : Nat, j - i = k → i ≤ j → (∀ m (hm : m < items.size), i ≤ m → m < j → e items[m] = false) → Meets (Builtin.«list.remove.loop» ⟨[.ref l, x, rawInt i], []⟩)
      (fun A R s => s.heap.get? l = some { cls := .type "list", dict := none, data := .seq items n, slots := #[] } ∧ (∀ y, y ∈ items → EqAt A.in1 s y x (e y)) ∧ R (.ok (.ret .none)) { s with heap := s.heap.update l (Obj.mapSeq fun xs => xs.eraseIdxIfInBounds j) }) := by
  induction k with
  | zero =>
    intro i hk hij hno prog w A R s h
    obtain ⟨hp, g, d, tk, os⟩ := s; obtain ⟨hl, he, h⟩ := h
    have hij' : i = j := by omega
    subst hij'
    wp_walk using wpAny_loadPart' hl
    have hi : items[((i : Nat) : Int).toNat]? = some items[i] := by simp [hj]
    rw [hi]
    refine wpAny_bind (he _ (Array.getElem_mem hj) prog w _ _ ?_)
    rw [hit]
    have hz' : (items.eraseIdxIfInBounds i).size ≤ sizeLine + 1 := Nat.le_trans (size_erased items _) (Nat.le_succ_of_le hs1)
    wp_walk using (wpAny_updateSeq hl rfl (hz := hs1) (_hz' := hz')), wpAny_loadPart' hl
    simpa using h
  | succ k ih =>
    intro i hk hij hno prog w A R s h
    obtain ⟨hp, g, d, tk, os⟩ := s; obtain ⟨hl, he, h⟩ := h
    have hlt : i < items.size := by omega
    wp_walk using wpAny_loadPart' hl
    have hi : items[((i : Nat) : Int).toNat]? = some items[i] := by simp [hlt]
    have hc : ((i : Int) + 1) = ((i + 1 : Nat) : Int) := by push_cast; rfl
    rw [hi]
    refine wpAny_bind (he _ (Array.getElem_mem hlt) prog w _ _ ?_)
    rw [hno i hlt (Nat.le_refl _) (by omega)]
    wp_walk
    rw [hc]
    exact ⟨plainId_quiet plain_remove_loop _, codeAny_builtin entry_remove_loop (by
      rw [Around.under_plainId plain_remove_loop _]
      exact ih (i + 1) (by omega) (by omega) (fun m hm h1 h2 => hno m hm (by omega) h2) prog w A R _ ⟨hl, he, h⟩)⟩
theorem my_list_removeAt (l : Addr) (items : Array Value) (n : Nat) (x : Value) (e : Value → Bool) (j : Nat) (hj : j < items.size)
    (hit : e items[j] = true) (hno : ∀ m (hm : m < items.size), m < j → e items[m] = false) (hs1 : items.size ≤ sizeLine) :
    Meets (Builtin.«list.remove» ⟨[.ref l, x], []⟩)
      (fun A R s => s.heap.get? l = some { cls := .type "list", dict := none, data := .seq items n, slots := #[] } ∧ (∀ y, y ∈ items → EqAt A.in1 s y x (e y)) ∧ R (.ok (.ret .none)) { s with heap := s.heap.update l (Obj.mapSeq fun xs => xs.eraseIdxIfInBounds j) }) := by
  intro prog w A R s h
  obtain ⟨hp, g, d, tk, os⟩ := s; obtain ⟨hl, he, h⟩ := h
  wp_walk using wpAny_loadPart' hl
  exact ⟨plainId_quiet plain_remove_loop _, codeAny_builtin entry_remove_loop (by
    rw [Around.under_plainId plain_remove_loop _]
    exact my_remove_loopAt l items n x e j hj hit _ hs1 0 rfl (Nat.zero_le _) (fun m hm _ h2 => hno m hm h2) prog w A R _ ⟨hl, he, h⟩)⟩
end PySem.SeqAt

set_option Elab.async false
set_option linter.all false
set_option maxRecDepth 100000

namespace PySem
open Sem (wp)
section
variable {prog : Program} {w : World} {A : Around} {R : Result → Shared → Prop} {I ax : Addr}
end
end PySem
namespace L2
open PySem PySem.Spec PyProof.Rows My
section
variable {X : Cx}

def rSumL : List V → Hp → VK → Prop := fun vs H Q => ∃ (a z : Addr) (bs : List Addr) (xss : List (List V)), vs = [.ref a, .ref z] ∧ H a = some (.lst (bs.map V.ref)) ∧ H z = some (.lst []) ∧ Paired (fun b xs => H b = some (.lst xs)) bs xss ∧ (xss.map (·.length)).sum ≤ sizeLine ∧
  ∀ p H', Same H H' → H' p = some (.lst xss.flatten) → Q (.ref p) H'
end
end L2

set_option Elab.async false
set_option linter.all false
set_option maxRecDepth 100000

namespace L2
open PySem PySem.Spec PyProof.Rows My
section
variable {X : Cx}

def rRemD : V → List V → Hp → VK → Prop := fun x vs H Q => ∃ (a : Addr) (xs : List V) (ds : List PyData) (y : V) (d : PyData) (j : Nat) (e : PyData), x = .ref a ∧ vs = [y] ∧ H a = some (.lst xs) ∧ DtAll H xs ds ∧ Dt H y d ∧ (∀ e ∈ ds, SeqAt.shaped e = true) ∧ SeqAt.shaped d = true ∧
  ds[j]? = some e ∧ PyData.eqv e d = true ∧ (∀ (m : Nat) (e' : PyData), m < j → ds[m]? = some e' → PyData.eqv e' d = false) ∧ Q .non (upd H a (.lst (xs.eraseIdx j)))
theorem mt_removeD (hu : X.A.units + 80 < cLine) : MtR X "list.remove" rRemD := by
  constructor
  intro pins s σ H x vs v us Q I rx rv h
  obtain ⟨a, xs, ds, y, d, j, e, rfl, rfl, hH, ha, hd, hs, sd, hj, he, hno, q⟩ := h
  cases rx
  obtain ⟨u, rfl, ru⟩ := rv.one
  have hu' : X.A.in1.units + 64 < cLine := by show X.A.units + 1 + 64 < cLine; omega
  obtain ⟨z, its, n, r, hl, ob⟩ := I.lstM hH
  have at_ : ∀ (m : Nat) (e' : PyData) (hm : m < its.toArray.size), ds[m]? = some e' → eqO H d its.toArray[m] = PyData.eqv e' d := by
    intro m e' hm h'
    have hm' : m < xs.length := by rw [List.size_toArray] at hm; omega
    obtain ⟨w, hw, rw'⟩ := r.get (List.getElem?_eq_getElem hm')
    obtain ⟨d', hd', hD⟩ := ha.get (List.getElem?_eq_getElem hm')
    rw [h'] at hd'; cases hd'
    have : its.toArray[m] = w := by
      have h2 : its[m]? = some its[m] := List.getElem?_eq_getElem (by omega)
      rw [h2] at hw
      simpa using Option.some.inj hw
    rw [this]; exact eqO_of rw' hD
  have hjl : j < its.toArray.size := by
    have := (List.getElem?_eq_some_iff.mp hj).1
    rw [List.size_toArray, ← hl, ha.length]; exact this
  refine call_meets PySem.F.slot_list_remove ⟨_, ob, rfl⟩ PySem.F.entry_list_remove (PySem.F.args_list_remove_2 _ _)
    (SeqAt.my_list_removeAt a its.toArray n u (eqO H d) j hjl (by rw [at_ j e hjl hj]; exact he) (fun m hm hlt => ?_) (by rw [List.size_toArray]; omega))
    ⟨ob, fun w hw => mem_eqO I hd ru sd hu' r ha hs w (by simpa using hw), ?_⟩
  · have hm' : m < ds.length := by rw [List.size_toArray, ← hl, ha.length] at hm; exact hm
    rw [at_ m _ hm (List.getElem?_eq_getElem hm')]
    exact hno m _ hlt (List.getElem?_eq_getElem hm')
  · refine ⟨.non, _, I.lset (its' := its.eraseIdx j) hH ob ?_ (r.eraseIdx j) ?_, rfl, q⟩
    · show its.toArray.eraseIdxIfInBounds j = (its.eraseIdx j).toArray
      rw [List.eraseIdxIfInBounds_toArray]
    · have := len_erase xs j
      omega

def rIns : V → List V → Hp → VK → Prop := fun x vs H Q => ∃ (a : Addr) (xs : List V) (i : Int) (y : V), x = .ref a ∧ vs = [.int i, y] ∧ H a = some (.lst xs) ∧ 0 ≤ i ∧ i ≤ (xs.length : Int) ∧ xs.length < sizeLine ∧
  Q .non (upd H a (.lst (xs.take i.toNat ++ y :: xs.drop i.toNat)))
def sDelI (ta ti : TE) : TS := fun D σ H => ta σ H fun x H1 => ti σ H1 fun y H2 => ∃ (a : Addr) (xs : List V) (i : Int) (k : Nat), x = .ref a ∧ y = .int i ∧ H2 a = some (.lst xs) ∧ ixN xs.length i = some k ∧ D.nx σ (upd H2 a (.lst (xs.eraseIdx k)))
end
section
variable {X : Cx} {CX : CXT} {k : Nat} {f C : Addr} {fd : FuncData} {ps ks : List Str} {sp : Sp} {E : XK} {x m : Str} {p pos apos kpos : Pos} {e o : Expr} {es : List Expr} {kws : List Keyword} {te ta : TE} {t tk : TA} {nm : Option Str} {g : List Value → List Value → List Value} {gV : List V → List V → List V}

def tMakeK (C : Addr) (sp : Sp) (gV : List V → List V → List V) (E : XK) (t tk : TA) : TE := fun σ H Q => t σ H fun vs H1 => tk σ H1 fun zs H2 => ∀ x dx, H2 x = none → H2 dx = none → dx ≠ x →
  sp (gV (.ref x :: vs) zs) (upd (upd H2 dx (.own x)) x (.ins C dx [])) (fun v H3 => v = .non ∧ Q (.ref x) H3) E
theorem run_makek {pins : List (Addr × Obj)} {σ : St} {H : Hp} {s : Shared} {Q : VK} {us ws : List Value} {vs zs : List V} (M : Mk X.K C f) (F : FnOk X.prog X.w X.K X.mg X.base CX k f fd ps sp) (hr : Room (k + 1) X.A) (hb : KBinds X.K fd ps ks g gV)
    (hx : Passes CX X E) (I : Inv X pins σ H s) (r : Vals vs us) (rz : Vals zs ws)
    (h : ∀ x dx, H x = none → H dx = none → dx ≠ x → sp (gV (.ref x :: vs) zs) (upd (upd H dx (.own x)) x (.ins C dx [])) (fun v H2 => v = .non ∧ Q (.ref x) H2) E) :
    wpAny (model X.prog X.w) X.A (call (.ref C) us (ks.zip ws)) (EP X pins σ Q) X.xe s := by
  have hq := h (s.heap.objs.size + 1) s.heap.objs.size (I.hok.fresh (Nat.le_succ _)) (I.hok.fresh (Nat.le_refl _)) (Nat.ne_of_lt (Nat.lt_succ_self _))
  have I2 := Inv.made (C := C) I
  have r2 : Vals (gV (V.ref (s.heap.objs.size + 1) :: vs) zs) (g (Value.ref (s.heap.objs.size + 1) :: us) ws) := hb.rel (.cons rfl r) rz
  have hl : (g (Value.ref (s.heap.objs.size + 1) :: us) ws).length = ps.length := by
    rw [← r2.length]; exact F.len _ _ _ _ hq
  refine wpAny_call (make_map (f := f) I.kIn M.makes M.init (beq_iff_eq.mp M.fn) (codeAny_mono (F.run _ X.stack _ _ ⟨Value.ref (s.heap.objs.size + 1) :: us, ks.zip ws⟩ _ _ _ E (hr.make C us (ks.zip ws))
    (I2.env0.make C us (ks.zip ws)) (hb.to _ (Value.ref (s.heap.objs.size + 1) :: us) ws I2.kIn hl) r2 hq) fun r s' hq' => ?_))
  cases r with
  | error e => exact hx pins σ _ _ e s' I2 hq'
  | ok fl =>
    cases fl with
    | ret u =>
      obtain ⟨v, H', I3, rv, ev, q3⟩ := I2.after hq'
      subst ev
      exact ⟨rv, ⟨V.ref (s.heap.objs.size + 1), H', I3, rfl, q3⟩⟩
    | next => exact False.elim hq'
    | brk => exact False.elim hq'
    | cont => exact False.elim hq'

theorem pe_makeK0 (M : Mk X.K C f) (F : FnOk X.prog X.w X.K X.mg X.base CX k f fd ps sp) (hr : Room (k + 1) X.A) (hg : Gl X x) (hm : X.mg x = some (.ref C)) (hb : KBinds X.K fd ps ks g gV) (hx : Passes CX X E)
    (hkw : PK X kws tk) (hall : (backToKw pos (keywordEach kws X.env)).all (·.1.isSome) = true := by rfl) (hks : (backToKw pos (keywordEach kws X.env)).filterMap (·.1) = ks := by rfl)
    (hdb : (x == ("__debug__" : Str)) = false := by decide)
    (hpl : ((backTo pos (starEach [] X.env)).any (·.1) || (backToKw pos (keywordEach kws X.env)).any (·.1.isNone)) = false := by rfl) :
    PE X (.Call (.Name x p) [] kws pos) (tMakeK C sp gV E tNil tk) := by
  constructor
  intro pins s σ H Q I h
  refine wpAny_Call_Name_kw (ld_glob I hg hm ?_ hdb)
  refine PySem.W.callWith_KW0 (h₀ := X.base) I.ok.mod.kin M.kp hall (thn (hkw pos pins s σ H _ I h) fun ws s2 ⟨zs, H2, I2, rz, q2⟩ => ⟨I2.kIn, ?_⟩) hpl
  rw [hks]
  exact run_makek (us := []) (vs := []) M F hr hb hx I2 .nil rz q2

theorem pe_makeK (M : Mk X.K C f) (F : FnOk X.prog X.w X.K X.mg X.base CX k f fd ps sp) (hr : Room (k + 1) X.A) (hg : Gl X x) (hm : X.mg x = some (.ref C)) (hb : KBinds X.K fd ps ks g gV) (hx : Passes CX X E)
    (ha : PA X (e :: es) t) (hkw : PK X kws tk) (hall : (backToKw pos (keywordEach kws X.env)).all (·.1.isSome) = true := by rfl) (hks : (backToKw pos (keywordEach kws X.env)).filterMap (·.1) = ks := by rfl)
    (hdb : (x == ("__debug__" : Str)) = false := by decide) (he : starEach (e :: es) X.env = (false, eval e X.env) :: starEach es X.env := by rfl)
    (hpl : ((backTo pos (starEach (e :: es) X.env)).any (·.1) || (backToKw pos (keywordEach kws X.env)).any (·.1.isNone)) = false := by rfl) :
    PE X (.Call (.Name x p) (e :: es) kws pos) (tMakeK C sp gV E t tk) := by
  constructor
  intro pins s σ H Q I h
  refine wpAny_Call_Name_kw (ld_glob I hg hm ?_ hdb)
  refine PySem.W.callWith_KW (h₀ := X.base) I.ok.mod.kin M.kp hall (thn (ha pos pins s σ H _ I h) fun us s1 ⟨vs, H1, I1, r, q⟩ => ?_) hpl he
  refine thn (hkw pos pins s1 σ H1 _ I1 q) fun ws s2 ⟨zs, H2, I2, rz, q2⟩ => ⟨I2.kIn, ?_⟩
  rw [hks]
  exact run_makek M F hr hb hx I2 r rz q2

def tMethK (C : Addr) (m : Str) (sp : Sp) (gV : List V → List V → List V) (E : XK) (ta : TE) (t tk : TA) : TE := fun σ H Q => ta σ H fun x H1 => ∃ a dx fs, x = .ref a ∧ H1 a = some (.ins C dx fs) ∧ fs.lookup m = none ∧
  t σ H1 fun vs H2 => tk σ H2 fun zs H3 => sp (gV (x :: vs) zs) H3 Q E
end
end L2

set_option Elab.async false
set_option linter.all false
set_option maxRecDepth 100000

namespace My
open PySem PySem.Spec PyProof.Rows L2

structure Frm (g : List Addr) (H H' : Hp) : Prop where
  keep : ∀ c o, c ∉ g → H c = some o → H' c = some o
  tups : ∀ c xs, H c = some (.tup xs) → H' c = some (.tup xs)
  live : ∀ c o, H c = some o → ∃ o', H' c = some o'
theorem Frm.of_same {g : List Addr} {H H' : Hp} (s : Same H H') : Frm g H H' := ⟨fun c o _ e => s c o e, fun c xs e => s c _ e, fun c o e => ⟨o, s c o e⟩⟩
theorem Frm.refl (g : List Addr) (H : Hp) : Frm g H H := .of_same (Same.refl _)
theorem Frm.trans {g : List Addr} {H H1 H2 : Hp} (a : Frm g H H1) (b : Frm g H1 H2) : Frm g H H2 :=
  ⟨fun c o n e => b.keep c o n (a.keep c o n e), fun c xs e => b.tups c xs (a.tups c xs e), fun c o e => let ⟨_, h⟩ := a.live c o e; b.live c _ h⟩
theorem Frm.mono {g g' : List Addr} {H H' : Hp} (a : Frm g H H') (h : ∀ x ∈ g, x ∈ g') : Frm g' H H' := ⟨fun c o n e => a.keep c o (fun z => n (h c z)) e, a.tups, a.live⟩

def Nw (H : Hp) (g g' : List Addr) : Prop := ∀ x ∈ g', x ∈ g ∨ H x = none
theorem Nw.refl (H : Hp) (g : List Addr) : Nw H g g := fun x h => .inl h
theorem Nw.trans {H H1 : Hp} {g g1 g2 : List Addr} (a : Nw H g g1) (b : Nw H1 g1 g2) (l : ∀ c o, H c = some o → ∃ o', H1 c = some o') : Nw H g g2 := fun x h => by
  rcases b x h with z | z
  · exact a x z
  · cases q : H x with
    | none => exact .inr rfl
    | some o => obtain ⟨o', e⟩ := l x o q; rw [e] at z; cases z
theorem Frm.trans' {g g1 : List Addr} {H H1 H2 : Hp} (a : Frm g H H1) (b : Frm g1 H1 H2) (n : Nw H g g1) : Frm g H H2 :=
  ⟨fun c o m e => b.keep c o (fun z => by
    rcases n c z with h | h
    · exact m h
    · rw [h] at e; cases e) (a.keep c o m e), fun c xs e => b.tups c xs (a.tups c xs e), fun c o e => let ⟨_, h⟩ := a.live c o e; b.live c _ h⟩

theorem Frm.upd {g : List Addr} {H : Hp} {a : Addr} {o o' : HO} (h : H a = some o) (m : a ∈ g) (nt : ∀ xs, o ≠ .tup xs) : Frm g H (upd H a o') :=
  ⟨fun c u n e => by rw [L2.upd_ne (show c ≠ a from fun z => n (by rw [z]; exact m))]; exact e, fun c xs e => by rw [L2.upd_ne (ne_of e h (fun z => nt xs z.symm))]; exact e, fun c u e => by
    by_cases z : c = a
    · subst z; exact ⟨_, upd_same⟩
    · exact ⟨u, by rw [upd_ne z]; exact e⟩⟩
theorem Frm.lst {g : List Addr} {H : Hp} {a : Addr} {xs : List V} {o' : HO} (h : H a = some (.lst xs)) (m : a ∈ g) : Frm g H (L2.upd H a o') := .upd h m (fun _ z => by cases z)
theorem Frm.new {g : List Addr} {H : Hp} {p : Addr} {o : HO} (h : H p = none) : Frm g H (L2.upd H p o) := .of_same (same_new h)
theorem Eff.frm {b : Addr} {H H' : Hp} (e : Eff b H H') (hb : Bag H b) : Frm [b] H H' :=
  ⟨fun c o n h => e.2 c o (by simpa using n) h, fun c xs h => e.2 c _ (hb.neT h) h, fun c o h => by
    by_cases z : c = b
    · subst z
      obtain ⟨g, x, q, _⟩ := e.1
      exact ⟨_, q⟩
    · exact ⟨o, e.2 c o z h⟩⟩
def Dis (f g : List Addr) : Prop := ∀ x, x ∈ f → x ∈ g → False
theorem Dis.symm {f g : List Addr} (d : Dis f g) : Dis g f := fun x a b => d x b a
theorem Dis.nil (g : List Addr) : Dis [] g := fun x h => nomatch h
theorem Dis.mono {f g f' g' : List Addr} (d : Dis f g) (h : ∀ x ∈ f', x ∈ f) (h' : ∀ x ∈ g', x ∈ g) : Dis f' g' := fun x a b => d x (h x a) (h' x b)
theorem Dis.app {f g h : List Addr} (a : Dis f h) (b : Dis g h) : Dis (f ++ g) h := fun x m n => (List.mem_append.mp m).elim (fun z => a x z n) fun z => b x z n

def Liv (H : Hp) (f : List Addr) : Prop := ∀ x ∈ f, ∃ o, H x = some o
theorem Dis.nw {H : Hp} {f g g' : List Addr} (d : Dis f g) (l : Liv H f) (n : Nw H g g') : Dis f g' := fun x a b => by
  rcases n x b with z | z
  · exact d x a z
  · obtain ⟨o, e⟩ := l x a; rw [z] at e; cases e


abbrev Th := List Key × Int
def dK : Key → PyData
  | .inl i => .int i
  | .inr x => .str x
def thD (t : Th) : PyData := .tuple [.tuple (t.1.map dK), .int t.2]
def ThAt (H : Hp) (v : V) (t : Th) : Prop := ∃ p q, v = .ref p ∧ H p = some (.tup [.ref q, .int t.2]) ∧ H q = some (.tup (t.1.map kV))
theorem ThAt.frm {g : List Addr} {H H' : Hp} {v : V} {t : Th} (h : ThAt H v t) (f : Frm g H H') : ThAt H' v t := by
  obtain ⟨p, q, e, h1, h2⟩ := h
  exact ⟨p, q, e, f.tups _ _ h1, f.tups _ _ h2⟩
abbrev Ths (H : Hp) : List V → List Th → Prop := Paired (ThAt H)
theorem Ths.frm {g : List Addr} {H H' : Hp} : ∀ {vs : List V} {ts : List Th}, Ths H vs ts → Frm g H H' → Ths H' vs ts
  | _, _, .nil, _ => .nil
  | _, _, .cons h r, f => .cons (h.frm f) (Ths.frm r f)
theorem keys_dt {H : Hp} : ∀ ks : List Key, DtAll H (ks.map kV) (ks.map dK)
  | [] => .nil
  | .inl i :: r => .cons (.int i) (keys_dt r)
  | .inr x :: r => .cons (.str x) (keys_dt r)
theorem ThAt.dt {H : Hp} {v : V} {t : Th} (h : ThAt H v t) : Dt H v (thD t) := by
  obtain ⟨p, q, rfl, h1, h2⟩ := h
  exact .tup h1 (.cons (.tup h2 (keys_dt _)) (.cons (.int _) .nil))
theorem Ths.dt {H : Hp} : ∀ {vs : List V} {ts : List Th}, Ths H vs ts → DtAll H vs (ts.map thD)
  | _, _, .nil => .nil
  | _, _, .cons h r => .cons h.dt (Ths.dt r)
theorem Ths.length {H : Hp} {vs : List V} {ts : List Th} (h : Ths H vs ts) : vs.length = ts.length := Paired.length h
theorem Paired.getL {α β : Type} {F : α → β → Prop} : ∀ {l₁ : List α} {l₂ : List β} {i : Nat} {a : α}, Paired F l₁ l₂ → l₁[i]? = some a → ∃ b, l₂[i]? = some b ∧ F a b
  | _, _, 0, _, .cons h _, e => by simp at e; subst e; exact ⟨_, rfl, h⟩
  | _, _, i + 1, a, .cons _ r, e => by
    obtain ⟨b, h1, h2⟩ := Paired.getL (i := i) r (by simpa using e)
    exact ⟨b, by simpa using h1, h2⟩
theorem Paired.app {α β : Type} {F : α → β → Prop} : ∀ {l₁ m₁ : List α} {l₂ m₂ : List β}, Paired F l₁ l₂ → Paired F m₁ m₂ → Paired F (l₁ ++ m₁) (l₂ ++ m₂)
  | _, _, _, _, .nil, s => s
  | _, _, _, _, .cons h r, s => .cons h (Paired.app r s)
theorem Paired.eraseP {α β : Type} {F : α → β → Prop} : ∀ {l₁ : List α} {l₂ : List β} (n : Nat), Paired F l₁ l₂ → Paired F (l₁.eraseIdx n) (l₂.eraseIdx n)
  | _, _, _, .nil => .nil
  | _, _, 0, .cons _ r => r
  | _, _, n + 1, .cons h r => .cons h (Paired.eraseP n r)
theorem eqv_keys : ∀ a b : List Key, PyData.eqvAll (a.map dK) (b.map dK) = decide (a = b)
  | [], [] => rfl
  | [], _ :: _ => by simp [PyData.eqvAll]
  | _ :: _, [] => by simp [PyData.eqvAll]
  | x :: a, y :: b => by
    rw [List.map_cons, List.map_cons, PyData.eqvAll, eqv_keys a b]
    have h : PyData.eqv (dK x) (dK y) = decide (x = y) := by
      cases x with
      | inl i => cases y with
        | inl j => by_cases e : i = j <;> simp [dK, PyData.eqv, e]
        | inr j => simp [dK, PyData.eqv]
      | inr i => cases y with
        | inl j => simp [dK, PyData.eqv]
        | inr j => by_cases e : i = j <;> simp [dK, PyData.eqv, e]
    rw [h]
    by_cases e1 : x = y <;> by_cases e2 : a = b <;> simp [e1, e2]
theorem eqv_th (s t : Th) : PyData.eqv (thD s) (thD t) = decide (s = t) := by
  obtain ⟨a, i⟩ := s
  obtain ⟨b, j⟩ := t
  simp only [thD, PyData.eqv, PyData.eqvAll, eqv_keys, Prod.mk.injEq]
  by_cases e1 : a = b <;> by_cases e2 : i = j <;> simp [e1, e2]

def keyOk : Key → Prop
  | .inl i => -999 ≤ i ∧ i ≤ 999
  | .inr x => WordS x
structure ThOk (t : Th) : Prop where
  ks : ∀ k ∈ t.1, keyOk k
  hi : t.1.length ≤ 4
  n1 : 1 ≤ t.2
  n2 : t.2 ≤ 999
theorem shaped_th {t : Th} (h : ThOk t) : SeqAt.shaped (thD t) = true := by
  have h1 : ∀ ks : List Key, (∀ k ∈ ks, keyOk k) → PyData.canLayAll0 (ks.map dK) = true ∧ PyData.depthAll (ks.map dK) ≤ 2 := by
    intro ks
    induction ks with
    | nil => intro _; exact ⟨rfl, by decide⟩
    | cons k r ih =>
      intro hk
      obtain ⟨a, b⟩ := ih fun k' hk' => hk k' (List.mem_cons_of_mem _ hk')
      have hk0 := hk k List.mem_cons_self
      cases k with
      | inl i => exact ⟨by rw [List.map_cons]; simp only [dK, PyData.canLayAll0, PyData.canLay0, a]; rfl, by rw [List.map_cons]; simp only [dK, PyData.depthAll, PyData.depth]; omega⟩
      | inr x =>
        have hx : PyData.canLay0 (.str x) = true := by
          simp only [PyData.canLay0, PyData.strOk, Array.all_eq_true, decide_eq_true_eq]
          intro i hi
          have := hk0.all x.cps[i] (by simp)
          omega
        exact ⟨by rw [List.map_cons]; simp only [dK, PyData.canLayAll0, hx, a]; rfl, by rw [List.map_cons]; simp only [dK, PyData.depthAll, PyData.depth]; omega⟩
  obtain ⟨a, b⟩ := h1 t.1 h.ks
  simp only [SeqAt.shaped, thD, PyData.canLay0, PyData.canLayAll0, a, PyData.depth, PyData.depthAll, Bool.and_true, Bool.true_and, decide_eq_true_eq]
  omega
abbrev Own (α : Type) := Hp → Addr → α → List Addr → Prop
structure OwnOk {α : Type} (R : Own α) : Prop where
  frm : ∀ {H H' : Hp} {a : Addr} {d : α} {f g : List Addr}, R H a d f → Frm g H H' → Dis f g → R H' a d f
  liv : ∀ {H : Hp} {a : Addr} {d : α} {f : List Addr}, R H a d f → Liv H f
  slf : ∀ {H : Hp} {a : Addr} {d : α} {f : List Addr}, R H a d f → a ∈ f ∧ ∃ xs, H a = some (.lst xs)
def Pg : Own (List Th) := fun H a ts f => f = [a] ∧ ∃ xs, H a = some (.lst xs) ∧ Ths H xs ts
theorem pgOk : OwnOk Pg where
  frm := by
    rintro H H' a d f g ⟨rfl, xs, h, t⟩ k ds
    exact ⟨rfl, xs, k.keep _ _ (fun z => ds a (by simp) z) h, t.frm k⟩
  liv := by
    rintro H a d f ⟨rfl, xs, h, t⟩ x hx
    rw [List.mem_singleton.mp hx]; exact ⟨_, h⟩
  slf := by
    rintro H a d f ⟨rfl, xs, h, t⟩
    exact ⟨by simp, xs, h⟩
inductive LAll {α : Type} (R : Own α) (H : Hp) : List Addr → List α → List Addr → Prop
  | nil : LAll R H [] [] []
  | cons {b : Addr} {d : α} {f : List Addr} {as : List Addr} {ds : List α} {fs : List Addr} : R H b d f → LAll R H as ds fs → Dis f fs → LAll R H (b :: as) (d :: ds) (f ++ fs)
section
variable {α : Type} {R : Own α} {H H' : Hp}
theorem LAll.length : ∀ {as : List Addr} {ds : List α} {fs : List Addr}, LAll R H as ds fs → as.length = ds.length
  | _, _, _, .nil => rfl
  | _, _, _, .cons _ t _ => by rw [List.length_cons, List.length_cons, t.length]
theorem LAll.liv (ok : OwnOk R) : ∀ {as : List Addr} {ds : List α} {fs : List Addr}, LAll R H as ds fs → Liv H fs
  | _, _, _, .nil => fun x h => nomatch h
  | _, _, _, .cons r t _ => fun x h => (List.mem_append.mp h).elim (fun z => ok.liv r x z) fun z => t.liv ok x z
theorem LAll.frm (ok : OwnOk R) {g : List Addr} (k : Frm g H H') : ∀ {as : List Addr} {ds : List α} {fs : List Addr}, LAll R H as ds fs → Dis fs g → LAll R H' as ds fs
  | _, _, _, .nil, _ => .nil
  | _, _, _, .cons r t d, z => .cons (ok.frm r k (z.mono (fun x h => List.mem_append_left _ h) fun x h => h)) (t.frm ok k (z.mono (fun x h => List.mem_append_right _ h) fun x h => h)) d
theorem LAll.app : ∀ {as : List Addr} {ds : List α} {fs : List Addr} {bs : List Addr} {es : List α} {gs : List Addr}, LAll R H as ds fs → LAll R H bs es gs → Dis fs gs → LAll R H (as ++ bs) (ds ++ es) (fs ++ gs)
  | _, _, _, _, _, _, .nil, s, _ => s
  | _, _, _, _, _, _, .cons (f := f) (fs := fs') r t d, s, z => by
    rw [List.append_assoc]
    refine .cons r (t.app s (z.mono (fun x h => List.mem_append_right _ h) fun x h => h)) (fun x a b => ?_)
    rcases List.mem_append.mp b with q | q
    · exact d x a q
    · exact z x (List.mem_append_left _ a) q

theorem LAll.at_ : ∀ {as : List Addr} {ds : List α} {fs : List Addr} {i : Nat}, LAll R H as ds fs → i < ds.length → ∃ f1 b d f f2, as[i]? = some b ∧ ds[i]? = some d ∧ LAll R H (as.take i) (ds.take i) f1 ∧ R H b d f ∧ LAll R H (as.drop (i + 1)) (ds.drop (i + 1)) f2 ∧
    Dis f1 f ∧ Dis f1 f2 ∧ Dis f f2 ∧ fs = f1 ++ (f ++ f2)
  | _, _, _, i, .nil, h => absurd h (Nat.not_lt_zero _)
  | _, _, _, 0, .cons (b := b) (d := d) (f := f) (fs := fs) r t z, _ => ⟨[], b, d, f, fs, rfl, rfl, .nil, r, t, .nil _, .nil _, z, rfl⟩
  | _, _, _, i + 1, .cons (f := f) r t z, h => by
    obtain ⟨f1, b, d, g, f2, e1, e2, l1, rr, l2, z1, z2, z3, rfl⟩ := LAll.at_ (i := i) t (by simpa using h)
    refine ⟨f ++ f1, b, d, g, f2, by simpa using e1, by simpa using e2, .cons r l1 (z.mono (fun _ h => h) fun x h => List.mem_append_left _ h), rr, l2, .app (z.mono (fun _ h => h) fun x h => List.mem_append_right _ (List.mem_append_left _ h)) z1,
      .app (z.mono (fun _ h => h) fun x h => List.mem_append_right _ (List.mem_append_right _ h)) z2, z3, by rw [List.append_assoc]⟩
theorem take_set {β : Type} (xs : List β) (i : Nat) (x : β) (h : i < xs.length) : xs.take i ++ x :: xs.drop (i + 1) = xs.set i x := by
  induction xs generalizing i with
  | nil => exact absurd h (Nat.not_lt_zero _)
  | cons y r ih => cases i with
    | zero => rfl
    | succ i => simp only [List.take_succ_cons, List.cons_append, List.drop_succ_cons, List.set_cons_succ]; rw [ih i (by simpa using h)]
theorem take_erase {β : Type} (xs : List β) (i : Nat) : xs.take i ++ xs.drop (i + 1) = xs.eraseIdx i := (List.eraseIdx_eq_take_drop_succ xs i).symm
end
def LOf {α : Type} (R : Own α) : Own (List α) := fun H a ds f => ∃ as fs, H a = some (.lst (as.map V.ref)) ∧ LAll R H as ds fs ∧ a ∉ fs ∧ f = a :: fs
theorem lofOk {α : Type} {R : Own α} (ok : OwnOk R) : OwnOk (LOf R) where
  frm := by
    rintro H H' a d f g ⟨as, fs, h, l, n, rfl⟩ k z
    exact ⟨as, fs, k.keep _ _ (fun q => z a List.mem_cons_self q) h, l.frm ok k (z.mono (fun x h => List.mem_cons_of_mem _ h) fun _ h => h), n, rfl⟩
  liv := by
    rintro H a d f ⟨as, fs, h, l, n, rfl⟩ x hx
    rcases List.mem_cons.mp hx with rfl | hx
    · exact ⟨_, h⟩
    · exact l.liv ok x hx
  slf := by
    rintro H a d f ⟨as, fs, h, l, n, rfl⟩
    exact ⟨List.mem_cons_self, _, h⟩
abbrev Ch : Own (List (List Th)) := LOf Pg
abbrev Bk : Own (List (List (List Th))) := LOf Ch
theorem chOk : OwnOk Ch := lofOk pgOk
theorem bkOk : OwnOk Bk := lofOk chOk
section
variable {α : Type} {R : Own α} {H H' : Hp} {a : Addr} {ds : List α} {fp : List Addr}

theorem LOf.at_ (ok : OwnOk R) (h : LOf R H a ds fp) {i : Nat} (hi : i < ds.length) : ∃ (as : List Addr) (b : Addr) (d : α) (f : List Addr), H a = some (.lst (as.map V.ref)) ∧ as.length = ds.length ∧ as[i]? = some b ∧ ds[i]? = some d ∧ R H b d f ∧ (∀ x ∈ f, x ∈ fp) ∧ a ∉ f ∧
    ∀ H' d' f', Frm f H H' → R H' b d' f' → Nw H f f' → ∃ fp', LOf R H' a (ds.set i d') fp' ∧ Nw H fp fp' := by
  obtain ⟨as, fs, h0, l, n, rfl⟩ := h
  have hlen := l.length
  obtain ⟨f1, b, d, f, f2, e1, e2, l1, rr, l2, z1, z2, z3, rfl⟩ := l.at_ hi
  have na : a ∉ f1 ∧ a ∉ f ∧ a ∉ f2 := by simpa [not_or] using n
  refine ⟨as, b, d, f, h0, hlen, e1, e2, rr, fun x hx => by simp [hx], na.2.1, fun H' d' f' k r' nw => ?_⟩
  have y1 : Dis f1 f' := z1.nw (l1.liv ok) nw
  have y3 : Dis f' f2 := (z3.symm.nw (l2.liv ok) nw).symm
  have ha' : a ∉ f' := fun q => by
    rcases nw a q with q | q
    · exact na.2.1 q
    · rw [h0] at q; cases q
  have hb : b :: as.drop (i + 1) = as.drop i := by
    have hil : i < as.length := by omega
    rw [List.drop_eq_getElem_cons hil]
    have := e1
    rw [List.getElem?_eq_getElem hil] at this
    rw [Option.some.inj this]
  refine ⟨a :: (f1 ++ (f' ++ f2)), ⟨as, f1 ++ (f' ++ f2), k.keep _ _ na.2.1 h0, ?_, ?_, rfl⟩, ?_⟩
  · have := (l1.frm ok k z1).app (.cons r' (l2.frm ok k z3.symm) y3) (fun x p q => by
      rcases List.mem_append.mp q with q | q
      · exact y1 x p q
      · exact z2 x p q)
    rw [hb, List.take_append_drop, take_set _ _ _ hi] at this
    exact this
  · simp [not_or, na.1, ha', na.2.2]
  · intro x hx
    simp only [List.mem_cons, List.mem_append] at hx ⊢
    rcases hx with rfl | q | q | q
    · simp
    · simp [q]
    · rcases nw x q with q | q
      · simp [q]
      · exact .inr q
    · simp [q]
theorem LOf.push (ok : OwnOk R) (h : LOf R H a ds fp) {b : Addr} {d : α} {f : List Addr} (s : Same H H') (r : R H' b d f) (nf : ∀ x ∈ f, H x = none) : ∃ as : List Addr, H' a = some (.lst (as.map V.ref)) ∧ as.length = ds.length ∧ LOf R (upd H' a (.lst (as.map V.ref ++ [V.ref b]))) a (ds ++ [d]) (fp ++ f) ∧ Nw H fp (fp ++ f) ∧ Frm fp H (upd H' a (.lst (as.map V.ref ++ [V.ref b]))) := by
  obtain ⟨as, fs, h0, l, n, rfl⟩ := h
  have hf : ∀ g, Frm g H H' := fun g => .of_same s
  have ha := s _ _ h0
  have k : Frm [a] H' (upd H' a (.lst (as.map V.ref ++ [V.ref b]))) := .lst ha (by simp)
  have naf : a ∉ f := fun q => by rw [nf a q] at h0; cases h0
  have da : ∀ g : List Addr, a ∉ g → Dis g [a] := fun g hg x p q => by rw [List.mem_singleton.mp q] at p; exact hg p
  refine ⟨as, ha, l.length, ⟨as ++ [b], fs ++ f, by rw [upd_same, List.map_append]; rfl, ?_, by simp [n, naf], by simp⟩, fun x hx => ?_, ((hf _).trans (k.mono fun x hx => by rw [List.mem_singleton.mp hx]; exact List.mem_cons_self))⟩
  · refine ((l.frm ok (hf []) (fun _ _ q => nomatch q)).frm ok k (da _ n)).app ?_ ?_
    · have := LAll.cons (ok.frm r k (da _ naf)) .nil (fun x _ q => nomatch q)
      rw [List.append_nil] at this
      exact this
    · intro x p q
      obtain ⟨o, e⟩ := l.liv ok x p
      rw [nf x q] at e; cases e
  · rcases List.mem_append.mp hx with q | q
    · exact .inl q
    · exact .inr (nf x q)
theorem LOf.lst (h : LOf R H a ds fp) : ∃ as : List Addr, H a = some (.lst (as.map V.ref)) ∧ as.length = ds.length := by
  obtain ⟨as, fs, h0, l, n, rfl⟩ := h
  exact ⟨as, h0, l.length⟩
end

def pgD (ts : List Th) : PyData := .list (ts.map thD)
def chD (ps : List (List Th)) : PyData := .list (ps.map pgD)
def bkD (bs : List (List (List Th))) : PyData := .list (bs.map chD)
theorem LAll.dt {α : Type} {R : Own α} {H : Hp} {D : α → PyData} (hr : ∀ {a d f}, R H a d f → Dt H (.ref a) (D d)) : ∀ {as : List Addr} {ds : List α} {fs : List Addr}, LAll R H as ds fs → DtAll H (as.map V.ref) (ds.map D)
  | _, _, _, .nil => .nil
  | _, _, _, .cons r t _ => .cons (hr r) (t.dt hr)
theorem LOf.dt {α : Type} {R : Own α} {H : Hp} {D : α → PyData} (hr : ∀ {a d f}, R H a d f → Dt H (.ref a) (D d)) {a : Addr} {ds : List α} {f : List Addr} (h : LOf R H a ds f) : Dt H (.ref a) (.list (ds.map D)) := by
  obtain ⟨as, fs, h0, l, n, rfl⟩ := h
  exact .lst h0 (l.dt hr)
end My
namespace L2
open PySem PySem.Spec PyProof.Rows
theorem Room.u80 {k : Nat} {A : Around} (r : Room k A) : A.units + 80 < cLine := by have := r.un; omega
end L2
namespace My
open PySem PySem.Spec PyProof.Rows L2
structure MDef (K : PySem.W.Frag) (C : Addr) (m qual : Str) (st : Stmt) (fa : Addr) (fd : FuncData) : Prop where
  meth : Meth K C m fa
  fn : Fun K m qual st fa fd
structure MkDef (K : PySem.W.Frag) (C : Addr) (qual : Str) (st : Stmt) (fa : Addr) (fd : FuncData) : Prop where
  mkc : Mk K C fa
  fn : Fun K "__init__" qual st fa fd
end My

set_option Elab.async false
set_option linter.all false
set_option maxRecDepth 100000

namespace L2
open PySem PySem.Spec PyProof.Rows My
theorem for_enum {K : PySem.W.Frag} {a : Addr} {xs : List V} {g : TG} {tb : TS} {D : Ends} {σ : St} {H : Hp} (Pv : Nat → St → Hp → Prop) (h0 : Pv 0 σ H) (hl : ∀ i σ H, i ≤ xs.length → Pv i σ H → SqL K H a xs)
    (hs : ∀ i x T σ H, xs[i]? = some x → Pv i σ H → H T = none → g (.ref T) σ (upd H T (.tup [.int (i : Nat), x])) fun σ2 H2 => tb { D with nx := Pv (i + 1), ct := Pv (i + 1), bk := D.nx } σ2 H2) (hd : ∀ σ H, Pv xs.length σ H → D.nx σ H) :
    ∃ W : Nat → Nat → St → Hp → Prop, (∃ m, W 0 m σ H) ∧ ∀ i m σ H, W i m σ H →
      ((Ite K a).stop i H ∧ D.nx σ H) ∨ ((Ite K a).go i H ∧ ∃ N : St → Hp → Prop, (∀ σ' H', N σ' H' → ∃ m', m' < m ∧ W (i + 1) m' σ' H') ∧ ∀ y H', (Ite K a).yld i H y H' → g y σ H' fun σ2 H2 => tb { D with nx := N, ct := N, bk := D.nx } σ2 H2) := by
  refine ⟨fun i m σ H => m = xs.length - i ∧ i ≤ xs.length ∧ Pv i σ H, ⟨xs.length, rfl, Nat.zero_le _, h0⟩, ?_⟩
  rintro i m σ H ⟨rfl, hi, p⟩
  have q := hl i σ H hi p
  by_cases hlt : i < xs.length
  · refine .inr ⟨⟨xs, xs[i], q, by simp [hlt]⟩, Pv (i + 1), fun σ' H' p' => ⟨xs.length - (i + 1), by omega, rfl, hlt, p'⟩, fun y H' hy => ?_⟩
    obtain ⟨T, x, rfl, hT, rfl, hx⟩ := hy
    exact hs i x T σ H (hx xs q) p hT
  · have e : i = xs.length := by omega
    subst e
    exact .inl ⟨⟨xs, q, Nat.le_refl _⟩, hd σ H p⟩

end L2
namespace My
open PySem PySem.Spec PyProof.Rows L2
theorem lt_line {n : Nat} (h : n ≤ 100000) : n < sizeLine := Nat.lt_of_le_of_lt h (by decide)

theorem lc_own {α : Type} {R : Own α} (ok : OwnOk R) {K : PySem.W.Frag} {a : Addr} {xs : List V} {ds : List α} {g : TG} {tt : TT} {te : TE} {vs : List Nat} {σ : L2.St} {H1 : Hp} {D : Addr} {Qd : Hp → Prop} (hD : H1 D = none) (ha : H1 a = some (.lst xs)) (hlen : xs.length = ds.length) (hz : ds.length < 10000)
    (hs : ∀ (i : Nat) x d H (Rk : VK) (F : Hp → Prop), xs[i]? = some x → ds[i]? = some d → Same H1 H → (∀ b f H', Same H H' → R H' b d f → (∀ y ∈ f, H y = none) → Rk (.ref b) H') → g x (wipe σ vs) H fun σ2 H2 => wipe σ2 vs = wipe σ vs ∧ tt σ2 H2 fun b H3 => if b = true then te σ2 H3 Rk else F H3)
    (hd : ∀ H' fp, Same H1 H' → LOf R H' D ds fp → (∀ y ∈ fp, H1 y = none) → Qd H') :
    ∃ W : Nat → Nat → Hp → Prop, (∃ m, W 0 m (upd H1 D (.lst []))) ∧ ∀ i m H, W i m H →
      ((Itl K a).stop i H ∧ Qd H) ∨ ((Itl K a).go i H ∧ ∃ Nx : Hp → Prop, (∀ H', Nx H' → ∃ m', m' < m ∧ W (i + 1) m' H') ∧ ∀ x H', (Itl K a).yld i H x H' → g x (wipe σ vs) H' fun σ2 H2 => wipe σ2 vs = wipe σ vs ∧ tt σ2 H2 fun b H3 =>
        if b = true then te σ2 H3 fun y H4 => ∃ acc, H4 D = some (.lst acc) ∧ acc.length < sizeLine ∧ Nx (upd H4 D (.lst (acc ++ [y]))) else Nx H3) := by
  refine lc_list (xs := xs) (fun i H => Same H1 H ∧ ∃ as fs, H D = some (.lst (as.map V.ref)) ∧ LAll R H as (ds.take i) fs ∧ D ∉ fs ∧ ∀ y ∈ fs, H1 y = none) ⟨same_put (Same.refl _) hD, [], [], upd_same, .nil, by simp, by simp⟩ (fun i H _ ⟨s, _⟩ => SqL.of (s _ _ ha)) (fun i x H hx ⟨s, as, fs, e, l, nD, fr⟩ => ?_) (fun H ⟨s, as, fs, e, l, nD, fr⟩ => ?_)
  · have hil : i < ds.length := by rw [← hlen]; exact (List.getElem?_eq_some_iff.mp hx).1
    refine hs i x ds[i] H _ _ hx (List.getElem?_eq_getElem hil) s fun b f H' s' r nf => ⟨_, s' _ _ e, ?_, same_put (s.trans s') hD, as ++ [b], fs ++ f, ?_, ?_, ?_, ?_⟩
    · have := l.length
      rw [List.length_map, this, List.length_take]
      exact lt_line (by omega)
    · rw [upd_same, List.map_append]; rfl
    · have nDf : D ∉ f := fun z => by rw [nf D z] at e; cases e
      have k : Frm [D] H' (upd H' D (.lst (as.map V.ref ++ [V.ref b]))) := .lst (s' _ _ e) (by simp)
      have da : ∀ g : List Addr, D ∉ g → Dis g [D] := fun g hg x p q => by rw [List.mem_singleton.mp q] at p; exact hg p
      have e2 : ds.take (i + 1) = ds.take i ++ [ds[i]] := by rw [List.take_succ, List.getElem?_eq_getElem hil]; rfl
      rw [e2]
      have l2 := (l.frm ok (.of_same s' : Frm [] H H') (fun _ _ q => nomatch q)).frm ok k (da _ nD)
      have l3 := LAll.cons (ok.frm r k (da _ nDf)) .nil (fun x _ q => nomatch q)
      rw [List.append_nil] at l3
      refine l2.app l3 (fun y p q => ?_)
      obtain ⟨o, ho⟩ := l.liv ok y p
      rw [nf y q] at ho; cases ho
    · have nDf : D ∉ f := fun z => by rw [nf D z] at e; cases e
      simp [nD, nDf]
    · intro y hy
      rcases List.mem_append.mp hy with q | q
      · exact fr y q
      · exact s.free (nf y q)
  · have e2 : ds.take xs.length = ds := List.take_of_length_le (by omega)
    rw [e2] at l
    exact hd H (D :: fs) s ⟨as, fs, e, l, nD, rfl⟩ (fun y hy => by
      rcases List.mem_cons.mp hy with rfl | q
      · exact hD
      · exact fr y q)

theorem Ch.new {H : Hp} {l : Addr} (hl : H l = none) : Ch (upd H l (.lst [])) l [] [l] := ⟨[], [], upd_same, .nil, by simp, rfl⟩

end My

set_option Elab.async false
set_option linter.all false
set_option maxRecDepth 100000

namespace L2
open PySem PySem.Spec PyProof.Rows My
section
variable {X : Cx}

def rIsTT : List V → Hp → VK → Prop := fun vs H Q => ∃ x p, vs = [x, .ref p] ∧ Tyd H x ∧ H p = some (.tup [.ty "list", .ty "tuple"]) ∧ Q (.bl (instB H x "list" || instB H x "tuple")) H
theorem kitAny_lt (K : PySem.W.Frag) {H : Hp} {v : V} (h : Tyd H v) : PySem.W.kitAny K (.type (tyN H v)) [.type "list", .type "tuple"] = some (instB H v "list" || instB H v "tuple") := by
  have h1 := kit_T K h (n := "list") (by decide)
  have h2 := kit_T K h (n := "tuple") (by decide)
  simp only [PySem.W.kitAny, h1, h2]
  cases instB H v "list" <;> cases instB H v "tuple" <;> rfl
theorem call_isTT : CallR X (.builtin "isinstance") rIsTT := by
  constructor
  intro pins s σ H xs us Q I r h
  obtain ⟨x, p, rfl, ty, hp, q⟩ := h
  cases r with
  | cons r1 rr =>
  cases rr with
  | cons r2 rr =>
  cases rr
  cases (r2 : _ = _)
  have e := kitAny_lt X.K ty
  obtain ⟨its, rv, pl, _⟩ := I.tuple (SqT.of hp)
  obtain ⟨⟨cls, dd, data, sl⟩, ho, hc, n, hd⟩ := pl
  simp only at hc hd
  subst hc hd
  cases rv with
  | cons q1 rv =>
  cases rv with
  | cons q2 rv =>
  cases rv
  cases (q1 : _ = _)
  cases (q2 : _ = _)
  have fin : ∀ tk, EP X pins σ Q (.bool (instB H x "list" || instB H x "tuple")) { s with toks := tk } := fun tk => ⟨.bl _, H, I.tok tk, rfl, q⟩
  cases x with
  | non => cases (r1 : _ = _); exact PySem.W.kia_tup PySem.W.kitx_none I.kIn True.intro ho e (fun z => nomatch z) fin
  | bl y => cases (r1 : _ = _); exact PySem.W.kia_tup PySem.W.kitx_bool I.kIn True.intro ho e (fun z => nomatch z) fin
  | int i => obtain ⟨t, rfl⟩ := r1; exact PySem.W.kia_tup PySem.W.kitx_int I.kIn True.intro ho e (fun z => nomatch z) fin
  | str y => obtain ⟨t, rfl⟩ := r1; exact PySem.W.kia_tup PySem.W.kitx_str I.kIn True.intro ho e (fun z => nomatch z) fin
  | ref a =>
    cases (r1 : _ = _)
    rcases ty with ⟨ys, ea⟩ | ⟨ys, ea⟩
    · have z : tyN H (.ref a) = "list" := by show (match H a with | some (.lst _) => "list" | _ => "tuple") = _; rw [ea]
      rw [z] at e
      obtain ⟨_, _, m, _, h1⟩ := (show ObjOk X.prog X.w H s.heap a (.lst ys) from I.hok a _ ea)
      exact PySem.W.kia_tup PySem.W.kitx_list I.kIn ⟨_, h1, rfl⟩ ho e (fun z => nomatch z) fin
    · have z : tyN H (.ref a) = "tuple" := by show (match H a with | some (.lst _) => "list" | _ => "tuple") = _; rw [ea]
      rw [z] at e
      obtain ⟨_, _, _, o, h1, h2, _⟩ := (show ObjOk X.prog X.w H s.heap a (.tup ys) from I.hok a _ ea)
      exact PySem.W.kia_tup PySem.W.kitx_tuple I.kIn ⟨o, h1, h2⟩ ho e (fun z => nomatch z) fin
  | byt _ => exact ty.elim
  | flt _ => exact ty.elim
  | ty _ => exact ty.elim
end
end L2
namespace My
open PySem PySem.Spec PyProof.Rows L2

structure KindsL (ks : List Str) : Prop where
  k : ∀ k ∈ ks, k = "number" ∨ k = "word"
  lo : 1 ≤ ks.length
  hi : ks.length ≤ 4
def kindOf : Key → Str
  | .inl _ => "number"
  | .inr _ => "word"

structure ThK (ks : List Str) (t : Th) : Prop where
  ok : ThOk t
  kd : t.1.map kindOf = ks
def sp_law_kinds : Sp := fun vs H Q _ => ∃ b, vs = [.ref b] ∧ Bag H b ∧ ∀ L ks H', H L = none → KindsL ks → H' L = some (.lst (ks.map V.str)) → Eff b H H' → Q (.ref L) H'
def sp_law_things : Sp := fun vs H Q _ => ∃ (b l : Addr) (ks : List Str) (m : Int), vs = [.ref b, .ref l, .int m] ∧ Bag H b ∧ H l = some (.lst (ks.map V.str)) ∧ KindsL ks ∧ 0 ≤ m ∧ m ≤ 60 ∧
  ∀ L xs ts H', H L = none → H' L = some (.lst xs) → Ths H' xs ts → ts.Nodup → (∀ t ∈ ts, ThK ks t) → (ts.length : Int) ≤ m → (1 ≤ m → 1 ≤ ts.length) → Eff b H H' → Q (.ref L) H'

theorem ValS.key {x : Str} {v : V} (h : ValS x v) (hx : x = "number" ∨ x = "word") : ∃ k, v = kV k ∧ keyOk k ∧ kindOf k = x := by
  unfold ValS at h
  split at h
  · rename_i e
    obtain ⟨z, rfl, hz⟩ := h
    exact ⟨.inr z, rfl, hz, e.symm⟩
  · rename_i e
    obtain ⟨i, rfl, h1, h2⟩ := h
    exact ⟨.inl i, rfl, ⟨h1, h2⟩, (hx.resolve_right e).symm⟩

mutual
def wideD : PyData → Bool
  | .list xs => decide (xs.length ≤ 1000) && wideAll xs
  | .tuple xs => decide (xs.length ≤ 1000) && wideAll xs
  | _ => true
def wideAll : List PyData → Bool
  | [] => true
  | x :: r => wideD x && wideAll r
end
theorem wideAll_iff : ∀ {ds : List PyData}, wideAll ds = true ↔ ∀ d ∈ ds, wideD d = true
  | [] => by simp [wideAll]
  | x :: r => by simp [wideAll, wideAll_iff (ds := r)]
theorem shortAll_iff : ∀ {ds : List PyData}, shortAll ds = true ↔ ∀ d ∈ ds, shortD d = true
  | [] => by simp [shortAll]
  | x :: r => by simp [shortAll, shortAll_iff (ds := r)]
theorem canAll_iff : ∀ {ds : List PyData}, PyData.canLayAll0 ds = true ↔ ∀ d ∈ ds, d.canLay0 = true
  | [] => by simp [PyData.canLayAll0]
  | x :: r => by simp [PyData.canLayAll0, canAll_iff (ds := r)]
theorem depthAll_le {n : Nat} : ∀ {ds : List PyData}, PyData.depthAll ds ≤ n ↔ ∀ d ∈ ds, d.depth ≤ n
  | [] => by simp [PyData.depthAll]
  | x :: r => by simp [PyData.depthAll, depthAll_le (ds := r), Nat.max_le]

structure Eas (n : Nat) (d : PyData) : Prop where
  can : d.canLay0 = true
  sh : shortD d = true
  wd : wideD d = true
  dp : d.depth ≤ n
theorem Eas.shaped {n : Nat} {d : PyData} (h : Eas n d) (hn : n ≤ 64) : SeqAt.shaped d = true := by
  simp only [SeqAt.shaped, h.can, Bool.true_and, decide_eq_true_eq]
  exact Nat.le_trans h.dp hn
theorem Eas.lst {n : Nat} {ds : List PyData} (hl : ds.length ≤ 1000) (h : ∀ d ∈ ds, Eas n d) : Eas (n + 1) (.list ds) where
  can := by rw [PyData.canLay0]; exact canAll_iff.mpr fun d hd => (h d hd).can
  sh := by rw [shortD]; exact shortAll_iff.mpr fun d hd => (h d hd).sh
  wd := by rw [wideD, decide_eq_true hl, Bool.true_and]; exact wideAll_iff.mpr fun d hd => (h d hd).wd
  dp := by rw [PyData.depth]; exact Nat.succ_le_succ (depthAll_le.mpr fun d hd => (h d hd).dp)
theorem Eas.tup {n : Nat} {ds : List PyData} (hl : ds.length ≤ 1000) (h : ∀ d ∈ ds, Eas n d) : Eas (n + 1) (.tuple ds) where
  can := by rw [PyData.canLay0]; exact canAll_iff.mpr fun d hd => (h d hd).can
  sh := by rw [shortD]; exact shortAll_iff.mpr fun d hd => (h d hd).sh
  wd := by rw [wideD, decide_eq_true hl, Bool.true_and]; exact wideAll_iff.mpr fun d hd => (h d hd).wd
  dp := by rw [PyData.depth]; exact Nat.succ_le_succ (depthAll_le.mpr fun d hd => (h d hd).dp)
theorem Eas.int (n : Nat) (i : Int) : Eas n (.int i) := ⟨rfl, rfl, rfl, Nat.zero_le _⟩
theorem Eas.word (n : Nat) {x : Str} (h : WordS x) : Eas n (.str x) := ⟨by
    simp only [PyData.canLay0, PyData.strOk, Array.all_eq_true, decide_eq_true_eq]
    intro i hi
    have := h.all x.cps[i] (by simp)
    omega, by rw [shortD]; exact decide_eq_true (Nat.le_trans h.hi (by decide)), rfl, Nat.zero_le _⟩
theorem Eas.mono {n m : Nat} {d : PyData} (h : Eas n d) (hm : n ≤ m) : Eas m d := ⟨h.can, h.sh, h.wd, Nat.le_trans h.dp hm⟩
theorem Eas.of_lst {n : Nat} {ds : List PyData} (h : Eas (n + 1) (.list ds)) : ds.length ≤ 1000 ∧ ∀ d ∈ ds, Eas n d := by
  have c := h.can; rw [PyData.canLay0] at c
  have s := h.sh; rw [shortD] at s
  have w := h.wd; rw [wideD, Bool.and_eq_true, decide_eq_true_eq] at w
  have p := h.dp; rw [PyData.depth] at p
  exact ⟨w.1, fun d hd => ⟨canAll_iff.mp c d hd, shortAll_iff.mp s d hd, wideAll_iff.mp w.2 d hd, depthAll_le.mp (Nat.le_of_succ_le_succ p) d hd⟩⟩
theorem Eas.of_tup {n : Nat} {ds : List PyData} (h : Eas (n + 1) (.tuple ds)) : ds.length ≤ 1000 ∧ ∀ d ∈ ds, Eas n d := by
  have c := h.can; rw [PyData.canLay0] at c
  have s := h.sh; rw [shortD] at s
  have w := h.wd; rw [wideD, Bool.and_eq_true, decide_eq_true_eq] at w
  have p := h.dp; rw [PyData.depth] at p
  exact ⟨w.1, fun d hd => ⟨canAll_iff.mp c d hd, shortAll_iff.mp s d hd, wideAll_iff.mp w.2 d hd, depthAll_le.mp (Nat.le_of_succ_le_succ p) d hd⟩⟩
theorem Eas.no0l {ds : List PyData} (h : Eas 0 (.list ds)) : False := by have p := h.dp; rw [PyData.depth] at p; omega
theorem Eas.no0t {ds : List PyData} (h : Eas 0 (.tuple ds)) : False := by have p := h.dp; rw [PyData.depth] at p; omega
def sp_law_like (n : Nat) : Sp := fun vs H Q _ => match n with
  | 0 => False
  | n + 1 => ∃ (t u : V) (d : PyData), vs = [t, u] ∧ Dt H t d ∧ Dt H u d ∧ Eas n d ∧ n ≤ 60 ∧ ∀ H', Same H H' → Q (.bl true) H'
theorem instB_lst {H : Hp} {a : Addr} {xs : List V} (e : H a = some (.lst xs)) : instB H (.ref a) "list" = true := by
  unfold instB
  rw [show tyN H (.ref _) = "list" by show (match H _ with | some (.lst _) => "list" | _ => "tuple") = _; rw [e]]; rfl
theorem instB_tup {H : Hp} {a : Addr} {xs : List V} (e : H a = some (.tup xs)) : instB H (.ref a) "tuple" = true := by
  unfold instB
  rw [show tyN H (.ref _) = "tuple" by show (match H _ with | some (.lst _) => "list" | _ => "tuple") = _; rw [e]]; rfl
def isBoolD : PyData → Bool
  | .bool _ => true
  | _ => false
theorem Dt.instBool {H : Hp} {v : V} {d : PyData} (h : Dt H v d) : instB H v "bool" = isBoolD d := by
  cases h with
  | lst e r =>
    unfold instB
    rw [show tyN H (.ref _) = "list" by show (match H _ with | some (.lst _) => "list" | _ => "tuple") = _; rw [e]]; rfl
  | tup e r =>
    unfold instB
    rw [show tyN H (.ref _) = "tuple" by show (match H _ with | some (.lst _) => "list" | _ => "tuple") = _; rw [e]]; rfl
  | _ => rfl
end My
namespace My
open PySem PySem.Spec PyProof.Rows L2
def memB (ts : List Th) (t : Th) : Bool := ts.any fun s => decide (s = t)
theorem memB_iff {ts : List Th} {t : Th} : memB ts t = true ↔ t ∈ ts := by simp [memB, List.any_eq_true]
theorem any_th (ts : List Th) (t : Th) : ((ts.map thD).any fun e => PyData.eqv e (thD t)) = memB ts t := by
  rw [List.any_map]
  have : ((fun e => PyData.eqv e (thD t)) ∘ thD) = fun s => decide (s = t) := funext fun s => eqv_th s t
  rw [this]
  rfl
theorem mem_shaped {ts : List Th} (h : ∀ t ∈ ts, ThOk t) : ∀ e ∈ ts.map thD, SeqAt.shaped e = true := fun e he => by
  obtain ⟨t, ht, rfl⟩ := List.mem_map.mp he
  exact shaped_th (h t ht)
end My
namespace L2
open PySem PySem.Spec PyProof.Rows My
section
variable {X : Cx}
theorem call_list_ofK {K : PySem.W.Frag} (h : X.K = K := by rfl) : CallR X (.type "list") (fun xs H Q => ∃ p ys, xs = [.ref p] ∧ (SqL K H p ys ∨ SqT K H p ys) ∧ ∀ l, H l = none → Q (.ref l) (upd H l (.lst ys))) := by subst h; exact call_list_of
end
end L2
namespace L2
open PySem PySem.Spec PyProof.Rows My
section
variable {X : Cx}
theorem pi_listK {K : PySem.W.Frag} {tg l : Expr} {tl : TE} (h : PE X l tl) (hK : X.K = K := by rfl) : PI X tg l (iList K tl) := by subst hK; exact pi_list h
end
end L2
namespace L2
open PySem PySem.Spec PyProof.Rows My
section
variable {X : Cx} {pos : Pos}

def tPar3 (i j l : Nat) (ta : TA) : TS := fun D σ H => ta σ H fun vs H1 => ∃ v w z, vs = [v, w, z] ∧ D.nx (((σ.set l (some z)).set j (some w)).set i (some v)) H1
end
end L2
namespace My
open PySem PySem.Spec PyProof.Rows L2
theorem keysShaped {ks : List Key} (h : ∀ k ∈ ks, keyOk k) (hl : ks.length ≤ 1000) : SeqAt.shaped (.tuple (ks.map dK)) = true := by
  refine (Eas.tup (n := 1) (by rw [List.length_map]; exact hl) fun d hd => ?_).shaped (by decide)
  obtain ⟨k, hk, rfl⟩ := List.mem_map.mp hd
  have := h k hk
  cases k with
  | inl i => exact .int _ i
  | inr x => exact .word _ this
end My

set_option Elab.async false
set_option linter.all false
set_option maxRecDepth 100000

namespace My
open PySem PySem.Spec PyProof.Rows L2
abbrev Pgs := List (List Th)
def roomAt (cap : Nat) (ps : Pgs) : Nat := ps.findIdx fun p => decide (p.length < cap)
def putPg (cap : Nat) (t : Th) (ps : Pgs) : Pgs := if roomAt cap ps < ps.length then ps.set (roomAt cap ps) ((ps.getD (roomAt cap ps) []) ++ [t]) else ps ++ [[t]]
def putTo (cap : Nat) (ps : Pgs) : Int := if roomAt cap ps < ps.length then (roomAt cap ps : Int) + 2 else (ps.length : Int) + 1
def pageAt (t : Th) (ps : Pgs) : Nat := ps.findIdx fun p => memB p t
def idxTh (t : Th) (p : List Th) : Nat := p.findIdx fun s => decide (s = t)
def dropPg (t : Th) (ps : Pgs) : Pgs := if ((ps.getD (pageAt t ps) []).eraseIdx (idxTh t (ps.getD (pageAt t ps) []))) = [] then ps.eraseIdx (pageAt t ps) else ps.set (pageAt t ps) ((ps.getD (pageAt t ps) []).eraseIdx (idxTh t (ps.getD (pageAt t ps) [])))
def dropTo (t : Th) (ps : Pgs) : Int := (pageAt t ps : Int) + 2

structure PgsOk (ps : Pgs) : Prop where
  len : ps.length ≤ 200
  tot : ps.flatten.length ≤ 500
  pg : ∀ p ∈ ps, p.length ≤ 200 ∧ ∀ t ∈ p, ThOk t
theorem PgsOk.at_ {ps : Pgs} (h : PgsOk ps) {i : Nat} {p : List Th} (e : ps[i]? = some p) : p.length ≤ 200 ∧ ∀ t ∈ p, ThOk t := h.pg p (List.mem_of_getElem? e)
theorem getD_of {α : Type} {xs : List α} {i : Nat} {x d : α} (h : xs[i]? = some x) : xs.getD i d = x := by rw [List.getD_eq_getElem?_getD, h]; rfl

theorem findIdx_spec {α : Type} (p : α → Bool) (xs : List α) (h : xs.findIdx p < xs.length) : ∃ x, xs[xs.findIdx p]? = some x ∧ p x = true := ⟨xs[xs.findIdx p], List.getElem?_eq_getElem h, List.findIdx_getElem⟩
theorem findIdx_no {α : Type} (p : α → Bool) (xs : List α) {m : Nat} {x : α} (h : m < xs.findIdx p) (e : xs[m]? = some x) : p x = false := by
  have hm : m < xs.length := (List.getElem?_eq_some_iff.mp e).1
  have := List.not_of_lt_findIdx h
  rw [List.getElem?_eq_getElem hm] at e
  rw [← Option.some.inj e]
  simpa using this
theorem page_lt {t : Th} {ps : Pgs} (h : ∃ p ∈ ps, t ∈ p) : pageAt t ps < ps.length := by
  obtain ⟨p, hp, ht⟩ := h
  exact List.findIdx_lt_length_of_exists ⟨p, hp, memB_iff.mpr ht⟩
theorem idx_lt {t : Th} {p : List Th} (h : t ∈ p) : idxTh t p < p.length := List.findIdx_lt_length_of_exists ⟨t, h, by simp⟩
def sp_first_with_room : Sp := fun vs H Q _ => ∃ (a : Addr) (m : Int) (ps : Pgs) (f : List Addr), vs = [.ref a, .int m] ∧ Ch H a ps f ∧ 0 ≤ m ∧ ∀ H', Same H H' → Q (.int (roomAt m.toNat ps : Nat)) H'
def sp_page_with : Sp := fun vs H Q _ => ∃ (a : Addr) (v : V) (t : Th) (ps : Pgs) (f : List Addr), vs = [.ref a, v] ∧ Ch H a ps f ∧ ThAt H v t ∧ ThOk t ∧ PgsOk ps ∧ (∃ p ∈ ps, t ∈ p) ∧ ∀ H', Same H H' → Q (.int (pageAt t ps : Nat)) H'
def sp_copied : Sp := fun vs H Q _ => ∃ (a : Addr) (ps : Pgs) (f : List Addr), vs = [.ref a] ∧ Ch H a ps f ∧ ps.length < 10000 ∧ ∀ b f' H', Same H H' → Ch H' b ps f' → (∀ y ∈ f', H y = none) → Q (.ref b) H'
def sp_law_bin_put : Sp := fun vs H Q _ => ∃ (a : Addr) (c : Int) (v : V) (t : Th) (ps : Pgs) (f : List Addr), vs = [.ref a, .int c, v] ∧ Ch H a ps f ∧ ThAt H v t ∧ PgsOk ps ∧ 0 ≤ c ∧
  ∀ f' H', Ch H' a (putPg c.toNat t ps) f' → Frm f H H' → Nw H f f' → Q (.int (putTo c.toNat ps)) H'
def sp_law_bin_drop : Sp := fun vs H Q _ => ∃ (a : Addr) (v : V) (t : Th) (ps : Pgs) (f : List Addr), vs = [.ref a, v] ∧ Ch H a ps f ∧ ThAt H v t ∧ ThOk t ∧ PgsOk ps ∧ (∃ p ∈ ps, t ∈ p) ∧
  ∀ f' H', Ch H' a (dropPg t ps) f' → Frm f H H' → Nw H f f' → Q (.int (dropTo t ps)) H'

def BkAt (C : Addr) (H : Hp) (x : Addr) (m : Int) (bs : List Pgs) (f : List Addr) : Prop := ∃ dx a g, H x = some (.ins C dx [("most", .int m), ("chains", .ref a)]) ∧ Bk H a bs g ∧ x ∉ g ∧ f = x :: g
theorem BkAt.frm {C : Addr} {H H' : Hp} {x : Addr} {m : Int} {bs : List Pgs} {f g : List Addr} (h : BkAt C H x m bs f) (k : Frm g H H') (d : Dis f g) : BkAt C H' x m bs f := by
  obtain ⟨dx, a, g', h1, h2, h3, rfl⟩ := h
  exact ⟨dx, a, g', k.keep _ _ (fun z => d x List.mem_cons_self z) h1, bkOk.frm h2 k (d.mono (fun y hy => List.mem_cons_of_mem _ hy) fun _ h => h), h3, rfl⟩
theorem BkAt.liv {C : Addr} {H : Hp} {x : Addr} {m : Int} {bs : List Pgs} {f : List Addr} (h : BkAt C H x m bs f) : Liv H f := by
  obtain ⟨dx, a, g', h1, h2, h3, rfl⟩ := h
  intro y hy
  rcases List.mem_cons.mp hy with rfl | hy
  · exact ⟨_, h1⟩
  · exact bkOk.liv h2 y hy
def binAt (ks : List Key) (n : Nat) : Nat := (markL (ks.map kV) % (n : Int)).toNat
structure BinsOk (bs : List Pgs) : Prop where
  lo : 1 ≤ bs.length
  hi : bs.length ≤ 8
  ok : ∀ ps ∈ bs, PgsOk ps
def sp_Buckets___init__ (C : Addr) : Sp := fun vs H Q _ => ∃ (x dx : Addr) (c m : Int), vs = [.ref x, .int c, .int m] ∧ H x = some (.ins C dx []) ∧ 1 ≤ c ∧ c ≤ 8 ∧
  ∀ f H', BkAt C H' x m (List.replicate c.toNat []) f → (∀ b o, H b = some o → b ≠ x → H' b = some o) → (∀ y ∈ f, y = x ∨ H y = none) → Q .non H'
def sp_Buckets_chain_at (C : Addr) : Sp := fun vs H Q _ => ∃ (x : Addr) (q : Addr) (ks : List Key) (m : Int) (bs : List Pgs) (f : List Addr), vs = [.ref x, .ref q] ∧ BkAt C H x m bs f ∧ BinsOk bs ∧ H q = some (.tup (ks.map kV)) ∧ (∀ k ∈ ks, keyOk k) ∧ Q (.int (binAt ks bs.length : Nat)) H
def sp_Buckets_put (C : Addr) : Sp := fun vs H Q _ => ∃ (x : Addr) (v : V) (t : Th) (m : Int) (bs : List Pgs) (f : List Addr), vs = [.ref x, v] ∧ BkAt C H x m bs f ∧ BinsOk bs ∧ ThAt H v t ∧ ThOk t ∧ 0 ≤ m ∧
  ∀ f' H', BkAt C H' x m (bs.set (binAt t.1 bs.length) (putPg m.toNat t (bs.getD (binAt t.1 bs.length) []))) f' → Frm f H H' → Nw H f f' → Q (.int (putTo m.toNat (bs.getD (binAt t.1 bs.length) []))) H'
def sp_Buckets_drop (C : Addr) : Sp := fun vs H Q _ => ∃ (x : Addr) (v : V) (t : Th) (m : Int) (bs : List Pgs) (f : List Addr), vs = [.ref x, v] ∧ BkAt C H x m bs f ∧ BinsOk bs ∧ ThAt H v t ∧ ThOk t ∧ (∃ p ∈ bs.getD (binAt t.1 bs.length) [], t ∈ p) ∧
  ∀ f' H', BkAt C H' x m (bs.set (binAt t.1 bs.length) (dropPg t (bs.getD (binAt t.1 bs.length) []))) f' → Frm f H H' → Nw H f f' → Q (.int (dropTo t (bs.getD (binAt t.1 bs.length) []))) H'
def sp_Buckets_pages (C : Addr) : Sp := fun vs H Q _ => ∃ (x : Addr) (m : Int) (bs : List Pgs) (f : List Addr), vs = [.ref x] ∧ BkAt C H x m bs f ∧ BinsOk bs ∧ ∀ b f' H', Same H H' → Bk H' b bs f' → (∀ y ∈ f', H y = none) → Q (.ref b) H'
def foundIn (ks : List Key) (ps : Pgs) : List Th := ps.flatten.filter fun t => decide (t.1 = ks)
def sp_Buckets_found (C : Addr) : Sp := fun vs H Q _ => ∃ (x q : Addr) (ks : List Key) (m : Int) (bs : List Pgs) (f : List Addr), vs = [.ref x, .ref q] ∧ BkAt C H x m bs f ∧ BinsOk bs ∧ H q = some (.tup (ks.map kV)) ∧ (∀ k ∈ ks, keyOk k) ∧ ks.length ≤ 1000 ∧
  ∀ r l xs H', Same H H' → H' r = some (.tup [.ref l, .int ((bs.getD (binAt ks bs.length) []).length : Nat)]) → H l = none → H' l = some (.lst xs) → Ths H' xs (foundIn ks (bs.getD (binAt ks bs.length) [])) → Q (.ref r) H'

section
variable {H H1 : Hp} {b : Addr} {ps : Pgs} {f : List Addr} {v : V} {t : Th}

theorem Ch.page (h : Ch H b ps f) {i : Nat} (hi : i < ps.length) : ∃ (as : List Addr) (pg : Addr) (d : List Th) (xs : List V), H b = some (.lst (as.map V.ref)) ∧ as.length = ps.length ∧ as[i]? = some pg ∧ ps[i]? = some d ∧ H pg = some (.lst xs) ∧ Ths H xs d ∧ pg ∈ f ∧ pg ≠ b := by
  obtain ⟨as, pg, d, g, h0, hl, e1, e2, ⟨rfl, xs, hp, ht⟩, sub, nb, _⟩ := h.at_ pgOk hi
  exact ⟨as, pg, d, xs, h0, hl, e1, e2, hp, ht, sub pg (by simp), fun z => nb (by simp [z])⟩
theorem Ch.putOld (h : Ch H b ps f) (s : Same H H1) {i : Nat} {pg : Addr} {d d' : List Th} {as : List Addr} {ys : List V} (h0 : H b = some (.lst (as.map V.ref))) (e1 : as[i]? = some pg) (e2 : ps[i]? = some d) (ht : ∀ H2, Frm [pg] H H2 → Ths H2 ys d') :
    ∃ f', Ch (upd H1 pg (.lst ys)) b (ps.set i d') f' ∧ Frm f H (upd H1 pg (.lst ys)) ∧ Nw H f f' ∧ Frm [pg] H (upd H1 pg (.lst ys)) := by
  have hi : i < ps.length := (List.getElem?_eq_some_iff.mp e2).1
  obtain ⟨as', pg', d2, g, h0', hl, e1', e2', ⟨rfl, xs, hp, hth⟩, sub, nb, kk⟩ := h.at_ pgOk hi
  rw [h0] at h0'
  cases (List.map_inj_right (f := V.ref) (fun _ _ h => by cases h; rfl)).mp (HO.lst.inj (Option.some.inj h0'))
  rw [e1] at e1'
  cases e1'
  have F : Frm [pg] H (upd H1 pg (.lst ys)) := (Frm.of_same s).trans (.lst (s _ _ hp) (by simp))
  obtain ⟨f', hc, hn⟩ := kk _ d' [pg] F ⟨rfl, ys, upd_same, ht _ F⟩ (Nw.refl _ _)
  exact ⟨f', hc, F.mono fun x hx => by rw [List.mem_singleton.mp hx]; exact sub pg (by simp), hn, F⟩

theorem at_ref {as : List Addr} {i : Nat} {c : Addr} (h : as[i]? = some c) : atI (as.map V.ref) ((i : Nat) : Int) = some (.ref c) := atI_nat (by rw [List.getElem?_map, h]; rfl)
end

def sp_law_shows_k10 (C : Addr) : Sp := fun vs H Q _ => ∃ (x b q : Addr) (ks : List Key) (m : Int) (bs : List Pgs) (f1 f2 : List Addr), vs = [.ref x, .ref b, .ref q] ∧ BkAt C H x m bs f1 ∧ Bk H b bs f2 ∧ BinsOk bs ∧ H q = some (.tup (ks.map kV)) ∧ (∀ k ∈ ks, keyOk k) ∧ ks.length ≤ 1000 ∧ ∀ H', Same H H' → Q (.bl true) H'
theorem flat_at {α : Type} {ps : List (List α)} {i : Nat} {p : List α} (e : ps[i]? = some p) : ps.flatten = (ps.take i).flatten ++ (p ++ (ps.drop (i + 1)).flatten) := by
  have hi : i < ps.length := (List.getElem?_eq_some_iff.mp e).1
  have h : ps = ps.take i ++ p :: ps.drop (i + 1) := by
    have h1 := (List.take_append_drop i ps).symm
    rw [List.drop_eq_getElem_cons hi] at h1
    rw [List.getElem?_eq_getElem hi] at e
    rw [Option.some.inj e] at h1
    exact h1
  conv => lhs; rw [h]
  rw [List.flatten_append, List.flatten_cons]
theorem flat_set {α : Type} {ps : List (List α)} {i : Nat} {p q : List α} (e : ps[i]? = some p) : (ps.set i q).flatten = (ps.take i).flatten ++ (q ++ (ps.drop (i + 1)).flatten) := by
  have hi : i < ps.length := (List.getElem?_eq_some_iff.mp e).1
  rw [← take_set ps i q hi, List.flatten_append, List.flatten_cons]
theorem put_perm (cap : Nat) (t : Th) (ps : Pgs) : (putPg cap t ps).flatten.Perm (t :: ps.flatten) := by
  unfold putPg
  split
  · rename_i h
    have e : ps[roomAt cap ps]? = some ps[roomAt cap ps] := List.getElem?_eq_getElem h
    rw [flat_set e, flat_at e, getD_of e]
    rw [List.append_assoc ps[roomAt cap ps], List.singleton_append, ← List.append_assoc, ← List.append_assoc]
    exact List.perm_middle
  · rw [List.flatten_append]
    simp only [List.flatten_cons, List.flatten_nil, List.append_nil]
    exact List.perm_append_comm
theorem erase_perm {t : Th} {p : List Th} (h : t ∈ p) : p.Perm (t :: p.eraseIdx (idxTh t p)) := by
  have hj := idx_lt h
  obtain ⟨y, hy, hyt⟩ := findIdx_spec (fun s : Th => decide (s = t)) p hj
  have e : p[idxTh t p] = t := by
    have : p[idxTh t p]? = some y := hy
    rw [List.getElem?_eq_getElem hj] at this
    rw [Option.some.inj this]
    simpa using hyt
  have h1 : p = p.take (idxTh t p) ++ t :: p.drop (idxTh t p + 1) := by
    have h1 := (List.take_append_drop (idxTh t p) p).symm
    rw [List.drop_eq_getElem_cons hj, e] at h1
    exact h1
  rw [← take_erase]
  conv => lhs; rw [h1]
  exact List.perm_middle
theorem drop_perm {t : Th} {ps : Pgs} (h : ∃ p ∈ ps, t ∈ p) : ps.flatten.Perm (t :: (dropPg t ps).flatten) := by
  have er := page_lt h
  obtain ⟨p, hp, hpt⟩ := findIdx_spec (fun p => memB p t) ps er
  have hp' : ps[pageAt t ps]? = some p := hp
  have ed : ps.getD (pageAt t ps) [] = p := getD_of hp'
  have pe := erase_perm (memB_iff.mp hpt)
  unfold dropPg
  rw [ed]
  have key : ps.flatten.Perm (t :: ((ps.take (pageAt t ps)).flatten ++ (p.eraseIdx (idxTh t p) ++ (ps.drop (pageAt t ps + 1)).flatten))) := by
    rw [flat_at hp']
    refine (List.Perm.append_left _ (pe.append_right _)).trans ?_
    rw [List.cons_append]
    exact List.perm_middle
  split
  · rename_i hn
    rw [hn, List.nil_append] at key
    rw [← take_erase, List.flatten_append]
    exact key
  · rw [flat_set hp']
    exact key

structure PgsB (n : Nat) (ps : Pgs) : Prop where
  len : ps.length ≤ n
  tot : ps.flatten.length ≤ n
  pg : ∀ p ∈ ps, p.length ≤ n
  ok : ∀ t ∈ ps.flatten, ThOk t
  nd : ps.flatten.Nodup
structure Bins (n c : Nat) (ts : List Th) (bs : List Pgs) : Prop where
  len : bs.length = c
  c1 : 1 ≤ c
  c8 : c ≤ 8
  pb : ∀ ps ∈ bs, PgsB n ps
  nd : ts.Nodup
  tl : ts.length ≤ n
  tk : ∀ t ∈ ts, ThOk t
  mem : ∀ t, t ∈ ts ↔ t ∈ (bs.getD (binAt t.1 c) []).flatten
theorem same_eff {H H1 H2 : Hp} {b : Addr} (s : Same H H1) (n : H b = none) (e : Eff b H1 H2) : Same H H2 := fun c o h => e.2 c o (fun z => by rw [z, n] at h; cases h) (s c o h)

structure St10 (C : Addr) (H H1 : Hp) (x b hl L : Addr) (m : Int) (ks : List Str) (n c : Nat) (ts : List Th) (bs : List Pgs) (f1 f2 : List Addr) : Prop where
  same : Same H H1
  kd : H1 L = some (.lst (ks.map V.str))
  X : BkAt C H1 x m bs f1
  B : Bk H1 b bs f2
  h : ∃ xs, H1 hl = some (.lst xs) ∧ Ths H1 xs ts
  bn : Bins n c ts bs
  tk : ∀ t ∈ ts, ThK ks t
  d12 : Dis f1 f2
  hf1 : hl ∉ f1
  hf2 : hl ∉ f2
  Lf1 : L ∉ f1
  Lf2 : L ∉ f2
  Lh : L ≠ hl
  n1 : ∀ y ∈ f1, H y = none
  n2 : ∀ y ∈ f2, H y = none
  nh : H hl = none
end My

set_option Elab.async false
set_option linter.all false
set_option maxRecDepth 100000

namespace My
open PySem PySem.Spec PyProof.Rows L2

def LtA (A : Around) (s : Shared) (v u : Value) (b : Bool) : Prop := ∀ (prog : Program) (w : World) (E : Value → Shared → Prop) (Q : Value → Shared → Prop), Q (.bool b) s → wpAny (model prog w) A (richCompare .Lt v u) Q E s
inductive LexAt (A : Around) (s : Shared) : List Value → List Value → Bool → Prop
  | nn : LexAt A s [] [] false
  | nc {v : Value} {vs : List Value} : LexAt A s [] (v :: vs) true
  | cn {v : Value} {vs : List Value} : LexAt A s (v :: vs) [] false
  | eq {v u : Value} {vs us : List Value} {r : Bool} : SeqAt.EqAt A s v u true → LexAt A s vs us r → LexAt A s (v :: vs) (u :: us) r
  | ne {v u : Value} {vs us : List Value} {r : Bool} : SeqAt.EqAt A s v u false → LtA A s v u r → LexAt A s (v :: vs) (u :: us) r
section
open PySem.SeqAt
open PySem.AutoSeq1 (wpAny_loadPart')
open PySem.MeetsSeq PySem.MeetsSeq2 PySem.MeetsSeq3
end
end My

set_option Elab.async false
set_option linter.all false
set_option maxRecDepth 100000

namespace PySem.W

def KasT.val {α : Type} (lt : Nat → Nat → Bool) : KasT α → α
  | .ret a => a
  | .ask i j k => (k (lt i j)).val lt

inductive KasT.Ins {α : Type} (n : Nat) (P : α → Prop) : KasT α → Prop
  | ret {a : α} : P a → KasT.Ins n P (.ret a)
  | ask {i j : Nat} {k : Bool → KasT α} : i < n → j < n → (∀ b, KasT.Ins n P (k b)) → KasT.Ins n P (.ask i j k)
theorem KasT.Ins.bind {α β : Type} {n : Nat} {P : α → Prop} {R : β → Prop} {f : α → KasT β} : ∀ {t : KasT α}, KasT.Ins n P t → (∀ a, P a → KasT.Ins n R (f a)) → KasT.Ins n R (t.bind f)
  | .ret a, .ret h, hf => hf a h
  | .ask i j k, .ask h1 h2 h3, hf => .ask h1 h2 fun b => (h3 b).bind hf
theorem KasT.Ins.val {α : Type} {n : Nat} {P : α → Prop} (lt : Nat → Nat → Bool) : ∀ {t : KasT α}, KasT.Ins n P t → P (t.val lt)
  | .ret a, .ret h => h
  | .ask i j k, .ask _ _ h => (h (lt i j)).val lt
theorem KasT.Ins.wp {α : Type} {n : Nat} {P : α → Prop} {lt : Nat → Nat → Bool} {cmp : Nat → Nat → (Bool → Shared → Prop) → Shared → Prop} {s : Shared} (hc : ∀ i j (C : Bool → Shared → Prop), i < n → j < n → C (lt i j) s → cmp i j C s) :
    ∀ {t : KasT α} {Q : α → Shared → Prop}, KasT.Ins n P t → Q (t.val lt) s → t.kasWp cmp Q s
  | .ret a, _, _, h => h
  | .ask i j k, Q, .ask h1 h2 h3, h => hc i j _ h1 h2 ((h3 (lt i j)).wp hc h)
theorem val_bind {α β : Type} (lt : Nat → Nat → Bool) (f : α → KasT β) : ∀ t : KasT α, (t.bind f).val lt = (f (t.val lt)).val lt
  | .ret _ => rfl
  | .ask i j k => val_bind lt f (k (lt i j))

def Plc (n : Nat) (p : Array Nat) : Prop := p.Perm (List.toArray (List.range n))
theorem Plc.lt {n : Nat} {p : Array Nat} (h : Plc n p) (h0 : 0 < n) (k : Nat) : p.getD k 0 < n := by
  by_cases hk : k < p.size
  · have e : p.getD k 0 = p[k] := by simp [Array.getD, hk]
    rw [e]
    have : p[k] ∈ List.toArray (List.range n) := h.mem_iff.mp (Array.getElem_mem hk)
    simpa using this
  · have e : p.getD k 0 = 0 := by simp [Array.getD, hk]
    rw [e]; exact h0
theorem Plc.rev {n : Nat} {p : Array Nat} (h : Plc n p) (i j : Nat) : Plc n (kas_rev p i j) := (PyProof.Rows.mirror_perm _ _ _ _).trans h
theorem Plc.bub {n : Nat} {p : Array Nat} (h : Plc n p) (i j : Nat) : Plc n (PyProof.Rows.bubble p i j) := (PyProof.Rows.bubble_perm _ _ _).trans h
section
variable {n : Nat} (h0 : 0 < n)
include h0
theorem ins_asc {p : Array Nat} (h : Plc n p) : ∀ f m, KasT.Ins n (fun _ => True) (kas_asc p f m)
  | 0, _ => .ret trivial
  | f + 1, m => .ask (h.lt h0 _) (h.lt h0 _) fun b => by
    cases b
    · exact ins_asc h f (m + 1)
    · exact .ret trivial
theorem ins_desc : ∀ f {p : Array Nat} (m q : Nat), Plc n p → KasT.Ins n (fun r => Plc n r.1) (kas_desc f p m q)
  | 0, _, _, _, h => .ret h
  | f + 1, p, m, q, h => .ask (h.lt h0 _) (h.lt h0 _) fun b => by
    cases b
    · refine .ask (h.lt h0 _) (h.lt h0 _) fun d => ?_
      cases d
      · exact ins_desc f _ _ h
      · exact .ret h
    · show KasT.Ins n _ (if q > 0 then _ else _)
      split
      · exact ins_desc f _ _ (h.rev _ _)
      · exact ins_desc f _ _ h
theorem ins_tail3 {p : Array Nat} (m r : Nat) (h : Plc n p) : KasT.Ins n (fun x => Plc n x.2) (kas_tail3 m r p) := (ins_asc h0 (h.rev 0 m) _ _).bind fun _ _ => .ret (h.rev 0 m)
theorem ins_descPart {p : Array Nat} (m r : Nat) (h : Plc n p) : KasT.Ins n (fun x => Plc n x.2) (kas_descPart m r p) := by
  refine (ins_desc h0 _ _ _ h).bind fun x hx => ?_
  split
  · exact ins_tail3 h0 _ _ (hx.rev _ _)
  · exact ins_tail3 h0 _ _ hx
theorem ins_count {p : Array Nat} (r : Nat) (h : Plc n p) : KasT.Ins n (fun x => Plc n x.2) (kas_count r p) := by
  refine (ins_asc h0 h _ _).bind fun m _ => ?_
  split
  · exact .ret h
  · split
    · refine .ask (h.lt h0 _) (h.lt h0 _) fun b => ?_
      cases b
      · exact ins_descPart h0 _ _ (h.rev _ _)
      · exact .ret h
    · exact ins_descPart h0 _ _ h
theorem ins_place {p : Array Nat} (k : Nat) (h : Plc n p) : ∀ f l r, KasT.Ins n (fun _ => True) (kas_place p k f l r)
  | 0, _, _ => .ret trivial
  | f + 1, l, r => by
    show KasT.Ins n _ (if l ≥ r then _ else _)
    split
    · exact .ret trivial
    · refine .ask (h.lt h0 _) (h.lt h0 _) fun b => ?_
      cases b
      · exact ins_place k h f _ _
      · exact ins_place k h f _ _
theorem ins_bin : ∀ f {p : Array Nat} (k : Nat), Plc n p → KasT.Ins n (Plc n) (kas_bin f p k)
  | 0, _, _, h => .ret h
  | f + 1, p, k, h => (ins_place h0 k h _ _ _).bind fun l _ => ins_bin f _ (h.bub _ _)
theorem ins_sort : KasT.Ins n (Plc n) (kas_sort n) := by
  refine (ins_count h0 n (Array.Perm.refl _)).bind fun x hx => ?_
  split
  · exact ins_bin h0 _ _ hx
  · exact .ret hx
end
end PySem.W
namespace My
open PySem PySem.W PyProof.Rows PySem.Spec

def ordOf (lt : Nat → Nat → Bool) (n : Nat) : List Nat := if n < 2 then List.range n else ((kas_sort n).val lt).toList
theorem ordOf_perm (lt : Nat → Nat → Bool) (n : Nat) : (ordOf lt n).Perm (List.range n) := by
  unfold ordOf
  split
  · exact List.Perm.refl _
  · have h := (ins_sort (n := n) (by omega)).val lt
    have := Array.perm_iff_toList_perm.mp h
    simpa using this
section
variable {prog : Program} {w : World} {A : Around} {E : Value → Shared → Prop} {s : Shared}
theorem sort64 {kd : SortKind} {lt : Nat → Nat → Bool} {a : Addr} {vs : List Value} {n : Nat} {P : PySem.Fin → Shared → Prop} (ho : s.heap.get? a = some (seqObj "list" vs.toArray n)) (h64 : vs.length < 64)
    (hkk : 2 ≤ vs.length → ∀ {Q : SortKind → Shared → Prop}, Q kd { s with heap := G.sortHeap6 s.heap a vs } → wpAny (model prog w) A (keyKind' vs.toArray) Q E { s with heap := G.sortHeap6 s.heap a vs })
    (hask : ∀ i j (C : Bool → Shared → Prop), i < vs.length → j < vs.length → C (lt i j) { s with heap := G.sortHeap6 s.heap a vs } → kas_ask prog w A kd vs i j C { s with heap := G.sortHeap6 s.heap a vs })
    (h : P (.done (.ret .none)) { s with heap := sortedHeap s.heap a vs ((ordOf lt vs.length).map fun i => vs.getD i Value.none).toArray }) :
    wpAny (model prog w) A (Builtin.«list.sort» ⟨[.ref a], []⟩) P E s := by
  have hz := sizeLine_eq
  rw [list_sort_plain]
  have hal : a < s.heap.objs.size := Heap.lt_size ho
  refine wpAny_bind (listItems_at ho rfl (wpAny_bind (listUpdate_at ho rfl ?_ (by rw [List.size_toArray]; omega) (Nat.zero_le _))))
  obtain ⟨e1, g1⟩ : ∃ e1, (s.heap.update a (Obj.mapSeq fun _ => #[])).get? a = some (seqObj "list" #[] e1) := ⟨_, get?_update_seq ho (fun _ => #[])⟩
  refine wpAny_bind (seqEpoch_at g1 rfl (wpAny_bind (wpAny_newTuple ?_ (by show vs.length ≤ _; omega))))
  refine wpAny_bind (wpAny_newList (wpAny_holding ?_) (Nat.zero_le _))
  have g6 : (G.sortHeap6 s.heap a vs).get? a = some (seqObj "list" #[] e1) := Heap.get?_push_of_some _ (Heap.get?_push_of_some _ g1)
  show wpAny (model prog w) A _ P E { s with heap := G.sortHeap6 s.heap a vs }
  dsimp only
  have hn : vs.toArray.size = vs.length := by simp
  by_cases h2 : vs.length < 2
  · have eo : ordOf lt vs.length = List.range vs.length := by unfold ordOf; rw [if_pos h2]
    have em : ((List.range vs.length).map fun i => vs.getD i Value.none).toArray = (vs.toArray.zip vs.toArray).map (·.2) := by
      apply Array.toList_inj.mp
      refine List.ext_getElem? fun i => ?_
      by_cases hi : i < vs.length
      · simp [hi]
      · simp [hi]
    rw [eo, em] at h
    rw [if_pos (by rw [hn]; exact h2), if_pos (by rw [hn]; exact h2)]
    refine wpAny_bind (wpAny_pure ?_)
    rw [StateT.run_pure]
    refine wpAny_bind (wpAny_pure ?_)
    dsimp only
    refine wpAny_bind (seqEpoch_at g6 rfl (wpAny_bind (listUpdate_at g6 rfl ?_ (Nat.zero_le _) (by rw [Array.size_map]; show (pairsOf vs).size ≤ _; rw [pairsOf_size]; omega))))
    simp only [bne_self_eq_false, Bool.false_eq_true, if_false]
    exact wpAny_pure h
  · have eo : ordOf lt vs.length = ((kas_sort vs.length).val lt).toList := by unfold ordOf; rw [if_neg h2]
    rw [eo] at h
    rw [if_neg (by rw [hn]; exact h2), if_neg (by rw [hn]; exact h2)]
    refine wpAny_bind (hkk (by omega) ?_)
    have tree : (kas_sort vs.length).kasWp (kas_ask prog w A kd vs) (fun p s' => s' = { s with heap := G.sortHeap6 s.heap a vs } ∧ p = (kas_sort vs.length).val lt) { s with heap := G.sortHeap6 s.heap a vs } :=
      (ins_sort (n := vs.length) (by omega)).wp hask ⟨rfl, rfl⟩
    refine wpAny_bind (wpAny_mono (kat_run (E := E) (Q := fun st' s' => arrOf st' = ((kas_sort vs.length).val lt).map (kas_item (vs.toArray.zip vs.toArray)) ∧ failedOf st' = none ∧ s' = { s with heap := G.sortHeap6 s.heap a vs } ∧ ((kas_sort vs.length).val lt).size = vs.length) rfl (by omega) h64
      (fun p st' s' a1 a2 a3 a4 => ⟨by rw [← a4.2]; exact a2, a3, a4.1, by rw [← a4.2]; exact a1⟩) tree) ?_ fun _ _ e => e)
    rintro ⟨⟨⟩, st'⟩ s' ⟨b1, b2, rfl, b4⟩
    dsimp only
    rw [kat_snds rfl b1]
    refine wpAny_bind (seqEpoch_at g6 rfl (wpAny_bind (listUpdate_at g6 rfl ?_ (Nat.zero_le _) (by rw [List.size_toArray, List.length_map, Array.length_toList, b4]; omega))))
    rw [b2]
    simp only [bne_self_eq_false, Bool.false_eq_true, if_false]
    exact wpAny_pure h
theorem collect_seq {l : Addr} {o : Obj} {n : Nat} {vs : List Value} {Q : List Value → Shared → Prop} {T : String} (ho : s.heap.get? l = some o) (hT : T = "list" ∨ T = "tuple") (hc : o.cls = .type T) (hd : o.data = .seq vs.toArray n)
    (h : Q vs { s with heap := (s.heap.push (seqObj "list" #[] 0)).update s.heap.objs.size (Obj.mapSeq (· ++ vs.toArray)) }) (hsz : vs.length ≤ sizeLine) :
    wpAny (model prog w) A (collect (.ref l)) Q E s := by
  unfold collect
  refine wpAny_bind (wpAny_runValue (codeAny_builtin entry_proto_collect' ?_))
  show wpAny _ _ (do again (.builtin "list.__iadd__" ⟨[← newList [], .ref l], []⟩)) _ _ s
  refine wpAny_bind (wpAny_newList (wpAny_pure ⟨Code.quiet_builtin _ (by decide +kernel), codeAny_builtin entry_list_iadd' ?_⟩))
  show wpAny _ _ (Builtin.List.listExtendWith (.ref s.heap.objs.size) (.ref l) (.ref s.heap.objs.size)) _ _ { s with heap := s.heap.push (seqObj "list" #[] 0) }
  unfold Builtin.List.listExtendWith
  have ho' : (s.heap.push (seqObj "list" #[] 0)).get? l = some o := Heap.get?_push_of_some _ ho
  refine wpAny_bind (wpAny_typeOf (T := T) ⟨o, ho', hc⟩ ?_)
  have ht : (Value.type "list" == Value.type "list") = true := by rfl
  have ht2 : (Value.type "tuple" == Value.type "tuple") = true := by rfl
  rw [if_pos (by rcases hT with rfl | rfl <;> simp [ht, ht2])]
  refine wpAny_bind (listItems_at ho' hd ?_)
  refine wpAny_bind (listItems_at (xs := #[]) (n := 0) (Heap.get?_push_size _ rfl) rfl ?_)
  rw [if_neg (by simp)]
  refine wpAny_bind (listUpdate_at (xs := #[]) (n := 0) (Heap.get?_push_size _ rfl) rfl ?_ (Nat.zero_le _) (by show (#[] ++ vs.toArray).size ≤ sizeLine + 1; simp only [Array.size_append, List.size_toArray, List.length_nil]; omega))
  refine wpAny_pure ?_
  show wpAny (model prog w) A (do
      let o ← load s.heap.objs.size
      match o.data with
      | .seq xs _ => pure xs.toList
      | _ => unsupported "internal:collect") Q E { s with heap := (s.heap.push (seqObj "list" #[] 0)).update s.heap.objs.size (Obj.mapSeq (· ++ vs.toArray)) }
  refine wpAny_bind (wpAny_load (get?_update_seq (Heap.get?_push_size _ rfl) _) ?_)
  show wpAny _ _ (pure ((#[] : Array Value) ++ vs.toArray).toList) Q E _
  rw [show ((#[] : Array Value) ++ vs.toArray).toList = vs by simp]
  exact wpAny_pure h
end
end My
namespace My
open PySem PySem.W PyProof.Rows PySem.Spec L2
def keyLt : Key → Key → Bool
  | .inl a, .inl b => decide (a < b)
  | .inr x, .inr y => decide (x.cps.toList < y.cps.toList)
  | _, _ => false
def lexK : List Key → List Key → Bool
  | [], [] => false
  | [], _ :: _ => true
  | _ :: _, [] => false
  | x :: xs, y :: ys => if x = y then lexK xs ys else keyLt x y
def thLt (s t : Th) : Bool := if s.1 = t.1 then decide (s.2 < t.2) else lexK s.1 t.1
def srtTh (ts : List Th) : List Th := (ordOf (fun i j => thLt (ts.getD i ([], 0)) (ts.getD j ([], 0))) ts.length).map fun i => ts.getD i ([], 0)
theorem reads_keys {h : Heap} : ∀ {ks : List Key} {vs : List Value}, Vals (ks.map kV) vs → ∃ as, ReadsAll h vs (ks.map dK) as
  | [], _, .nil => ⟨_, .nil⟩
  | .inl i :: ks, _, .cons r t => by
    obtain ⟨as, q⟩ := reads_keys (h := h) (ks := ks) t
    obtain ⟨t', rfl⟩ := r
    exact ⟨_, .cons (Reads.int i t') q⟩
  | .inr x :: ks, _, .cons r t => by
    obtain ⟨as, q⟩ := reads_keys (h := h) (ks := ks) t
    obtain ⟨t', rfl⟩ := r
    exact ⟨_, .cons (Reads.str x t') q⟩

structure ThV (h : Heap) (v : Value) (t : Th) (q : Value) : Prop where
  ex : ∃ p a o o' vs n n' tk, v = .ref p ∧ q = .ref a ∧ h.get? p = some o ∧ o.cls = .type "tuple" ∧ o.data = .seq #[.ref a, .int t.2 tk] n ∧ h.get? a = some o' ∧ o'.cls = .type "tuple" ∧ o'.data = .seq (List.toArray vs) n' ∧ Vals (t.1.map kV) vs
end My
namespace L2
open PySem PySem.W PyProof.Rows PySem.Spec My
theorem sortedAll_keep {h : Heap} {vs : List Value} {out : Array Value} : ∀ b o, h.get? b = some o → (sortedAll h vs out).get? b = some o := fun _ _ => PyProof.Rows.sortedAll_old
theorem vals_getD {xs : List V} {us : List Value} (r : Vals xs us) {i : Nat} (hi : i < xs.length) : ∃ x, xs[i]? = some x ∧ RelV x (us.getD i Value.none) := by
  obtain ⟨u, h1, h2⟩ := r.get (List.getElem?_eq_getElem hi)
  exact ⟨xs[i], List.getElem?_eq_getElem hi, by rw [List.getD_eq_getElem?_getD, h1]; exact h2⟩
section
variable {X : Cx}

def rSortTh (K : PySem.W.Frag) : List V → Hp → VK → Prop := fun vs H Q => ∃ (a : Addr) (xs : List V) (ts : List Th) (ks : List Str), vs = [.ref a] ∧ (SqL K H a xs ∨ SqT K H a xs) ∧ Ths H xs ts ∧ (∀ t ∈ ts, ThK ks t) ∧ ts.length < 64 ∧ ∀ p ys, H p = none → Ths H ys (srtTh ts) → Q (.ref p) (upd H p (.lst ys))
end
end L2

set_option Elab.async false
set_option linter.all false
set_option maxRecDepth 100000
namespace My
open PySem PySem.Spec PyProof.Rows L2

theorem up_lt {n f : Nat} (hn : 2 ≤ n) (hf : 2 ≤ f) : (n + f - 1) / f < n := by
  obtain ⟨a, rfl⟩ : ∃ a, n = a + 2 := ⟨n - 2, by omega⟩
  obtain ⟨b, rfl⟩ : ∃ b, f = b + 2 := ⟨f - 2, by omega⟩
  refine Nat.div_lt_of_lt_mul ?_
  rw [Nat.add_mul, Nat.mul_add]
  have : 0 ≤ b * a := Nat.zero_le _
  omega
def lvs (f n : Nat) : Nat × Nat :=
  if h : 2 ≤ n ∧ 2 ≤ f then
    let r := lvs f ((n + f - 1) / f)
    (r.1 + 1, r.2 + (n + f - 1) / f)
  else (0, 0)
termination_by n
decreasing_by exact up_lt h.1 h.2
def sp_begun : Sp := fun vs H Q _ => ∃ n f : Nat, vs = [.int n, .int f] ∧ 1 ≤ f ∧ f ≤ 100 ∧ Q (.int ((n + f - 1) / f : Nat)) H
def sp_levels_over (k : Nat) : Sp := fun vs H Q _ => match k with
  | 0 => False
  | k + 1 => ∃ n f : Nat, vs = [.int n, .int f] ∧ n ≤ 2 ^ k ∧ 2 ≤ f ∧ f ≤ 100 ∧ Q (.int (lvs f n).1) H
def sp_pages_over (k : Nat) : Sp := fun vs H Q _ => match k with
  | 0 => False
  | k + 1 => ∃ n f : Nat, vs = [.int n, .int f] ∧ n ≤ 2 ^ k ∧ 2 ≤ f ∧ f ≤ 100 ∧ Q (.int ((n + (lvs f n).2 : Nat) : Int)) H
def sp_law_levels : Sp := fun vs H Q _ => ∃ n f : Nat, vs = [.int n, .int f] ∧ 2 ≤ f ∧ f ≤ 100 ∧ ∀ p, H p = none → Q (.ref p) (upd H p (.tup [.int (lvs f n).1, .int ((n + (lvs f n).2 : Nat) : Int)]))

def cnt (m n : Nat) : Nat := (n + m - 1) / m
def chunks (m : Nat) (ts : List Th) : List (List Th) := (List.range (cnt m ts.length)).map fun i => (ts.drop (i * m)).take m
def sp_packed (K : PySem.W.Frag) : Sp := fun vs H Q _ => ∃ (a : Addr) (xs : List V) (ts : List Th) (m : Nat), vs = [.ref a, .int m] ∧ H a = some (.lst xs) ∧ Ths H xs ts ∧ ts.length < 1000 ∧ 1 ≤ m ∧ m ≤ 100 ∧ ∀ b f H', Same H H' → Ch H' b (chunks m ts) f → (∀ y ∈ f, H y = none) → Q (.ref b) H'
def RunAt (C : Addr) (H : Hp) (x : Addr) (m fa : Nat) (ls : List (List Th)) (f : List Addr) : Prop := ∃ dx a g, H x = some (.ins C dx [("most", .int m), ("spread", .int fa), ("held", .ref a)]) ∧ Ch H a ls g ∧ x ∉ g ∧ f = x :: g
theorem RunAt.frm {C : Addr} {H H' : Hp} {x : Addr} {m fa : Nat} {bs : List (List Th)} {f g : List Addr} (h : RunAt C H x m fa bs f) (k : Frm g H H') (d : Dis f g) : RunAt C H' x m fa bs f := by
  obtain ⟨dx, a, g', h1, h2, h3, rfl⟩ := h
  exact ⟨dx, a, g', k.keep _ _ (fun z => d x List.mem_cons_self z) h1, chOk.frm h2 k (d.mono (fun y hy => List.mem_cons_of_mem _ hy) fun _ h => h), h3, rfl⟩
theorem RunAt.liv {C : Addr} {H : Hp} {x : Addr} {m fa : Nat} {bs : List (List Th)} {f : List Addr} (h : RunAt C H x m fa bs f) : Liv H f := by
  obtain ⟨dx, a, g', h1, h2, h3, rfl⟩ := h
  intro y hy
  rcases List.mem_cons.mp hy with rfl | hy
  · exact ⟨_, h1⟩
  · exact chOk.liv h2 y hy
def sp_Run___init__ (K : PySem.W.Frag) (C : Addr) : Sp := fun vs H Q _ => ∃ (x dx a : Addr) (m fa : Nat) (xs : List V) (ts : List Th) (ks : List Str), vs = [.ref x, .int m, .int fa, .ref a] ∧ H x = some (.ins C dx []) ∧ (SqL K H a xs ∨ SqT K H a xs) ∧ Ths H xs ts ∧ (∀ t ∈ ts, ThK ks t) ∧ ts.length < 64 ∧ 1 ≤ m ∧ m ≤ 100 ∧
  ∀ f H', RunAt C H' x m fa (chunks m (srtTh ts)) f → (∀ b o, H b = some o → b ≠ x → H' b = some o) → (∀ y ∈ f, y = x ∨ H y = none) → Q .non H'
def sp_Run_leaves (C : Addr) : Sp := fun vs H Q _ => ∃ (x : Addr) (m fa : Nat) (ls : List (List Th)) (f : List Addr), vs = [.ref x] ∧ RunAt C H x m fa ls f ∧ ls.length < 10000 ∧ ∀ b f' H', Same H H' → Ch H' b ls f' → (∀ y ∈ f', H y = none) → Q (.ref b) H'
def sp_Run_levels (C : Addr) : Sp := fun vs H Q _ => ∃ (x : Addr) (m fa : Nat) (ls : List (List Th)) (f : List Addr), vs = [.ref x] ∧ RunAt C H x m fa ls f ∧ ls.length ≤ 256 ∧ 2 ≤ fa ∧ fa ≤ 100 ∧ Q (.int (lvs fa ls.length).1) H
def sp_Run_pages (C : Addr) : Sp := fun vs H Q _ => ∃ (x : Addr) (m fa : Nat) (ls : List (List Th)) (f : List Addr), vs = [.ref x] ∧ RunAt C H x m fa ls f ∧ ls.length ≤ 256 ∧ 2 ≤ fa ∧ fa ≤ 100 ∧ Q (.int ((ls.length + (lvs fa ls.length).2 : Nat) : Int)) H
structure LsOk (ls : List (List Th)) : Prop where
  len : ls.length ≤ 200
  pg : ∀ p ∈ ls, p.length ≤ 200 ∧ ∀ t ∈ p, ThOk t
def sp_law_shows_k06 (C : Addr) : Sp := fun vs H Q _ => ∃ (x L : Addr) (m fa : Nat) (ls : List (List Th)) (f1 f2 : List Addr), vs = [.ref x, .ref L, .int fa] ∧ RunAt C H x m fa ls f1 ∧ Ch H L ls f2 ∧ LsOk ls ∧ 2 ≤ fa ∧ fa ≤ 100 ∧ ∀ H', Same H H' → Q (.bl true) H'
theorem same_made {H : Hp} {x dx : Addr} {o o' : HO} (hx : H x = none) (hdx : H dx = none) : Same H (upd (upd H dx o) x o') := fun b o e => by
  rw [upd_ne (ne_of_none e hx), upd_ne (ne_of_none e hdx)]
  exact e
def longT (i : Nat) : Th := ([.inl ((0 + (i : Int)) % 7), .inr "a"], 0 + (i : Int) + 1)
def longs : List Th := (List.range 60).map longT
def KwD1 (K : PySem.W.Frag) (fd : FuncData) (x : Str) (v : Value) : Prop := ∃ (kd : Addr) (kc : Value) (kdd : Option Addr) (kn : Nat) (ksl : Array (Option Value)) (tk : Tok) (hh : Int), fd.kwdefaults = .ref kd ∧ K.lookup kd = some ⟨kc, kdd, .dict #[⟨hh, .str x tk, v⟩] kn, ksl⟩
theorem peek_load {α : Type} {K : PySem.W.Frag} {S : Setting} {a : Addr} {o : Obj} {p : Option Value} {k : Obj → Sem α} (e : K.lookup a = some o) : PySem.W.peek K S (.load a p k) = PySem.W.peek K S (k o) := by
  simp only [PySem.W.peek, e]
end My

set_option Elab.async false
set_option linter.all false
set_option maxRecDepth 100000

namespace My
open PySem PySem.Spec PyProof.Rows L2

def LeA (A : Around) (s : Shared) (v u : Value) (b : Bool) : Prop := ∀ (prog : Program) (w : World) (E : Value → Shared → Prop) (Q : Value → Shared → Prop), Q (.bool b) s → wpAny (model prog w) A (richCompare .LtE v u) Q E s
inductive LexLe (A : Around) (s : Shared) : List Value → List Value → Bool → Prop
  | nn : LexLe A s [] [] true
  | nc {v : Value} {vs : List Value} : LexLe A s [] (v :: vs) true
  | cn {v : Value} {vs : List Value} : LexLe A s (v :: vs) [] false
  | eq {v u : Value} {vs us : List Value} {r : Bool} : SeqAt.EqAt A s v u true → LexLe A s vs us r → LexLe A s (v :: vs) (u :: us) r
  | ne {v u : Value} {vs us : List Value} {r : Bool} : SeqAt.EqAt A s v u false → LeA A s v u r → LexLe A s (v :: vs) (u :: us) r
section
open PySem.SeqAt
open PySem.AutoSeq1 (wpAny_loadPart')
open PySem.MeetsSeq PySem.MeetsSeq2 PySem.MeetsSeq3
end
def lexKe : List Key → List Key → Bool
  | [], _ => true
  | _ :: _, [] => false
  | x :: ks, y :: ms => if x = y then lexKe ks ms else keyLt x y
def thLe (s t : Th) : Bool := if s.1 = t.1 then decide (s.2 ≤ t.2) else lexKe s.1 t.1
end My
namespace L2
open PySem PySem.W PyProof.Rows PySem.Spec My
section
variable {X : Cx}
def rCmpTh (f : Th → Th → Bool) : V → V → Hp → VK → Prop := fun x y H Q => ∃ (a b : Th), ThAt H x a ∧ ThAt H y b ∧ ThOk a ∧ ThOk b ∧ a.1.map My.kindOf = b.1.map My.kindOf ∧ Q (.bl (f a b)) H
end
end L2

set_option Elab.async false
set_option linter.all false
set_option maxRecDepth 100000

namespace My
open PySem PySem.Spec PyProof.Rows L2
abbrev hd0 (p : List Th) : Th := p.headD ([], 0)

def leafAt (ls : List (List Th)) (t : Th) : Nat → Nat
  | 0 => 0
  | n + 1 => if thLe (hd0 (ls.getD (n + 1) [])) t = true then n + 1 else leafAt ls t n
def leafFor (ls : List (List Th)) (t : Th) : Nat := leafAt ls t (ls.length - 1)
theorem cut_to (xs : List V) (j : Nat) : cutV xs none (some (j : Int)) = xs.take j := by
  unfold cutV
  rw [HT.sIx_nat, HT.sIx_none, List.drop_zero, Nat.sub_zero, List.take_eq_take_iff]
  omega
theorem cut_from (xs : List V) (j : Nat) : cutV xs (some (j : Int)) none = xs.drop j := by
  unfold cutV
  rw [HT.sIx_nat, HT.sIx_none]
  by_cases h : j ≤ xs.length
  · rw [Nat.min_eq_left h]
    exact List.take_of_length_le (by rw [List.length_drop]; omega)
  · rw [Nat.min_eq_right (by omega), List.drop_of_length_le (Nat.le_refl _), List.drop_of_length_le (by omega), List.take_nil]

structure LsK (ks : List Str) (ls : List (List Th)) : Prop where
  len : ls.length ≤ 200
  pg : ∀ p ∈ ls, p ≠ [] ∧ p.length ≤ 60 ∧ ∀ t ∈ p, ThK ks t
def sp_Run_leaf_for (C : Addr) : Sp := fun vs H Q _ => ∃ (x : Addr) (v : V) (t : Th) (ks : List Str) (m fa : Nat) (ls : List (List Th)) (f : List Addr), vs = [.ref x, v] ∧ RunAt C H x m fa ls f ∧ LsK ks ls ∧ ThAt H v t ∧ ThK ks t ∧ Q (.int (leafFor ls t : Nat)) H
def leafPut (ls : List (List Th)) (t : Th) : List Th := srtTh (ls.getD (leafFor ls t) [] ++ [t])

def putLs (m : Nat) (ls : List (List Th)) (t : Th) : List (List Th) :=
  if ls = [] then [[t]]
  else if (leafPut ls t).length ≤ m then ls.take (leafFor ls t) ++ ([leafPut ls t] ++ ls.drop (leafFor ls t + 1))
  else ls.take (leafFor ls t) ++ ([(leafPut ls t).take (((leafPut ls t).length + 2 - 1) / 2), (leafPut ls t).drop (((leafPut ls t).length + 2 - 1) / 2)] ++ ls.drop (leafFor ls t + 1))
def putT (m fa : Nat) (ls : List (List Th)) (t : Th) : Nat :=
  if ls = [] then 1 else if (leafPut ls t).length ≤ m then (lvs fa ls.length).1 + 2 else (lvs fa ls.length).1 + 3
def sp_Run_put (C : Addr) : Sp := fun vs H Q _ => ∃ (x : Addr) (v : V) (t : Th) (ks : List Str) (m fa : Nat) (ls : List (List Th)) (f : List Addr), vs = [.ref x, v] ∧ RunAt C H x m fa ls f ∧ LsK ks ls ∧ ThAt H v t ∧ ThK ks t ∧ 2 ≤ fa ∧ fa ≤ 100 ∧
  ∀ f' H', RunAt C H' x m fa (putLs m ls t) f' → Frm f H H' → Nw H f f' → Q (.int (putT m fa ls t : Nat)) H'
def leafDrop (ls : List (List Th)) (t : Th) : List Th := (ls.getD (leafFor ls t) []).eraseIdx (idxTh t (ls.getD (leafFor ls t) []))

def dropLs (ls : List (List Th)) (t : Th) : List (List Th) := if leafDrop ls t = [] then ls.eraseIdx (leafFor ls t) else ls.set (leafFor ls t) (leafDrop ls t)
def sp_Run_drop (C : Addr) : Sp := fun vs H Q _ => ∃ (x : Addr) (v : V) (t : Th) (ks : List Str) (m fa : Nat) (ls : List (List Th)) (f : List Addr), vs = [.ref x, v] ∧ RunAt C H x m fa ls f ∧ LsK ks ls ∧ ThAt H v t ∧ ThK ks t ∧ 2 ≤ fa ∧ fa ≤ 100 ∧ t ∈ ls.getD (leafFor ls t) [] ∧
  ∀ f' H', RunAt C H' x m fa (dropLs ls t) f' → Frm f H H' → Nw H f f' → Q (.int ((lvs fa ls.length).1 + 2 : Nat)) H'

def leafLt (ls : List (List Th)) (t : Th) : Nat → Nat
  | 0 => 0
  | n + 1 => if thLt (hd0 (ls.getD n [])) t = true then n else leafLt ls t n
def sp_law_put : Sp := fun vs H Q _ => ∃ (a : Addr) (v : V) (t : Th) (ks : List Str) (m fa : Nat) (ls : List (List Th)) (f : List Addr), vs = [.ref a, .int m, .int fa, v] ∧ Ch H a ls f ∧ LsK ks ls ∧ ThAt H v t ∧ ThK ks t ∧ (∀ p ∈ ls, t ∉ p) ∧ 2 ≤ fa ∧ fa ≤ 100 ∧
  ∀ f' H', Ch H' a (putLs m ls t) f' → Frm f H H' → Nw H f f' → Q (.int (putT m fa ls t : Nat)) H'
end My
namespace L2
open PySem PySem.Spec PyProof.Rows
section
variable {X : Cx} {pos p2 : Pos} {o lo hi : Expr} {to tl th : TE}

def gSl (to tl th : TE) : TG := fun v σ H Q => to σ H fun o H1 => tl σ H1 fun x H2 => th σ H2 fun y H3 => ∃ (l b : Addr) (xs ys : List V) (a c : Int), o = .ref l ∧ v = .ref b ∧ x = .int a ∧ y = .int c ∧ H3 l = some (.lst xs) ∧ H3 b = some (.lst ys) ∧ l ≠ b ∧ 0 ≤ a ∧ a ≤ c ∧ c ≤ xs.length ∧ xs.length + ys.length ≤ sizeLine ∧ Q σ (upd H3 l (.lst (xs.take a.toNat ++ ys ++ xs.drop c.toNat)))
end
end L2

set_option Elab.async false
set_option linter.all false
set_option maxRecDepth 100000

namespace My
open PySem PySem.W PyProof.Rows PySem.Spec

structure TotB (n : Nat) (lt : Nat → Nat → Bool) : Prop where
  asym : ∀ i j, i < n → j < n → lt i j = true → lt j i = false
  tot : ∀ i j, i < n → j < n → i ≠ j → lt i j = false → lt j i = true
  trans : ∀ i j k, i < n → j < n → k < n → lt i j = true → lt j k = true → lt i k = true
section
variable {n : Nat} {lt : Nat → Nat → Bool} (T : TotB n lt) (h0 : 0 < n)
def Rise (lt : Nat → Nat → Bool) (p : Array Nat) (k : Nat) : Prop := ∀ i j, i < j → j < k → lt (p.getD i 0) (p.getD j 0) = true
def Fall (lt : Nat → Nat → Bool) (p : Array Nat) (k : Nat) : Prop := ∀ i j, i < j → j < k → lt (p.getD j 0) (p.getD i 0) = true
theorem Plc.size {p : Array Nat} (h : Plc n p) : p.size = n := by
  have := h.size_eq
  simpa using this
theorem Plc.inj {p : Array Nat} (h : Plc n p) {i j : Nat} (hi : i < n) (hj : j < n) (hij : i ≠ j) : p.getD i 0 ≠ p.getD j 0 := by
  have hs := Plc.size h
  have hn : p.toList.Nodup := by
    have := (Array.perm_iff_toList_perm.mp h).nodup_iff.mpr (by simpa using List.nodup_range (n := n))
    exact this
  intro e
  have e1 : p.getD i 0 = p.toList[i]'(by simpa [hs] using hi) := by simp [Array.getD, hs, hi]
  have e2 : p.getD j 0 = p.toList[j]'(by simpa [hs] using hj) := by simp [Array.getD, hs, hj]
  rw [e1, e2] at e
  have pw := List.pairwise_iff_getElem.mp hn
  rcases Nat.lt_or_gt_of_ne hij with c | c
  · exact pw i j _ _ c e
  · exact pw j i _ _ c e.symm
include T h0
theorem Rise.more {p : Array Nat} (h : Plc n p) {m : Nat} (r : Rise lt p m) (h1 : 1 ≤ m) (hm : m < n) (hl : lt (p.getD (m - 1) 0) (p.getD m 0) = true) : Rise lt p (m + 1) := fun i j hij hj => by
  by_cases c : j < m
  · exact r i j hij c
  · obtain rfl : j = m := by omega
    by_cases c2 : i = j - 1
    · rw [c2]; exact hl
    · exact T.trans _ _ _ (h.lt h0 _) (h.lt h0 _) (h.lt h0 _) (r i (j - 1) (by omega) (by omega)) hl
theorem Fall.more {p : Array Nat} (h : Plc n p) {m : Nat} (r : Fall lt p m) (h1 : 1 ≤ m) (hm : m < n) (hl : lt (p.getD m 0) (p.getD (m - 1) 0) = true) : Fall lt p (m + 1) := fun i j hij hj => by
  by_cases c : j < m
  · exact r i j hij c
  · obtain rfl : j = m := by omega
    by_cases c2 : i = j - 1
    · rw [c2]; exact hl
    · exact T.trans _ _ _ (h.lt h0 _) (h.lt h0 _) (h.lt h0 _) hl (r i (j - 1) (by omega) (by omega))
theorem asc_val {p : Array Nat} (h : Plc n p) : ∀ f m, m + f = n → 1 ≤ m → Rise lt p m → m ≤ (kas_asc p f m).val lt ∧ (kas_asc p f m).val lt ≤ n ∧ Rise lt p ((kas_asc p f m).val lt) ∧ ((kas_asc p f m).val lt = n ∨ ((kas_asc p f m).val lt < n ∧ lt (p.getD ((kas_asc p f m).val lt) 0) (p.getD ((kas_asc p f m).val lt - 1) 0) = true))
  | 0, m, hm, h1, r => ⟨Nat.le_refl _, by show m ≤ n; omega, r, .inl (by show m = n; omega)⟩
  | f + 1, m, hm, h1, r => by
    have e : (kas_asc p (f + 1) m).val lt = (if lt (p.getD m 0) (p.getD (m - 1) 0) = true then KasT.ret m else kas_asc p f (m + 1)).val lt := rfl
    by_cases c : lt (p.getD m 0) (p.getD (m - 1) 0) = true
    · rw [e, if_pos c]
      exact ⟨Nat.le_refl _, by show m ≤ n; omega, r, .inr ⟨by show m < n; omega, c⟩⟩
    · rw [e, if_neg c]
      have c' := T.tot _ _ (h.lt h0 _) (h.lt h0 _) (Plc.inj h (by omega) (by omega) (by omega : m ≠ m - 1)) (by simpa using c)
      obtain ⟨a1, a2, a3, a4⟩ := asc_val h f (m + 1) (by omega) (by omega) (Rise.more T h0 h r h1 (by omega) c')
      exact ⟨by omega, a2, a3, a4⟩
theorem desc_val {p : Array Nat} (h : Plc n p) : ∀ f m, m + f = n → 1 ≤ m → Fall lt p m → ∃ r, (kas_desc f p m 0).val lt = (p, r, 0) ∧ m ≤ r ∧ r ≤ n ∧ Fall lt p r
  | 0, m, hm, h1, r => ⟨m, rfl, Nat.le_refl _, by omega, r⟩
  | f + 1, m, hm, h1, r => by
    have e : (kas_desc (f + 1) p m 0).val lt = (if lt (p.getD m 0) (p.getD (m - 1) 0) = true then (if (0 : Nat) > 0 then kas_desc f (kas_rev p (m - (0 + 1)) m) (m + 1) 0 else kas_desc f p (m + 1) 0)
      else KasT.ask (p.getD (m - 1) 0) (p.getD m 0) fun d => if d = true then .ret (p, m, 0) else kas_desc f p (m + 1) (0 + 1)).val lt := rfl
    by_cases c : lt (p.getD m 0) (p.getD (m - 1) 0) = true
    · rw [e, if_pos c, if_neg (by decide)]
      obtain ⟨r', e1, e2, e3, e4⟩ := desc_val h f (m + 1) (by omega) (by omega) (Fall.more T h0 h r h1 (by omega) c)
      exact ⟨r', e1, by omega, e3, e4⟩
    · rw [e, if_neg c]
      have c' := T.tot _ _ (h.lt h0 _) (h.lt h0 _) (Plc.inj h (by omega) (by omega) (by omega : m ≠ m - 1)) (by simpa using c)
      refine ⟨m, ?_, Nat.le_refl _, by omega, r⟩
      show (if lt (p.getD (m - 1) 0) (p.getD m 0) = true then KasT.ret (p, m, 0) else kas_desc f p (m + 1) (0 + 1)).val lt = _
      rw [if_pos c']; rfl
omit T h0 in
theorem rev_getD {p : Array Nat} {r k : Nat} (hr : r ≤ p.size) : (kas_rev p 0 r).getD k 0 = if k < r then p.getD (r - 1 - k) 0 else p.getD k 0 := by
  have e : ∀ (q : Array Nat) (k : Nat), q.getD k 0 = (q[k]?).getD 0 := fun q k => by simp [Array.getD_eq_getD_getElem?]
  rw [e, e, e, kas_rev, getElem?_mirror_all hr k]
  by_cases c : k < r
  · rw [if_pos ⟨Nat.zero_le _, c⟩, if_pos c]; congr 2; omega
  · rw [if_neg (fun z => c z.2), if_neg c]
theorem tail3_val {p : Array Nat} (h : Plc n p) {r : Nat} (h1 : 1 ≤ r) (hr : r ≤ n) (f : Fall lt p r) : ∃ m p', (kas_tail3 r n p).val lt = (m, p') ∧ 1 ≤ m ∧ m ≤ n ∧ Plc n p' ∧ Rise lt p' m := by
  have hp' := h.rev 0 r
  have hR : Rise lt (kas_rev p 0 r) r := fun i j hij hj => by
    rw [rev_getD (by rw [Plc.size h]; exact hr), rev_getD (by rw [Plc.size h]; exact hr), if_pos (by omega), if_pos hj]
    exact f _ _ (by omega) (by omega)
  obtain ⟨a1, a2, a3, a4⟩ := asc_val T h0 hp' (n - r) r (by omega) h1 hR
  refine ⟨_, _, ?_, by omega, a2, hp', a3⟩
  unfold kas_tail3
  rw [val_bind]
  rfl
theorem count_val {p : Array Nat} (h : Plc n p) : ∃ m p', (kas_count n p).val lt = (m, p') ∧ 1 ≤ m ∧ m ≤ n ∧ Plc n p' ∧ Rise lt p' m := by
  have r1 : Rise lt p 1 := fun i j hij hj => by omega
  obtain ⟨a1, a2, a3, a4⟩ := asc_val T h0 h (n - 1) 1 (by omega) (Nat.le_refl _) r1
  unfold kas_count
  rw [val_bind]
  generalize (kas_asc p (n - 1) 1).val lt = r at a1 a2 a3 a4 ⊢
  by_cases c : r = n
  · rw [if_pos (by simpa using c)]
    exact ⟨r, p, rfl, by omega, by omega, h, a3⟩
  · rw [if_neg (by simpa using c)]
    obtain ⟨b1, b2⟩ := a4.resolve_left c
    by_cases c2 : r > 1
    · rw [if_pos c2]
      refine ⟨r, p, ?_, by omega, by omega, h, a3⟩
      show (if lt (p.getD 0 0) (p.getD (r - 1) 0) = true then KasT.ret (r, p) else kas_descPart r n (kas_rev p 0 r)).val lt = _
      rw [if_pos (a3 0 (r - 1) (by omega) (by omega))]; rfl
    · rw [if_neg c2]
      obtain rfl : r = 1 := by omega
      have f2 : Fall lt p 2 := fun i j hij hj => by
        obtain rfl : i = 0 := by omega
        obtain rfl : j = 1 := by omega
        exact b2
      obtain ⟨r', e1, e2, e3, e4⟩ := desc_val T h0 h (n - (1 + 1)) (1 + 1) (by omega) (by omega) f2
      obtain ⟨m, p', g1, g2⟩ := tail3_val T h0 h (by omega) e3 e4
      refine ⟨m, p', ?_, g2⟩
      unfold kas_descPart
      rw [val_bind, e1]
      exact (congrArg (KasT.val lt) (if_neg (by simp))).trans g1
theorem place_val {p : Array Nat} (h : Plc n p) {k : Nat} (hk : k < n) (R : Rise lt p k) : ∀ f l r, r - l ≤ f → l ≤ r → r ≤ k → (∀ i, i < l → lt (p.getD k 0) (p.getD i 0) = false) → (∀ i, r ≤ i → i < k → lt (p.getD k 0) (p.getD i 0) = true) →
    (kas_place p k f l r).val lt ≤ k ∧ (∀ i, i < (kas_place p k f l r).val lt → lt (p.getD k 0) (p.getD i 0) = false) ∧ (∀ i, (kas_place p k f l r).val lt ≤ i → i < k → lt (p.getD k 0) (p.getD i 0) = true)
  | 0, l, r, hf, hl, hr, h1, h2 => ⟨by show l ≤ k; omega, h1, fun i hi hik => h2 i (by have : l ≤ i := hi; omega) hik⟩
  | f + 1, l, r, hf, hl, hr, h1, h2 => by
    unfold kas_place
    by_cases c : l ≥ r
    · rw [if_pos c]
      exact ⟨by show l ≤ k; omega, h1, fun i hi hik => h2 i (by have : l ≤ i := hi; omega) hik⟩
    · rw [if_neg c]
      have hm : (l + r) / 2 < k := by omega
      show ((if lt (p.getD k 0) (p.getD ((l + r) / 2) 0) = true then kas_place p k f l ((l + r) / 2) else kas_place p k f ((l + r) / 2 + 1) r).val lt ≤ k) ∧ _
      by_cases c2 : lt (p.getD k 0) (p.getD ((l + r) / 2) 0) = true
      · have e : (KasT.ask (p.getD k 0) (p.getD ((l + r) / 2) 0) fun c => if c = true then kas_place p k f l ((l + r) / 2) else kas_place p k f ((l + r) / 2 + 1) r).val lt = (kas_place p k f l ((l + r) / 2)).val lt := by
          show (if lt (p.getD k 0) (p.getD ((l + r) / 2) 0) = true then kas_place p k f l ((l + r) / 2) else kas_place p k f ((l + r) / 2 + 1) r).val lt = _
          rw [if_pos c2]
        rw [if_pos c2, e]
        refine place_val h hk R f l _ (by omega) (by omega) (by omega) h1 fun i hi hik => ?_
        by_cases c3 : i = (l + r) / 2
        · rw [c3]; exact c2
        · exact T.trans _ _ _ (h.lt h0 _) (h.lt h0 _) (h.lt h0 _) c2 (R _ _ (by omega) hik)
      · have e : (KasT.ask (p.getD k 0) (p.getD ((l + r) / 2) 0) fun c => if c = true then kas_place p k f l ((l + r) / 2) else kas_place p k f ((l + r) / 2 + 1) r).val lt = (kas_place p k f ((l + r) / 2 + 1) r).val lt := by
          show (if lt (p.getD k 0) (p.getD ((l + r) / 2) 0) = true then kas_place p k f l ((l + r) / 2) else kas_place p k f ((l + r) / 2 + 1) r).val lt = _
          rw [if_neg c2]
        rw [if_neg c2, e]
        have c2' : lt (p.getD k 0) (p.getD ((l + r) / 2) 0) = false := by simpa using c2
        have c3 := T.tot _ _ (h.lt h0 _) (h.lt h0 _) (Plc.inj h hk (by omega) (by omega : k ≠ (l + r) / 2)) c2'
        refine place_val h hk R f _ r (by omega) (by omega) hr (fun i hi => ?_) h2
        by_cases c4 : i = (l + r) / 2
        · rw [c4]; exact c2'
        · exact T.asym _ _ (h.lt h0 _) (h.lt h0 _) (T.trans _ _ _ (h.lt h0 _) (h.lt h0 _) (h.lt h0 _) (R i ((l + r) / 2) (by omega) hm) c3)
omit T h0 in
theorem bub_getD {p : Array Nat} {k l i : Nat} (hk : k < p.size) (hl : l ≤ k) : (bubble p k (k - l)).getD i 0 = if i = l then p.getD k 0 else if l < i ∧ i ≤ k then p.getD (i - 1) 0 else p.getD i 0 := by
  have e : ∀ (q : Array Nat) (k : Nat), q.getD k 0 = (q[k]?).getD 0 := fun q k => by simp [Array.getD_eq_getD_getElem?]
  rw [e, e, e, e, getElem?_bubble hk (k - l) (by omega) i, show k - (k - l) = l by omega]
  split
  · rfl
  · split <;> rfl
theorem bin_val : ∀ f {p : Array Nat} (k : Nat), Plc n p → k + f = n → Rise lt p k → Plc n ((kas_bin f p k).val lt) ∧ Rise lt ((kas_bin f p k).val lt) n
  | 0, p, k, h, hk, r => ⟨h, by have : k = n := by omega
                                rw [← this]; exact r⟩
  | f + 1, p, k, h, hk, r => by
    unfold kas_bin
    rw [val_bind]
    obtain ⟨a1, a2, a3⟩ := place_val T h0 h (by omega) r k 0 k (by omega) (Nat.zero_le _) (Nat.le_refl _) (fun i hi => by omega) (fun i hi hi' => by omega)
    generalize (kas_place p k k 0 k).val lt = l at a1 a2 a3 ⊢
    refine bin_val f (k + 1) (h.bub k (k - l)) (by omega) fun i j hij hj => ?_
    have hs : k < p.size := by rw [Plc.size h]; omega
    rw [bub_getD hs a1, bub_getD hs a1]
    by_cases c1 : i = l
    · rw [if_pos c1, if_neg (by omega), if_pos (by omega)]
      exact a3 (j - 1) (by omega) (by omega)
    · rw [if_neg c1]
      by_cases c2 : j = l
      · rw [if_pos c2, if_neg (by omega)]
        exact T.tot _ _ (h.lt h0 _) (h.lt h0 _) (Plc.inj h (by omega) (by omega) (by omega : k ≠ i)) (a2 i (by omega))
      · rw [if_neg c2]
        by_cases c3 : l < i
        · rw [if_pos (by omega), if_pos (by omega)]
          exact r _ _ (by omega) (by omega)
        · rw [if_neg (by omega)]
          by_cases c4 : l < j
          · rw [if_pos (by omega)]
            exact r _ _ (by omega) (by omega)
          · rw [if_neg (by omega)]
            exact r _ _ hij (by omega)
theorem sort_val : Plc n ((kas_sort n).val lt) ∧ Rise lt ((kas_sort n).val lt) n := by
  obtain ⟨m, p', e, m1, m2, hp, r⟩ := count_val T h0 (Array.Perm.refl _ : Plc n (List.toArray (List.range n)))
  unfold kas_sort
  rw [val_bind, e]
  by_cases c : m < n
  · rw [if_pos c]
    have em : max m 1 = m := by omega
    simp only [em]
    exact bin_val T h0 _ _ hp (by omega) r
  · rw [if_neg c]
    have : m = n := by omega
    subst this
    exact ⟨hp, r⟩
end
theorem ordOf_rise {n : Nat} {lt : Nat → Nat → Bool} (T : TotB n lt) : (ordOf lt n).Pairwise (fun i j => lt i j = true) := by
  unfold ordOf
  split
  · rename_i h
    have : n = 0 ∨ n = 1 := by omega
    rcases this with rfl | rfl
    · exact List.Pairwise.nil
    · exact List.pairwise_singleton _ _
  · obtain ⟨hp, r⟩ := sort_val T (by omega : 0 < n)
    have hs := Plc.size hp
    rw [List.pairwise_iff_getElem]
    intro i j hi hj hij
    have hi' : i < n := by simpa [hs] using hi
    have hj' : j < n := by simpa [hs] using hj
    have := r i j hij hj'
    simpa [Array.getD, hs, hi', hj'] using this
open L2

theorem keyLt_asym {x y : Key} (h : keyLt x y = true) : keyLt y x = false := by
  cases x with
  | inl a => cases y with
    | inl b => simp only [keyLt, decide_eq_true_eq] at h; simp only [keyLt, decide_eq_false_iff_not]; omega
    | inr b => exact absurd h (by simp [keyLt])
  | inr a => cases y with
    | inl b => exact absurd h (by simp [keyLt])
    | inr b => simp only [keyLt, decide_eq_true_eq] at h; simp only [keyLt, decide_eq_false_iff_not]; exact List.lt_asymm h
theorem str_eq {a b : Str} (h : a.cps.toList = b.cps.toList) : a = b := by
  cases a; cases b; simp only [Str.mk.injEq]; exact Array.toList_inj.mp h
theorem keyLt_tot {x y : Key} (hk : kindOf x = kindOf y) (hn : x ≠ y) (h : keyLt x y = false) : keyLt y x = true := by
  cases x with
  | inl a => cases y with
    | inl b =>
      have : a ≠ b := fun z => hn (by rw [z])
      simp only [keyLt, decide_eq_false_iff_not] at h; simp only [keyLt, decide_eq_true_eq]; omega
    | inr b => exact absurd (show ("number" : Str) = "word" from hk) (by decide +kernel)
  | inr a => cases y with
    | inl b => exact absurd (show ("word" : Str) = "number" from hk) (by decide +kernel)
    | inr b =>
      have hn' : a.cps.toList ≠ b.cps.toList := fun z => hn (by rw [str_eq z])
      simp only [keyLt, decide_eq_false_iff_not] at h; simp only [keyLt, decide_eq_true_eq]
      by_cases d : b.cps.toList < a.cps.toList
      · exact d
      · exact absurd (List.le_antisymm (List.not_lt.mp d) (List.not_lt.mp h)) hn'
theorem keyLt_trans {x y z : Key} (h1 : keyLt x y = true) (h2 : keyLt y z = true) : keyLt x z = true := by
  cases x with
  | inl a => cases y with
    | inl b => cases z with
      | inl c => simp only [keyLt, decide_eq_true_eq] at *; omega
      | inr c => exact absurd h2 (by simp [keyLt])
    | inr b => exact absurd h1 (by simp [keyLt])
  | inr a => cases y with
    | inl b => exact absurd h1 (by simp [keyLt])
    | inr b => cases z with
      | inl c => exact absurd h2 (by simp [keyLt])
      | inr c => simp only [keyLt, decide_eq_true_eq] at *; exact List.lt_trans h1 h2
abbrev Ris (ts : List Th) : Prop := ts.Pairwise (fun s t => thLt s t = true)
end My

set_option Elab.async false
set_option linter.all false
set_option maxRecDepth 100000

namespace My
open PySem PySem.W PyProof.Rows PySem.Spec
theorem minRun_le : ∀ f n r, r ≤ 1 → minRun' f n r ≤ n + r
  | 0, n, r, _ => Nat.le_refl _
  | f + 1, n, r, hr => by
    rw [minRun'_succ]
    split
    · exact Nat.le_refl _
    · have := minRun_le f (n / 2) (max r (n % 2)) (by omega)
      omega
section
variable {prog : Program} {w : World} {A : Around} {E : Value → Shared → Prop} {κ : SortKind} {it : Array Keyed}
theorem runs_rise {n : Nat} {Q : Unit → SortSt → Shared → Prop} {s : Shared} (h2 : 2 ≤ n) (h : (kas_count n (List.toArray (List.range n))).kasWp (kas_cmp prog w A κ it) (fun r s' => r = (n, List.toArray (List.range n)) ∧ s' = s) s)
    (hQ : ∀ st', arrOf st' = (List.toArray (List.range n)).map (kas_item it) → failedOf st' = none → Q () st' s) : kasC (model prog w) A E sortRuns' Q (kas_st κ it (List.toArray (List.range n))) s := by
  obtain ⟨k, rfl⟩ : ∃ k, n = k + 2 := ⟨n - 2, by omega⟩
  have z0 : (List.toArray (List.range (k + 2))).size = k + 2 := by simp
  have z1 : (arrOf (kas_st κ it (List.toArray (List.range (k + 2))))).size = k + 2 := by
    refine (Array.size_map ..).trans z0
  have mr := minRun_le (k + 2) (k + 2) 0 (by decide)
  rw [sortRuns'_eq]
  refine kasC_bind (kasC_get ?_)
  dsimp only
  simp only [z1]
  generalize minRun' (k + 2) (k + 2) 0 = mm at mr ⊢
  refine kasC_bind (kasC_range (show kasC _ _ _ (forIn (0 :: 1 :: List.range' 2 k) _ _) _ _ _ from kasC_cons ?_))
  dsimp only
  rw [if_neg (by omega)]
  simp only [Nat.sub_zero, Nat.zero_add]
  refine kasC_bind (kas_count_ (by omega) (Nat.le_of_eq z0.symm) (fun m p' s' m1 m2 hp hg => ?_) h)
  obtain ⟨e, rfl⟩ := hg
  cases e
  dsimp only
  rw [if_neg (by omega)]
  refine kasC_bind (kasC_get ?_)
  rw [show (pendingOf (kas_st κ it (List.toArray (List.range (k + 2))))).back? = none from rfl]
  dsimp only
  refine kasC_bind (kasC_modify (kasC_pure (show kasC _ _ _ (forIn (1 :: List.range' 2 k) _ _) _ _ _ from kasC_cons ?_)))
  dsimp only
  rw [if_pos (Nat.le_refl _)]
  refine kasC_pure (kasC_bind (kasC_range (show kasC _ _ _ (forIn (0 :: 1 :: List.range' 2 k) _ _) _ _ _ from kasC_cons (kasC_bind (kasC_get ?_)))))
  rw [if_pos (show (pendingOf (setPending (kas_st κ it (List.toArray (List.range (k + 2)))) ((pendingOf (kas_st κ it (List.toArray (List.range (k + 2))))).push (0, k + 2, 0)))).size ≤ 1 from by show 1 ≤ 1; omega)]
  exact kasC_pure (kasC_pure (hQ _ rfl rfl))
theorem count_rise {n : Nat} {lt : Nat → Nat → Bool} (T : TotB n lt) (h0 : 0 < n) (hr : ∀ i j, i < j → j < n → lt i j = true) : (kas_count n (List.toArray (List.range n))).val lt = (n, List.toArray (List.range n)) := by
  have pl : Plc n (List.toArray (List.range n)) := Array.Perm.refl _
  have gd : ∀ i, i < n → (List.toArray (List.range n)).getD i 0 = i := fun i hi => by simp [Array.getD, hi]
  obtain ⟨a1, a2, a3, a4⟩ := asc_val T h0 pl (n - 1) 1 (by omega) (Nat.le_refl _) (fun i j hij hj => by omega)
  unfold kas_count
  rw [val_bind]
  generalize (kas_asc (List.toArray (List.range n)) (n - 1) 1).val lt = r at a1 a2 a3 a4 ⊢
  have e : r = n := by
    rcases a4 with e | ⟨b1, b2⟩
    · exact e
    · rw [gd r b1, gd (r - 1) (by omega)] at b2
      have := T.asym _ _ b1 (by omega) b2
      rw [hr (r - 1) r (by omega) b1] at this
      cases this
  subst e
  rw [if_pos (by simp)]
  rfl
variable {s : Shared}
theorem sortRise {kd : SortKind} {lt : Nat → Nat → Bool} {a : Addr} {vs : List Value} {n : Nat} {P : PySem.Fin → Shared → Prop} (ho : s.heap.get? a = some (seqObj "list" vs.toArray n)) (hz : vs.length ≤ 100000) (T : TotB vs.length lt) (hr : ∀ i j, i < j → j < vs.length → lt i j = true)
    (hkk : 2 ≤ vs.length → ∀ {Q : SortKind → Shared → Prop}, Q kd { s with heap := G.sortHeap6 s.heap a vs } → wpAny (model prog w) A (keyKind' vs.toArray) Q E { s with heap := G.sortHeap6 s.heap a vs })
    (hask : ∀ i j (C : Bool → Shared → Prop), i < vs.length → j < vs.length → C (lt i j) { s with heap := G.sortHeap6 s.heap a vs } → kas_ask prog w A kd vs i j C { s with heap := G.sortHeap6 s.heap a vs })
    (h : P (.done (.ret .none)) { s with heap := sortedHeap s.heap a vs vs.toArray }) : wpAny (model prog w) A (Builtin.«list.sort» ⟨[.ref a], []⟩) P E s := by
  have hsl := sizeLine_eq
  have ez : (vs.toArray.zip vs.toArray).map (·.2) = vs.toArray := by
    apply Array.toList_inj.mp
    refine List.ext_getElem? fun i => ?_
    by_cases hi : i < vs.length
    · simp [hi]
    · simp [hi]
  rw [list_sort_plain]
  refine wpAny_bind (listItems_at ho rfl (wpAny_bind (listUpdate_at ho rfl ?_ (by rw [List.size_toArray]; omega) (Nat.zero_le _))))
  obtain ⟨e1, g1⟩ : ∃ e1, (s.heap.update a (Obj.mapSeq fun _ => #[])).get? a = some (seqObj "list" #[] e1) := ⟨_, get?_update_seq ho (fun _ => #[])⟩
  refine wpAny_bind (seqEpoch_at g1 rfl (wpAny_bind (wpAny_newTuple ?_ (by show vs.length ≤ _; omega))))
  refine wpAny_bind (wpAny_newList (wpAny_holding ?_) (Nat.zero_le _))
  have g6 : (G.sortHeap6 s.heap a vs).get? a = some (seqObj "list" #[] e1) := Heap.get?_push_of_some _ (Heap.get?_push_of_some _ g1)
  show wpAny (model prog w) A _ P E { s with heap := G.sortHeap6 s.heap a vs }
  dsimp only
  have hn : vs.toArray.size = vs.length := by simp
  by_cases h2 : vs.length < 2
  · rw [← ez] at h
    rw [if_pos (by rw [hn]; exact h2), if_pos (by rw [hn]; exact h2)]
    refine wpAny_bind (wpAny_pure ?_)
    rw [StateT.run_pure]
    refine wpAny_bind (wpAny_pure ?_)
    dsimp only
    refine wpAny_bind (seqEpoch_at g6 rfl (wpAny_bind (listUpdate_at g6 rfl ?_ (Nat.zero_le _) (by rw [Array.size_map]; show (pairsOf vs).size ≤ _; rw [pairsOf_size]; omega))))
    simp only [bne_self_eq_false, Bool.false_eq_true, if_false]
    exact wpAny_pure h
  · rw [if_neg (by rw [hn]; exact h2), if_neg (by rw [hn]; exact h2)]
    refine wpAny_bind (hkk (by omega) ?_)
    have tree : (kas_count vs.length (List.toArray (List.range vs.length))).kasWp (kas_ask prog w A kd vs) (fun p s' => p = (vs.length, List.toArray (List.range vs.length)) ∧ s' = { s with heap := G.sortHeap6 s.heap a vs }) { s with heap := G.sortHeap6 s.heap a vs } :=
      (ins_count (n := vs.length) (by omega) vs.length (Array.Perm.refl _)).wp hask ⟨count_rise T (by omega) hr, rfl⟩
    rw [kat_ask_eq rfl] at tree
    have est : SortSt.mk' kd (vs.toArray.zip vs.toArray) #[] 7 none = kas_st kd (vs.toArray.zip vs.toArray) (List.toArray (List.range vs.length)) := by
      have e := kas_range (vs.toArray.zip vs.toArray)
      rw [show (vs.toArray.zip vs.toArray).size = vs.length by simp] at e
      unfold kas_st
      rw [e]
    have run := runs_rise (E := E) (Q := fun _ st' s' => (arrOf st').map (·.2) = vs.toArray ∧ failedOf st' = none ∧ s' = { s with heap := G.sortHeap6 s.heap a vs }) (by omega) tree (fun st' b1 b2 => ⟨by
      have e := kas_range (vs.toArray.zip vs.toArray)
      rw [show (vs.toArray.zip vs.toArray).size = vs.length by simp] at e
      rw [b1, e, ez], b2, rfl⟩)
    unfold kasC at run
    rw [est]
    refine wpAny_bind (wpAny_mono run ?_ fun _ _ e => e)
    rintro ⟨⟨⟩, st'⟩ s' ⟨b1, b2, rfl⟩
    dsimp only
    rw [b1]
    refine wpAny_bind (seqEpoch_at g6 rfl (wpAny_bind (listUpdate_at g6 rfl ?_ (Nat.zero_le _) (by rw [List.size_toArray]; omega))))
    rw [b2]
    simp only [bne_self_eq_false, Bool.false_eq_true, if_false]
    exact wpAny_pure h
theorem sortedRise {kd : SortKind} {lt : Nat → Nat → Bool} {l : Addr} {o : Obj} {n : Nat} {T : String} {vs : List Value} {Q : Value → Shared → Prop} (ho : s.heap.get? l = some o) (hT : T = "list" ∨ T = "tuple") (hc : o.cls = .type T) (hd : o.data = .seq vs.toArray n) (hz : vs.length ≤ 100000)
    (TB : TotB vs.length lt) (hr : ∀ i j, i < j → j < vs.length → lt i j = true)
    (hkk : 2 ≤ vs.length → ∀ (s₂ : Shared) {Q : SortKind → Shared → Prop}, G.KeepsTups s.heap s₂.heap → Q kd s₂ → wpAny (model prog w) A.in1.in1 (keyKind' vs.toArray) Q (fun _ _ => False) s₂)
    (hask : ∀ (s₂ : Shared) i j (C : Bool → Shared → Prop), G.KeepsTups s.heap s₂.heap → i < vs.length → j < vs.length → C (lt i j) s₂ → kas_ask prog w A.in1.in1 kd vs i j C s₂)
    (h : Q (.ref (s.heap.objs.size + 1)) { s with heap := sortedAll s.heap vs vs.toArray }) :
    wpAny (model prog w) A (call (.builtin "sorted") [.ref l]) Q E s := by
  have hsl := sizeLine_eq
  refine Calls.call_function_entry kind_sorted plain_sorted entry_sorted (args_sorted1 _) ?_
  unfold Builtin.«sorted»
  refine wpAny_bind (m := checkCount "sorted" 1 1 _) (wpAny_pure (wpAny_bind (collect_seq ho hT hc hd (wpAny_bind (wpAny_newList ?_ (by omega))) (by omega))))
  have z1 : ((s.heap.push (seqObj "list" #[] 0)).update s.heap.objs.size (Obj.mapSeq (· ++ vs.toArray))).objs.size = s.heap.objs.size + 1 := by rw [Heap.size_update, size_push']
  have g1 : (((s.heap.push (seqObj "list" #[] 0)).update s.heap.objs.size (Obj.mapSeq (· ++ vs.toArray))).push (seqObj "list" vs.toArray 0)).get? (s.heap.objs.size + 1) = some (seqObj "list" vs.toArray 0) := by
    rw [← z1]; exact Heap.get?_push_size _ rfl
  have g0 : (s.heap.push (seqObj "list" #[] 0)).get? s.heap.objs.size = some (seqObj "list" #[] 0) := Heap.get?_push_size _ rfl
  have k0 : G.KeepsTups s.heap (((s.heap.push (seqObj "list" #[] 0)).update s.heap.objs.size (Obj.mapSeq (· ++ vs.toArray))).push (seqObj "list" vs.toArray 0)) :=
    ((G.KeepsTups.push _ _).trans (G.KeepsTups.update _ g0 G.not_tuple_list)).trans (G.KeepsTups.push _ _)
  have k6 := k0.trans (G.keeps_sort6 (vs := vs) g1)
  show wpAny _ _ _ _ _ { s with heap := ((s.heap.push (seqObj "list" #[] 0)).update s.heap.objs.size (Obj.mapSeq (· ++ vs.toArray))).push (seqObj "list" vs.toArray 0) }
  rw [z1]
  refine wpAny_bind (wpAny_holding (wpAny_call_entry slot_list_sort ⟨_, g1, rfl⟩ entry_list_sort (sortRise (kd := kd) (lt := lt) g1 hz TB hr ?kk ?aa ⟨_, rfl, ?rr⟩) (args_list_sort _)))
  case kk => exact fun h2 Q' hq => wpAny_mono (hkk h2 _ k6 hq) (fun _ _ x => x) fun _ _ x => x.elim
  case aa => exact fun i j C hi hj hc => hask _ i j C k6 hi hj hc
  case rr => exact wpAny_pure ⟨_, rfl, h⟩
end
end My
namespace L2
open PySem PySem.W PyProof.Rows PySem.Spec My
section
variable {X : Cx}
def rSortRis (K : PySem.W.Frag) : List V → Hp → VK → Prop := fun vs H Q => ∃ (a : Addr) (xs : List V) (ts : List Th) (ks : List Str), vs = [.ref a] ∧ (SqL K H a xs ∨ SqT K H a xs) ∧ Ths H xs ts ∧ (∀ t ∈ ts, ThK ks t) ∧ Ris ts ∧ ts.length ≤ 1000 ∧ ∀ p, H p = none → Q (.ref p) (upd H p (.lst xs))
end
end L2

set_option Elab.async false
set_option linter.all false
set_option maxRecDepth 100000

namespace My
open PySem PySem.Spec PyProof.Rows L2
structure Lv (m : Nat) (ks : List Str) (ls : List (List Th)) : Prop where
  pg : ∀ p ∈ ls, p ≠ [] ∧ p.length ≤ m ∧ ∀ t ∈ p, ThK ks t
  ris : Ris ls.flatten
section
variable {m : Nat} {ks : List Str} {ls : List (List Th)} {t : Th} (L : Lv m ks ls) (hk : ThK ks t) (h0 : 0 < ls.length)
include L hk h0
end
def filt (t : Th) (p : List Th) : List Th := p.filter fun s => decide (s ≠ t)
def full (ls : List (List Th)) : List (List Th) := ls.filter fun p => decide (p ≠ [])
end My

set_option Elab.async false
set_option linter.all false
set_option maxRecDepth 100000

namespace My
open PySem PySem.Spec PyProof.Rows L2
structure St7 (C : Addr) (H H1 : Hp) (x D L : Addr) (m fa : Nat) (ks : List Str) (ls : List (List Th)) (f1 f2 : List Addr) : Prop where
  same : Same H H1
  kd : H1 L = some (.lst (ks.map V.str))
  X : RunAt C H1 x m fa ls f1
  B : Ch H1 D ls f2
  lv : Lv m ks ls
  d12 : Dis f1 f2
  Lf1 : L ∉ f1
  Lf2 : L ∉ f2
  n1 : ∀ y ∈ f1, H y = none
  n2 : ∀ y ∈ f2, H y = none
section
variable {C : Addr} {H H1 H2 : Hp} {x D L : Addr} {m fa : Nat} {ks : List Str} {ls : List (List Th)} {f1 f2 : List Addr}
end
end My

set_option Elab.async false
set_option linter.all false
set_option maxRecDepth 100000

namespace PySem
open Sem (wp)
open AutoSeq1 (wpAny_loadPart')
section
variable {prog : Program} {w : World} {A : Around} {E : Value → Shared → Prop} {s : Shared} {r : Addr} {a b c : Int} {t u v : Tok} {n : Nat}
end
end PySem
namespace L2
open PySem PySem.W PyProof.Rows PySem.Spec My
section
variable {X : Cx}
def nats (n : Nat) : List V := (List.range n).map fun i : Nat => V.int (i : Int)
def tTupR (ta : TA) : TE := fun σ H Q => ta σ H fun vs H1 => ∃ n : Nat, vs = [.int n] ∧ n ≤ 1000 ∧ ∀ l, H1 l = none → Q (.ref l) (upd H1 l (.tup (nats n)))
def rSnoc (K : PySem.W.Frag) : R2 := fun x y H Q => ∃ a b xs ys, x = .ref a ∧ y = .ref b ∧ SqT K H a xs ∧ SqT K H b ys ∧ ys ≠ [] ∧ xs.length + ys.length ≤ sizeLine ∧
  (xs = [] → Q (.ref b) H) ∧ (xs ≠ [] → ∀ p, H p = none → Q (.ref p) (upd H p (.tup (xs ++ ys))))
end
end L2

set_option Elab.async false
set_option linter.all false
set_option maxRecDepth 100000

namespace L2
open PySem PySem.W PyProof.Rows PySem.Spec My
structure FunD (K : PySem.W.Frag) (dV kV : Value) (x qual : Str) (st : Stmt) (f : Addr) (fd : FuncData) : Prop where
  ex : ∃ (oc : Value) (od : Option Addr) (doc pm : Value) (an : Option Addr) (cdv ct : Value) (osl : Array (Option Value)),
    fd = PySem.W.fnOf x qual (defArgs st) (defBody st) (defScope st) dV kV doc pm an cdv ct ∧ K.lookup f = some ⟨oc, od, .func fd, osl⟩ ∧ PySem.W.codeIn K cdv qual = true
  kp : PySem.W.keepIn K (.ref f) = true
section
variable {P : Program} {w : World} {K : PySem.W.Frag} {mg : Str → Option Value} {base : Heap}
theorem FunD.ok {dV kV : Value} {x qual : Str} {st : Stmt} {f : Addr} {fd : FuncData} {N ps : List Str} {k : Nat} {sp : Sp} (F : FunD K dV kV x qual st f fd) (S : FnScope N ps (defScope st)) (len : ∀ vs H Q E, sp vs H Q E → vs.length = ps.length)
    (hbody : ∀ (cdv : Value) (A : Around) (outer : List Env) (s : Shared) (H : Hp) (vs : List V) (Q : VK) (E : XK), Room k (A.deeper (envOfC qual (defScope st) s.heap.objs.size f cdv)) → sp vs H Q E →
      ∃ t, PSs (cxOf CX0 P w K mg base N qual (defScope st) f cdv A outer s H E).nox (defBody st) t ∧ t { nx := fun _ H' => Q .non H', rt := Q } (start N vs) H) : FnOk P w K mg base CX0 (k + 1) f fd ps sp := by
  obtain ⟨oc, od, doc, pm, an, cdv, ct, osl, rfl, lk, hcd⟩ := F.ex
  refine fn_of lk hcd S len fun A outer s H vs Q E hr hsp => ?_
  obtain ⟨t, h, q⟩ := hbody cdv A outer s H vs Q E hr hsp
  exact ⟨t, h.nox, q⟩
theorem funD_mk {dV kV : Value} {x qual : Str} {st : Stmt} {f : Addr} {oc : Value} {od an : Option Addr} {osl : Array (Option Value)} {doc pm cdv ct : Value} (l : K.lookup f = some ⟨oc, od, .func (PySem.W.fnOf x qual (defArgs st) (defBody st) (defScope st) dV kV doc pm an cdv ct), osl⟩)
    (c : PySem.W.codeIn K cdv qual = true) (k : PySem.W.keepIn K (.ref f) = true) : FunD K dV kV x qual st f (PySem.W.fnOf x qual (defArgs st) (defBody st) (defScope st) dV kV doc pm an cdv ct) := ⟨⟨oc, od, doc, pm, an, cdv, ct, osl, rfl, l, c⟩, k⟩
end
structure MDefD (K : PySem.W.Frag) (C : Addr) (m qual : Str) (st : Stmt) (dV kV : Value) (fa : Addr) (fd : FuncData) : Prop where
  meth : Meth K C m fa
  fn : FunD K dV kV m qual st fa fd
def tTruK (K : PySem.W.Frag) (ta : TE) : TT := fun σ H Q => ta σ H fun x H' => ∃ k, TruV K x H' k ∧ Q k H'
end L2

set_option Elab.async false
set_option linter.all false
set_option maxRecDepth 100000

namespace L2
open PySem PySem.W PyProof.Rows PySem.Spec
section
variable {X : Cx}
end
end L2
namespace My
open PySem PySem.Spec PyProof.Rows L2
theorem Eff.put {b p : Addr} {H H' : Hp} {o : HO} (e : Eff b H H') (hb : Bag H b) (h : H p = none) : Eff b H (upd H' p o) := by
  refine ⟨?_, fun c u n z => by rw [upd_ne (ne_of_none z h)]; exact e.2 c u n z⟩
  obtain ⟨g, x, q, r⟩ := e.1
  exact ⟨g, x, by rw [upd_ne (hb.ne h)]; exact q, r⟩
section
variable {α β : Type} {K : PySem.W.Frag} {a : Addr} {xs : List V} {ds : List α} {g : TG} {tt : TT} {te : TE} {vs : List Nat} {σ : L2.St} {H1 : Hp} {D : Addr} {Qd : Hp → Prop} {F : Hp → V → α → Prop} {G : Hp → V → β → Prop}
end

abbrev Of := Int × List Nat
def nV (ks : List Nat) : List V := ks.map fun k : Nat => V.int (k : Int)
def IntAt (_ : Hp) (v : V) (i : Int) : Prop := v = .int i
def NatAt (_ : Hp) (v : V) (i : Nat) : Prop := v = .int i
def OfAt (H : Hp) (v : V) (o : Of) : Prop := ∃ p q, v = .ref p ∧ H p = some (.tup [.int o.1, .ref q]) ∧ H q = some (.tup (nV o.2))
abbrev Ofs (H : Hp) : List V → List Of → Prop := Paired (OfAt H)
def opn (cs : List Nat) (o : Of) : Bool := o.2.all fun k => decide (k ∈ cs)
structure OfOk (n : Nat) (os : List Of) : Prop where
  len : os.length ≤ 20
  ok : ∀ o ∈ os, 0 ≤ o.1 ∧ o.1 ≤ 20000 ∧ o.2.length ≤ 2
  free : ∃ o ∈ os, o.2 = []
noncomputable def least (ns : List Int) : Int := open Classical in if h : ∃ m, m ∈ ns ∧ ∀ y ∈ ns, m ≤ y then h.choose else 0
abbrev It := Int × List Of
def ItAt (g : List Addr) (H : Hp) (v : V) (it : It) : Prop := ∃ p l xs, v = .ref p ∧ H p = some (.tup [.int it.1, .ref l]) ∧ H l = some (.lst xs) ∧ l ∉ g ∧ Ofs H xs it.2
structure ItOk (n : Nat) (it : It) : Prop where
  w1 : 1 ≤ it.1
  w2 : it.1 ≤ 100
  os : OfOk n it.2
noncomputable def cost (cs : List Nat) (it : It) : Int := it.1 * least ((it.2.filter (opn cs)).map (·.1))
def keepOf (ks : List Int) (cs : List Nat) : Int := (cs.map fun k => ks.getD k 0).sum
noncomputable def tot (its : List It) (ks : List Int) (cs : List Nat) : Int := (its.map (cost cs)).sum + keepOf ks cs
structure JobOk (n : Nat) (its : List It) (ks ss : List Int) : Prop where
  il : its.length ≤ 20
  io : ∀ it ∈ its, ItOk n it
  kl : ks.length = n
  sl : ss.length = n
  n10 : n ≤ 10
def JobAt (g : List Addr) (H : Hp) (v : V) (its : List It) (ks ss : List Int) : Prop := ∃ p a b c xs, v = .ref p ∧ H p = some (.tup [.ref a, .ref b, .ref c]) ∧ (H a = some (.lst xs) ∧ a ∉ g ∧ Paired (ItAt g H) xs its) ∧ (H b = some (.lst (ks.map V.int)) ∧ b ∉ g) ∧ (H c = some (.lst (ss.map V.int)) ∧ c ∉ g)
def ofD (o : Of) : PyData := .tuple [.int o.1, .tuple (o.2.map fun k : Nat => PyData.int k)]
def itD (it : It) : PyData := .tuple [.int it.1, .list (it.2.map ofD)]
def jobD (its : List It) (ks ss : List Int) : PyData := .tuple [.list (its.map itD), .list (ks.map PyData.int), .list (ss.map PyData.int)]
def SetAt (H : Hp) (v : V) (cs : List Nat) : Prop := ∃ p, v = .ref p ∧ H p = some (.tup (nV cs))
structure SetOk (n : Nat) (cs : List Nat) : Prop where
  lt : ∀ k ∈ cs, k < n
  len : cs.length ≤ 10
def sp_open_offers : Sp := fun vs H Q _ => ∃ (l c : Addr) (xs : List V) (os : List Of) (cs : List Nat) (n : Nat), vs = [.ref l, .ref c] ∧ H l = some (.lst xs) ∧ Ofs H xs os ∧ OfOk n os ∧ H c = some (.tup (nV cs)) ∧
  ∀ D ys H', H D = none → Same H H' → H' D = some (.lst ys) → Ofs H' ys (os.filter (opn cs)) → Q (.ref D) H'
def sp_least_pages : Sp := fun vs H Q _ => ∃ (l c : Addr) (xs : List V) (os : List Of) (cs : List Nat) (n : Nat), vs = [.ref l, .ref c] ∧ H l = some (.lst xs) ∧ Ofs H xs os ∧ OfOk n os ∧ H c = some (.tup (nV cs)) ∧
  ∀ H', Same H H' → Q (.int (least ((os.filter (opn cs)).map (·.1)))) H'
def sp_found_by : Sp := fun vs H Q _ => ∃ (l c : Addr) (xs : List V) (its : List It) (cs : List Nat) (n : Nat), vs = [.ref l, .ref c] ∧ H l = some (.lst xs) ∧ Paired (ItAt [] H) xs its ∧ its.length ≤ 20 ∧ (∀ it ∈ its, ItOk n it) ∧ H c = some (.tup (nV cs)) ∧
  ∀ H', Same H H' → Q (.int (its.map (cost cs)).sum) H'
def sp_sum_of : Sp := fun vs H Q _ => ∃ (l c : Addr) (ks : List Int) (cs : List Nat), vs = [.ref l, .ref c] ∧ H l = some (.lst (ks.map V.int)) ∧ SetOk ks.length cs ∧ H c = some (.tup (nV cs)) ∧
  ∀ H', Same H H' → Q (.int (keepOf ks cs)) H'
def sp_total : Sp := fun vs H Q _ => ∃ (v : V) (c : Addr) (its : List It) (ks ss : List Int) (cs : List Nat) (n : Nat), vs = [v, .ref c] ∧ JobAt [] H v its ks ss ∧ JobOk n its ks ss ∧ SetOk n cs ∧ H c = some (.tup (nV cs)) ∧
  ∀ H', Same H H' → Q (.int (tot its ks cs)) H'
def sp_law_offers : Sp := fun vs H Q _ => ∃ (b : Addr) (n gr : Nat), vs = [.ref b, .int n, .int gr] ∧ Bag H b ∧ n ≤ 10 ∧ 1 ≤ gr ∧ gr ≤ 10000 ∧
  ∀ l xs os H', H l = none → Eff b H H' → H' l = some (.lst xs) → Ofs H' xs os → OfOk n os → Q (.ref l) H'

structure Eff2 (b c : Addr) (H H' : Hp) : Prop where
  x : Bag H' b
  y : Bag H' c
  f : Frm [b, c] H H'
def sp_law_task : Sp := fun vs H Q _ => ∃ (b c : Addr) (n : Nat), vs = [.ref b, .ref c, .int n] ∧ Bag H b ∧ Bag H c ∧ b ≠ c ∧ n ≤ 10 ∧
  ∀ v its ks ss H', Eff2 b c H H' → JobAt [b, c] H' v its ks ss → JobOk n its ks ss → Q v H'
def sp_law_sets : Sp := fun vs H Q _ => ∃ (b : Addr) (n : Nat), vs = [.ref b, .int n] ∧ Bag H b ∧ n ≤ 10 ∧
  ∀ L xs css H', H L = none → Eff b H H' → H' L = some (.lst xs) → Paired (SetAt H') xs css → (∀ cs ∈ css, SetOk n cs) → css.length ≤ 100 → Q (.ref L) H'
end My

set_option Elab.async false
set_option linter.all false
set_option maxRecDepth 100000

namespace My
open PySem PySem.Spec PyProof.Rows L2
def keyLe : Key → Key → Bool
  | .inl a, .inl b => decide (a ≤ b)
  | .inr x, .inr y => !(decide (y.cps.toList < x.cps.toList))
  | _, _ => false
def oV : Option Key → V
  | none => .non
  | some k => kV k
def loB (v : Key) : Option Key → Bool
  | none => true
  | some l => keyLe l v
def hiB (v : Key) : Option Key → Bool
  | none => true
  | some h => keyLe v h
def btw (v : Key) (lo hi : Option Key) : Bool := loB v lo && hiB v hi
def inS (ss : List Key) (lo hi : Option Key) (vs : List Key) : Bool := decide (vs.take ss.length = ss) && btw (vs.getD ss.length (.inl 0)) lo hi

structure AskK (ks : List Str) (ss : List Key) (lo hi : Option Key) : Prop where
  ok : ∀ k ∈ ss, keyOk k
  kd : ss.map kindOf = ks.take ss.length
  le : ss.length ≤ ks.length
  lo : ∀ k, lo = some k → ss.length < ks.length ∧ keyOk k ∧ ks[ss.length]? = some (kindOf k)
  hi : ∀ k, hi = some k → ss.length < ks.length ∧ keyOk k ∧ ks[ss.length]? = some (kindOf k)
def SameAt (K : PySem.W.Frag) (H : Hp) (v : V) (ss : List Key) : Prop := ∃ a, v = .ref a ∧ (H a = some (.tup (ss.map kV)) ∨ (ss = [] ∧ ∃ (o : Obj) (its : Array Value) (n : Nat), K.lookup a = some o ∧ o.cls = .type "tuple" ∧ o.data = .seq its n ∧ its.size ≤ sizeLine ∧ Vals [] its.toList))
def sp_is_between : Sp := fun vs H Q _ => ∃ (v : Key) (lo hi : Option Key), vs = [kV v, oV lo, oV hi] ∧ (∀ k, lo = some k → kindOf k = kindOf v) ∧ (∀ k, hi = some k → kindOf v = kindOf k) ∧ Q (.bl (btw v lo hi)) H
def sp_is_in_stretch (K : PySem.W.Frag) : Sp := fun vs H Q _ => ∃ (q : Addr) (v : V) (ks : List Str) (ws ss : List Key) (lo hi : Option Key), vs = [.ref q, v, oV lo, oV hi] ∧ H q = some (.tup (ws.map kV)) ∧ SameAt K H v ss ∧ AskK ks ss lo hi ∧ (∀ k ∈ ws, keyOk k) ∧ ws.map kindOf = ks ∧ ks.length ≤ 4 ∧
  ∀ H', Same H H' → Q (.bl (inS ss lo hi ws)) H'

def partsOf (ss : List Key) (lo hi : Option Key) (ls : List (List Th)) : List (List Th) := full (ls.map fun p => p.filter fun t => inS ss lo hi t.1)

def sel {α : Type} (q : α → Bool) (as : List Addr) (ds : List α) : List Addr := ((as.zip ds).filter fun x => q x.2).map (·.1)
def sp_Run_parts (K : PySem.W.Frag) (C : Addr) : Sp := fun vs H Q _ => ∃ (x : Addr) (v : V) (ks : List Str) (ss : List Key) (lo hi : Option Key) (m fa : Nat) (ls : List (List Th)) (f : List Addr), vs = [.ref x, v, oV lo, oV hi] ∧ RunAt C H x m fa ls f ∧ LsK ks ls ∧ SameAt K H v ss ∧ AskK ks ss lo hi ∧
  ∀ b f' H', Same H H' → Ch H' b (partsOf ss lo hi ls) f' → (∀ y ∈ f', H y = none) → Q (.ref b) H'
end My
namespace L2
open PySem PySem.W PyProof.Rows PySem.Spec My
section
variable {X : Cx}
def rLeKey : R2 := fun x y H Q => ∃ a b : Key, x = kV a ∧ y = kV b ∧ My.kindOf a = My.kindOf b ∧ Q (.bl (keyLe a b)) H
end
end L2

set_option Elab.async false
set_option linter.all false
set_option maxRecDepth 100000

namespace My
open PySem PySem.Spec PyProof.Rows L2
structure St9 (C : Addr) (H H1 : Hp) (x S L b : Addr) (m : Nat) (ks : List Str) (ls : List (List Th)) (ts : List Th) (f : List Addr) : Prop where
  same : Same H H1
  kd : H1 L = some (.lst (ks.map V.str))
  X : RunAt C H1 x m 3 ls f
  s : ∃ xs, H1 S = some (.lst xs) ∧ Ths H1 xs ts
  g : Bag H1 b
  lv : Lv m ks ls
  pm : ls.flatten.Perm ts
  Lf : L ∉ f
  Sf : S ∉ f
  bf : b ∉ f
  LS : L ≠ S
  bS : b ≠ S
  bL : b ≠ L
  n1 : ∀ y ∈ f, H y = none
  nS : H S = none
  nb : H b = none
section
variable {C : Addr} {H H1 H2 : Hp} {x S L b : Addr} {m : Nat} {ks : List Str} {ls : List (List Th)} {ts : List Th} {f : List Addr}
end
end My

set_option Elab.async false
set_option linter.all false
set_option maxRecDepth 100000

namespace L2
open PySem PySem.W PyProof.Rows PySem.Spec My
section
variable {X : Cx}
def tRevL (te ts : TE) : TE := fun σ H Q => te σ H fun x H1 => ts σ H1 fun y H2 => y = .int (-1) ∧ ∃ a xs, x = .ref a ∧ H2 a = some (.lst xs) ∧ ∀ p, H2 p = none → Q (.ref p) (upd H2 p (.lst xs.reverse))
end
end L2
namespace My
open PySem PySem.Spec PyProof.Rows L2
structure Rn (C : Addr) (Hs H1 : Hp) (x E : Addr) (m fa : Nat) (f0 : List Addr) (ls : List (List Th)) (es : List Th) (f : List Addr) : Prop where
  F : Frm (E :: f0) Hs H1
  N : Nw Hs f0 f
  X : RunAt C H1 x m fa ls f
  e : ∃ ev, H1 E = some (.lst ev) ∧ Ths H1 ev es
  Ef : E ∉ f
section
variable {C : Addr} {Hs H1 H2 : Hp} {x E : Addr} {m fa : Nat} {f0 : List Addr} {ls : List (List Th)} {es : List Th} {f : List Addr}
end
end My

set_option Elab.async false
set_option linter.all false
set_option maxRecDepth 100000

namespace My
open PySem PySem.W PyProof.Rows PySem.Spec
section
variable {prog : Program} {w : World} {A : Around} {E : Value → Shared → Prop} {s : Shared}
end
end My
namespace L2
open PySem PySem.W PyProof.Rows PySem.Spec My
section
variable {X : Cx} {x : Str} {p pos : Pos} {e : Expr} {es : List Expr} {kws : List Keyword} {t tk : TA} {id : String} {ks : List Str}

structure CallRK (X : Cx) (f : Value) (ks : List Str) (r : List V → List V → Hp → VK → Prop) : Prop where
  run :
    ∀ (pins : List (Addr × Obj)) (s : Shared) (σ : St) (H : Hp) (xs zs : List V) (us ws : List Value) (Q : VK), Inv X pins σ H s → Vals xs us → Vals zs ws → r xs zs H Q →
      wpAny (model X.prog X.w) X.A (call f us (ks.zip ws)) (EP X pins σ Q) X.xe s
def tCBK (r : List V → List V → Hp → VK → Prop) (t tk : TA) : TE := fun σ H Q => t σ H fun vs H1 => tk σ H1 fun zs H2 => r vs zs H2 Q
def rSortDn (K : PySem.W.Frag) : List V → List V → Hp → VK → Prop := fun vs zs H Q => ∃ (a : Addr) (xs : List V) (ts : List Th) (ks : List Str), vs = [.ref a] ∧ zs = [.bl true] ∧ (SqL K H a xs ∨ SqT K H a xs) ∧ Ths H xs ts ∧ (∀ t ∈ ts, ThK ks t) ∧ ts.length < 64 ∧ ∀ p ys, H p = none → Ths H ys (srtTh ts.reverse).reverse → Q (.ref p) (upd H p (.lst ys))
end
end L2

set_option Elab.async false
set_option linter.all false
set_option maxRecDepth 100000

namespace My
open PySem PySem.Spec PyProof.Rows L2
def FullPg (m : Nat) (ps : Pgs) : Prop := ∀ p ∈ ps, 1 ≤ p.length ∧ p.length ≤ m
structure Wh (n m c : Nat) (ts : List Th) (bs : List Pgs) : Prop where
  bn : Bins n c ts bs
  pg : ∀ ps ∈ bs, FullPg m ps
  at_ : ∀ (i : Nat) (ps : Pgs), bs[i]? = some ps → ∀ t ∈ ps.flatten, binAt t.1 c = i
  pm : (bs.map List.flatten).flatten.Perm ts
end My
namespace L2
open PySem PySem.Spec PyProof.Rows My
section
variable {X : Cx}

def rSumLN : List V → Hp → VK → Prop := fun vs H Q => ∃ (a z : Addr) (bs : List Addr) (xss : List (List V)), vs = [.ref a, .ref z] ∧ H a = some (.lst (bs.map V.ref)) ∧ H z = some (.lst []) ∧ Paired (fun b xs => H b = some (.lst xs)) bs xss ∧ (xss.map (·.length)).sum ≤ sizeLine ∧
  ∀ p H', Same H H' → H' p = some (.lst xss.flatten) → (p = z ∨ H p = none) → Q (.ref p) H'
end
end L2
namespace My
open PySem PySem.Spec PyProof.Rows L2
end My
namespace L2
open PySem PySem.Spec PyProof.Rows My
end L2
namespace My
open PySem PySem.Spec PyProof.Rows L2
def KeptOk (H : Hp) (v : V) (w : List Pgs × List Addr) : Prop := ∃ p b, v = .ref p ∧ H p = some (.tup [.ref b, .str (strD (bkD w.1))]) ∧ Bk H b w.1 w.2 ∧ Fine 10000000 6 (bkD w.1)
structure St11 (C : Addr) (H H1 : Hp) (x hl kp L : Addr) (m : Nat) (ks : List Str) (n c : Nat) (ts : List Th) (bs : List Pgs) (f1 : List Addr) (ws : List (List Pgs × List Addr)) : Prop where
  same : Same H H1
  kd : H1 L = some (.lst (ks.map V.str))
  X : BkAt C H1 x m bs f1
  h : ∃ xs, H1 hl = some (.lst xs) ∧ Ths H1 xs ts
  w : ∃ vs, H1 kp = some (.lst vs) ∧ Paired (KeptOk H1) vs ws
  wh : Wh n m c ts bs
  tk : ∀ t ∈ ts, ThK ks t
  hf : hl ∉ f1
  kf : kp ∉ f1
  Lf : L ∉ f1
  hk : hl ≠ kp
  Lh : L ≠ hl
  Lk : L ≠ kp
  dw : ∀ w ∈ ws, Dis w.2 (hl :: kp :: f1)
  n1 : ∀ y ∈ f1, H y = none
  nh : H hl = none
  nk : H kp = none
section
variable {C : Addr} {H H1 H2 H3 H5 : Hp} {x hl kp L : Addr} {m n n' c : Nat} {ks : List Str} {ts ts' : List Th} {bs bs' bs0 : List Pgs} {f1 f1' fb : List Addr} {ws : List (List Pgs × List Addr)} {vs xs' : List V} {p : Addr}
end

structure Oth (C : Addr) (H0 H : Hp) (x : Addr) (m n c : Nat) (ts : List Th) (bs : List Pgs) (f : List Addr) : Prop where
  same : Same H0 H
  X : BkAt C H x m bs f
  wh : Wh n m c ts bs
  nw : ∀ y ∈ f, H0 y = none
end My
namespace My
open PySem PySem.Spec PyProof.Rows L2
end My

set_option Elab.async false
set_option linter.all false
set_option maxRecDepth 100000

namespace My
open PySem PySem.W PyProof.Rows PySem.Spec L2
def srtK (ks : List Key) : List Key := (ordOf (fun i j => keyLt (ks.getD i (.inl 0)) (ks.getD j (.inl 0))) ks.length).map fun i => ks.getD i (.inl 0)
def RisK (ks : List Key) : Prop := ks.Pairwise fun a b => keyLt a b = true
theorem srtK_perm (ks : List Key) : (srtK ks).Perm ks := by
  unfold srtK
  refine ((ordOf_perm _ ks.length).map _).trans (List.Perm.of_eq ?_)
  refine List.ext_getElem (by simp) fun i h1 h2 => ?_
  simp only [List.getElem_map, List.getElem_range, List.getD_eq_getElem?_getD, List.getElem?_eq_getElem h2, Option.getD_some]
theorem srtK_ris {kd : Str} {ks : List Key} (hk : ∀ k ∈ ks, kindOf k = kd) (hn : ks.Nodup) : RisK (srtK ks) := by
  have at_ : ∀ i, i < ks.length → ∃ h : i < ks.length, ks.getD i (.inl 0) = ks[i] := fun i h => ⟨h, by rw [List.getD_eq_getElem?_getD, List.getElem?_eq_getElem h]; rfl⟩
  have T : TotB ks.length (fun i j => keyLt (ks.getD i (.inl 0)) (ks.getD j (.inl 0))) := by
    refine ⟨fun i j hi hj h => keyLt_asym h, fun i j hi hj hij h => ?_, fun i j k hi hj hk h1 h2 => keyLt_trans h1 h2⟩
    obtain ⟨hi', e1⟩ := at_ i hi
    obtain ⟨hj', e2⟩ := at_ j hj
    refine keyLt_tot ?_ ?_ h
    · rw [e1, e2]; exact (hk _ (List.getElem_mem hi')).trans (hk _ (List.getElem_mem hj')).symm
    · rw [e1, e2]
      have pw := List.pairwise_iff_getElem.mp hn
      intro z
      rcases Nat.lt_or_gt_of_ne hij with c | c
      · exact pw i j _ _ c z
      · exact pw j i _ _ c z.symm
  unfold srtK RisK
  rw [List.pairwise_map]
  exact ordOf_rise T
theorem risK_uniq : ∀ {a b : List Key}, a.Perm b → RisK a → RisK b → a = b
  | [], b, h, _, _ => (List.nil_perm.mp h).symm ▸ rfl
  | x :: a, [], h, _, _ => absurd h.symm (by simp)
  | x :: a, y :: b, h, h1, h2 => by
    have hx : x = y := by
      have m1 : x ∈ y :: b := h.mem_iff.mp List.mem_cons_self
      have m2 : y ∈ x :: a := h.mem_iff.mpr List.mem_cons_self
      rcases List.mem_cons.mp m1 with e | m1
      · exact e
      · rcases List.mem_cons.mp m2 with e | m2
        · exact e.symm
        · have c1 := (List.pairwise_cons.mp h1).1 y m2
          have c2 := (List.pairwise_cons.mp h2).1 x m1
          rw [keyLt_asym c1] at c2; cases c2
    subst hx
    rw [risK_uniq ((List.perm_cons x).mp h) (List.pairwise_cons.mp h1).2 (List.pairwise_cons.mp h2).2]
theorem keys_kind {kd : Str} : ∀ {ks : List Key}, (∀ k ∈ ks, kindOf k = kd) → (∃ ns : List Int, ks = ns.map Sum.inl) ∨ (∃ xs : List Str, ks = xs.map Sum.inr)
  | [], _ => .inl ⟨[], rfl⟩
  | .inl i :: r, h => by
    have e := h _ List.mem_cons_self
    rcases keys_kind fun k hk => h k (List.mem_cons_of_mem _ hk) with ⟨ns, rfl⟩ | ⟨xs, rfl⟩
    · exact .inl ⟨i :: ns, rfl⟩
    · cases xs with
      | nil => exact .inl ⟨[i], rfl⟩
      | cons x xs =>
        have e2 := h (.inr x) (by simp)
        exact absurd (show ("number" : Str) = "word" from e.trans e2.symm) (by decide +kernel)
  | .inr y :: r, h => by
    have e := h _ List.mem_cons_self
    rcases keys_kind fun k hk => h k (List.mem_cons_of_mem _ hk) with ⟨ns, rfl⟩ | ⟨xs, rfl⟩
    · cases ns with
      | nil => exact .inr ⟨[y], rfl⟩
      | cons n ns =>
        have e2 := h (.inl n) (by simp)
        exact absurd (show ("word" : Str) = "number" from e.trans e2.symm) (by decide +kernel)
    · exact .inr ⟨y :: xs, rfl⟩
section
variable {prog : Program} {w : World} {A : Around} {E : Value → Shared → Prop} {s : Shared}
theorem keys_kk {kd : Str} {ks : List Key} {vs : List Value} (hk : ∀ k ∈ ks, kindOf k = kd) (hv : Vals (ks.map kV) vs) (h2 : 2 ≤ vs.length) : keyKind' vs.toArray = pure oneType' := by
  match vs, h2 with
  | v1 :: v2 :: r, _ =>
    rcases keys_kind hk with ⟨ns, rfl⟩ | ⟨xs, rfl⟩
    · have e : (ns.map Sum.inl).map kV = ns.map V.int := by rw [List.map_map]; rfl
      rw [e] at hv
      exact keyKind_ints hv.ints
    · have e : (xs.map Sum.inr).map kV = xs.map V.str := by rw [List.map_map]; rfl
      rw [e] at hv
      exact keyKind_strs hv.strs
theorem keys_ask {x y : Key} {v u : Value} {C : Bool → Shared → Prop} (hk : kindOf x = kindOf y) (h1 : RelV (kV x) v) (h2 : RelV (kV y) u) (h : C (keyLt x y) s) : wpAny (model prog w) A (keyLt' oneType' v u) C E s := by
  rw [keyLt'_oneType]
  cases x with
  | inl a =>
    obtain ⟨t, rfl⟩ := h1
    cases y with
    | inl b => obtain ⟨t', rfl⟩ := h2; exact oneLt_int h
    | inr b => exact absurd (show ("number" : Str) = "word" from hk) (by decide +kernel)
  | inr a =>
    obtain ⟨t, rfl⟩ := h1
    cases y with
    | inl b => exact absurd (show ("word" : Str) = "number" from hk) (by decide +kernel)
    | inr b => obtain ⟨t', rfl⟩ := h2; exact oneLt_str h
theorem keys_pick {ks : List Key} {vs : List Value} (hv : Vals (ks.map kV) vs) : ∀ (os : List Nat), (∀ i ∈ os, i < ks.length) → Vals ((os.map fun i => ks.getD i (.inl 0)).map kV) (os.map fun i => vs.getD i Value.none)
  | [], _ => .nil
  | o :: os, h => by
    have hi := h o List.mem_cons_self
    obtain ⟨x, e1, e2⟩ := vals_getD hv (i := o) (by rw [List.length_map]; exact hi)
    rw [List.getElem?_map, List.getElem?_eq_getElem hi] at e1
    cases e1
    have ek : ks.getD o (.inl 0) = ks[o] := by rw [List.getD_eq_getElem?_getD, List.getElem?_eq_getElem hi]; rfl
    refine .cons ?_ (keys_pick hv os fun i hi => h i (List.mem_cons_of_mem _ hi))
    show RelV (kV (ks.getD o (.inl 0))) _
    rw [ek]; exact e2
theorem sortedKeys {v : Value} {kd : Str} {ks : List Key} {Q : Value → Shared → Prop} (h64 : ks.length < 64) (hk : ∀ k ∈ ks, kindOf k = kd)
    (hcol : ∀ (R : List Value → Shared → Prop), (∀ (h' : Heap) (tk : Nat) (vs : List Value), (∀ b o, s.heap.get? b = some o → h'.get? b = some o) → Vals (ks.map kV) vs → R vs { s with heap := h', toks := tk }) → wpAny (model prog w) A.in1 (collect v) R E s)
    (h : ∀ (h' : Heap) (tk : Nat) (h2 : Heap) (D : Addr) (e : Nat) (us : List Value), (∀ b o, s.heap.get? b = some o → h'.get? b = some o) → (∀ b o, h'.get? b = some o → h2.get? b = some o) → h'.objs.size ≤ D → h2.get? D = some (seqObj "list" us.toArray e) → Vals ((srtK ks).map kV) us → Q (.ref D) { s with heap := h2, toks := tk }) :
    wpAny (model prog w) A (call (.builtin "sorted") [v]) Q E s := by
  have hz := sizeLine_eq
  refine Calls.call_function_entry kind_sorted plain_sorted entry_sorted (args_sorted1 _) ?_
  unfold Builtin.«sorted»
  refine wpAny_bind (m := checkCount "sorted" 1 1 _) (wpAny_pure (wpAny_bind (hcol _ fun h' tk vs hkp hv => ?_)))
  have hl := hv.length
  rw [List.length_map] at hl
  refine wpAny_bind (wpAny_newList ?_ (by omega))
  have g1 : (h'.push (seqObj "list" vs.toArray 0)).get? h'.objs.size = some (seqObj "list" vs.toArray 0) := Heap.get?_push_size _ rfl
  show wpAny _ _ _ _ _ { s with heap := h'.push (seqObj "list" vs.toArray 0), toks := tk }
  refine wpAny_bind (wpAny_holding (wpAny_call_entry slot_list_sort ⟨_, g1, rfl⟩ entry_list_sort (sort64 (kd := oneType') (lt := fun i j => keyLt (ks.getD i (.inl 0)) (ks.getD j (.inl 0))) g1 (by omega) ?kk ?aa ⟨_, rfl, ?rr⟩) (args_list_sort _)))
  case kk =>
    intro h2 Q' hq
    rw [keys_kk hk hv h2]
    exact wpAny_pure hq
  case aa =>
    intro i j C hi hj hc
    have pk : ∀ i, i < vs.length → ∃ hi' : i < ks.length, ks.getD i (.inl 0) = ks[i] ∧ RelV (kV (ks.getD i (.inl 0))) (vs.getD i Value.none) := fun i hi => by
      have hi' : i < ks.length := by omega
      obtain ⟨x, e1, e2⟩ := vals_getD hv (i := i) (by rw [List.length_map]; exact hi')
      rw [List.getElem?_map, List.getElem?_eq_getElem hi'] at e1
      cases e1
      have ek : ks.getD i (.inl 0) = ks[i] := by rw [List.getD_eq_getElem?_getD, List.getElem?_eq_getElem hi']; rfl
      exact ⟨hi', ek, by rw [ek]; exact e2⟩
    obtain ⟨hi', e1, r1⟩ := pk i hi
    obtain ⟨hj', e2, r2⟩ := pk j hj
    refine keys_ask (x := ks.getD i (.inl 0)) (y := ks.getD j (.inl 0)) ?_ r1 r2 hc
    rw [e1, e2]
    exact (hk _ (List.getElem_mem hi')).trans (hk _ (List.getElem_mem hj')).symm
  case rr =>
    obtain ⟨e, he⟩ := sortedHeap_at (vs := vs) (out := ((ordOf (fun i j => keyLt (ks.getD i (.inl 0)) (ks.getD j (.inl 0))) vs.length).map fun i => vs.getD i Value.none).toArray) g1
    refine wpAny_pure ⟨_, rfl, h h' tk _ h'.objs.size e _ hkp (fun b o q => ?_) (Nat.le_refl _) he ?_⟩
    · have hb := Heap.lt_size q
      rw [sortedHeap_old (Nat.ne_of_lt hb) (by rw [size_push']; exact Nat.lt_succ_of_lt hb)]
      exact Heap.get?_push_of_some _ q
    · unfold srtK
      rw [hl]
      exact keys_pick hv _ fun i hi => by
        have := List.mem_range.mp ((ordOf_perm _ _).mem_iff.mp hi)
        omega
end
end My
namespace L2
open PySem PySem.W PyProof.Rows PySem.Spec My
section
variable {X : Cx}

def rSortDK : List V → Hp → VK → Prop := fun vs H Q => ∃ (a : Addr) (kvs : List (Key × V)) (kd : Str), vs = [.ref a] ∧ H a = some (.dK kvs) ∧ (∀ k ∈ kvs.map (·.1), My.kindOf k = kd) ∧ kvs.length < 64 ∧ ∀ p, H p = none → Q (.ref p) (upd H p (.lst ((srtK (kvs.map (·.1))).map kV)))
theorem kv_keys {kvs : List (Key × V)} {vs : List (Key × Value)} (h : KV kvs vs) : kvs.map (·.1) = vs.map (·.1) := by
  induction h with
  | nil => rfl
  | cons e _ ih => simp [ih, e.1]
theorem vals_keys : ∀ {ks : List Key} {us : List Value}, us.length = ks.length → (∀ (j : Nat) (v : Value), us[j]? = some v → ∃ k, ks[j]? = some k ∧ keyIs k v = true) → Vals (ks.map kV) us
  | [], [], _, _ => .nil
  | k :: ks, u :: us, hl, h => by
    refine .cons ?_ (vals_keys (by simpa using hl) fun j v e => by simpa using h (j + 1) v (by simpa using e))
    obtain ⟨k', e, r⟩ := h 0 u rfl
    cases e
    rcases keyIs_shape r with ⟨i, t, rfl, rfl⟩ | ⟨x, t, rfl, rfl⟩
    · exact ⟨t, rfl⟩
    · exact ⟨t, rfl⟩
theorem cr_sortedDK (hc : X.calm = true) : CallR X (.builtin "sorted") rSortDK := by
  constructor
  intro pins s σ H vs us Q I r h
  obtain ⟨a, kvs, kd, rfl, ha, hk, h64, q⟩ := h
  obtain ⟨u, rfl, ru⟩ := vals1 r
  cases (ru : _ = _)
  obtain ⟨hz, hS, xs, hkv, hD⟩ := dk_of I.hok ha
  obtain ⟨ep, hA⟩ := hD.dictAt
  have ek := kv_keys hkv
  have hl : xs.length = kvs.length := by have := congrArg List.length ek; simpa using this.symm
  refine sortedKeys (ks := kvs.map (·.1)) (kd := kd) (by rw [List.length_map]; exact h64) hk (fun R hR => kdu_collect (A := X.A.in1) (kdl_dict (ep := ep) hS) (I.ok.hd hc) hA (by have := sizeLine_eq; omega) fun h' tk acc hkp hacc => hR h' tk acc.toList hkp ?_) fun h' tk h2 D e us' hk1 hk2 hD' he hv => ?_
  · refine vals_keys (by rw [Array.length_toList, hacc.1, List.length_map, hl]) fun j v e => ?_
    obtain ⟨k, x, e1, e2⟩ := hacc.2 j v (by simpa using e)
    refine ⟨k, ?_, e2⟩
    rw [ek, List.getElem?_map, e1]; rfl
  · have hlen : ((srtK (kvs.map (·.1))).map kV).length ≤ sizeLine := by
      rw [List.length_map, (srtK_perm _).length_eq, List.length_map]; have := sizeLine_eq; omega
    have I1 := I.kept (t' := tk) hk1
    exact ⟨.ref D, upd H D (.lst _), I1.laid (t' := tk) hk2 hD' ⟨hlen, _, e, hv, he⟩, rfl, q D (I1.hok.fresh hD')⟩

def rSortLK (K : PySem.W.Frag) : List V → Hp → VK → Prop := fun vs H Q => ∃ (a : Addr) (ks : List Key) (kd : Str), vs = [.ref a] ∧ SqL K H a (ks.map kV) ∧ (∀ k ∈ ks, My.kindOf k = kd) ∧ ks.length < 64 ∧ ∀ p, H p = none → Q (.ref p) (upd H p (.lst ((srtK ks).map kV)))
end
end L2

set_option Elab.async false
set_option linter.all false
set_option maxRecDepth 100000

namespace My
open PySem PySem.Spec PyProof.Rows L2
abbrev Bs := List (Key × List Int)
def bsAt (bs : Bs) (k : Key) : Option (List Int) := (bs.find? fun kv => decide (kv.1 = k)).map (·.2)
def putB (bs : Bs) (k : Key) (ns : List Int) : Bs := if (bs.any fun kv => decide (kv.1 = k)) = true then bs.map (fun kv => if kv.1 = k then (kv.1, ns) else kv) else bs ++ [(k, ns)]
def dropB (bs : Bs) (k : Key) : Bs := bs.filter fun kv => decide (kv.1 ≠ k)
inductive BV (H : Hp) : List (Key × V) → Bs → List Addr → Prop
  | nil : BV H [] [] []
  | cons {k : Key} {a : Addr} {ns : List Int} {kvs : List (Key × V)} {bs : Bs} {f : List Addr} : H a = some (.lst (ns.map V.int)) → a ∉ f → BV H kvs bs f → BV H ((k, .ref a) :: kvs) ((k, ns) :: bs) (a :: f)
section
variable {H H' : Hp} {kvs : List (Key × V)} {bs : Bs} {f g : List Addr} {k : Key} {ns : List Int} {p : Addr}
end
def toI : Key → Int
  | .inl i => i
  | .inr _ => 0
def srtI (ns : List Int) : List Int := (srtK (ns.map Sum.inl)).map toI
def BitsAt (C : Addr) (H : Hp) (x : Addr) (w : Int) (bs : Bs) (f : List Addr) : Prop := ∃ dx d kvs g, H x = some (.ins C dx [("width", .int w), ("by_value", .ref d)]) ∧ H d = some (.dK kvs) ∧ BV H kvs bs g ∧ (bs.map (·.1)).Nodup ∧ x ≠ d ∧ x ∉ g ∧ d ∉ g ∧ f = x :: d :: g
end My
namespace L2
open PySem PySem.Spec PyProof.Rows
theorem u1 {n : Nat} (h : n + 64 < cLine) : n + 1 < cLine := by omega

end L2

set_option Elab.async false
set_option linter.all false
set_option maxRecDepth 100000

namespace My
open PySem PySem.Spec PyProof.Rows L2
abbrev Res := Hp → List Addr → Prop
structure ResOk (R : Res) : Prop where
  frm : ∀ {H H' : Hp} {f g : List Addr}, R H f → Frm g H H' → Dis f g → R H' f
  liv : ∀ {H : Hp} {f : List Addr}, R H f → Liv H f
def emp : Res := fun _ f => f = []
def one (a : Addr) (o : HO) : Res := fun H f => H a = some o ∧ f = [a]
section
variable {ι : Type} [DecidableEq ι]
structure Sts (R : ι → Res) (F : ι → List Addr) (H : Hp) : Prop where
  ok : ∀ i, ResOk (R i)
  at_ : ∀ i, R i H (F i)
  dis : ∀ i j, i ≠ j → Dis (F i) (F j)
def put {α : Type} (f : ι → α) (i : ι) (x : α) : ι → α := fun j => if j = i then x else f j
variable {R : ι → Res} {F : ι → List Addr} {H H' : Hp}
end

mutual
inductive DtF (H : Hp) : V → PyData → List Addr → Prop
  | non : DtF H .non .none []
  | bl (b : Bool) : DtF H (.bl b) (.bool b) []
  | int (i : Int) : DtF H (.int i) (.int i) []
  | str (x : Str) : DtF H (.str x) (.str x) []
  | tup {a : Addr} {xs : List V} {ds : List PyData} {f : List Addr} : H a = some (.tup xs) → DtFs H xs ds f → DtF H (.ref a) (.tuple ds) f
  | lst {a : Addr} {xs : List V} {ds : List PyData} {f : List Addr} : H a = some (.lst xs) → DtFs H xs ds f → DtF H (.ref a) (.list ds) (a :: f)
inductive DtFs (H : Hp) : List V → List PyData → List Addr → Prop
  | nil : DtFs H [] [] []
  | cons {v : V} {d : PyData} {f : List Addr} {vs : List V} {ds : List PyData} {g : List Addr} : DtF H v d f → DtFs H vs ds g → DtFs H (v :: vs) (d :: ds) (f ++ g)
end
mutual
theorem DtF.frm {g : List Addr} {H H' : Hp} (F : Frm g H H') : ∀ {d : PyData} {v : V} {f : List Addr}, DtF H v d f → Dis f g → DtF H' v d f
  | _, _, _, .non, _ => .non
  | _, _, _, .bl b, _ => .bl b
  | _, _, _, .int i, _ => .int i
  | _, _, _, .str x, _ => .str x
  | _, _, _, .tup e r, k => .tup (F.tups _ _ e) (DtFs.frm F r k)
  | _, _, _, .lst e r, k => .lst (F.keep _ _ (fun z => k _ List.mem_cons_self z) e) (DtFs.frm F r fun y a b => k y (List.mem_cons_of_mem _ a) b)
theorem DtFs.frm {g : List Addr} {H H' : Hp} (F : Frm g H H') : ∀ {ds : List PyData} {vs : List V} {f : List Addr}, DtFs H vs ds f → Dis f g → DtFs H' vs ds f
  | _, _, _, .nil, _ => .nil
  | _, _, _, .cons h r, k => .cons (DtF.frm F h fun y a b => k y (List.mem_append_left _ a) b) (DtFs.frm F r fun y a b => k y (List.mem_append_right _ a) b)
end
mutual
theorem DtF.liv {H : Hp} : ∀ {d : PyData} {v : V} {f : List Addr}, DtF H v d f → Liv H f
  | _, _, _, .non => fun x hx => nomatch hx
  | _, _, _, .bl b => fun x hx => nomatch hx
  | _, _, _, .int i => fun x hx => nomatch hx
  | _, _, _, .str x => fun x hx => nomatch hx
  | _, _, _, .tup e r => DtFs.liv r
  | _, _, _, .lst e r => fun x hx => by
    rcases List.mem_cons.mp hx with rfl | hx
    · exact ⟨_, e⟩
    · exact DtFs.liv r x hx
theorem DtFs.liv {H : Hp} : ∀ {ds : List PyData} {vs : List V} {f : List Addr}, DtFs H vs ds f → Liv H f
  | _, _, _, .nil => fun x hx => nomatch hx
  | _, _, _, .cons h r => fun x hx => by
    rcases List.mem_append.mp hx with q | q
    · exact DtF.liv h x q
    · exact DtFs.liv r x q
end
mutual
theorem DtF.dt {H : Hp} : ∀ {d : PyData} {v : V} {f : List Addr}, DtF H v d f → Dt H v d
  | _, _, _, .non => .non
  | _, _, _, .bl b => .bl b
  | _, _, _, .int i => .int i
  | _, _, _, .str x => .str x
  | _, _, _, .tup e r => .tup e (DtFs.dt r)
  | _, _, _, .lst e r => .lst e (DtFs.dt r)
theorem DtFs.dt {H : Hp} : ∀ {ds : List PyData} {vs : List V} {f : List Addr}, DtFs H vs ds f → DtAll H vs ds
  | _, _, _, .nil => .nil
  | _, _, _, .cons h r => .cons (DtF.dt h) (DtFs.dt r)
end
theorem in_ints (i : Int) (ns : List Int) : inV (.int i) (ns.map V.int) = decide (i ∈ ns) := by
  induction ns with
  | nil => rfl
  | cons c r ih =>
    rw [List.map_cons, inV, List.any_cons]
    rw [inV] at ih
    rw [ih]
    have e : eqV (V.int c) (V.int i) = decide (c = i) := rfl
    rw [e]
    by_cases z : c = i
    · simp [z]
    · have z' : ¬ i = c := fun y => z y.symm
      simp [z, z']
theorem erase_idx (n : Int) : ∀ ns : List Int, ns.erase n = ns.eraseIdx (ns.idxOf n)
  | [] => rfl
  | c :: r => by
    rw [List.erase_cons, List.idxOf_cons]
    by_cases h : c = n
    · simp [h]
    · have : (c == n) = false := by simpa using h
      simp [this, erase_idx n r]
theorem dt_ints' (H : Hp) : ∀ ks : List Int, DtAll H (ks.map V.int) (ks.map PyData.int)
  | [] => .nil
  | k :: r => .cons (.int _) (dt_ints' H r)
theorem map_eraseI {α β : Type} (f : α → β) : ∀ (l : List α) (i : Nat), (l.map f).eraseIdx i = (l.eraseIdx i).map f
  | [], _ => rfl
  | a :: r, 0 => rfl
  | a :: r, i + 1 => by simp [map_eraseI f r i]

def allD (ls : List (List Th)) (bs : List Pgs) (bt : Bs) (t : Th) (kk : Key) : PyData :=
  .list [chD ls, chD (partsOf [kk] none none ls), bkD bs, pgD (foundIn t.1 (bs.getD (binAt t.1 bs.length) [])), .list ((srtK (bt.map (·.1))).map dK), .list (((bsAt bt kk).getD []).map PyData.int), .list [.int ((lvs 2 ls.length).1 : Nat), .int ((ls.length + (lvs 2 ls.length).2 : Nat) : Int)]]
end My
namespace L2
open PySem PySem.W PyProof.Rows PySem.Spec
section
variable {X : Cx}

def gLst (K : PySem.W.Frag) (n : Nat) (t : TGs) : TG := fun v σ H Q => ∃ a xs, v = .ref a ∧ SqL K H a xs ∧ xs.length = n ∧ t xs σ H Q
end
end L2

set_option Elab.async false
set_option linter.all false
set_option maxRecDepth 100000

namespace L2
open PySem PySem.Spec PyProof.Rows

structure Prp (K : PySem.W.Frag) (C : Addr) (m : Str) (p f : Addr) : Prop where
  at_ : PySem.W.findIn K (.ref C) m = some (some (.ref p))
  gt : PySem.W.specialIn K (.ref p) "__get__" = some (some (.builtin "property.__get__"))
  tk : PySem.W.takesIn K (.ref p) = some true
  rc : ∃ rest, PySem.W.recIn K p "property" = some (.ref f :: rest)

def tProp (C : Addr) (sp : Sp) (ta : TE) : TE := fun σ H Q => ta σ H fun x H1 => ∃ a dx fs, x = .ref a ∧ H1 a = some (.ins C dx fs) ∧ sp [x] H1 Q E0
section
variable {X : Cx} {k : Nat} {f C p : Addr} {fd : FuncData} {ps : List Str} {sp : Sp} {m : Str} {pos : Pos} {e : Expr} {ta : TE}
theorem prop_ok {pins : List (Addr × Obj)} {σ : St} {H : Hp} {s : Shared} {a dx : Addr} {fs : List (Str × V)} {b : Bool} {Q : VK} (I : Inv X pins σ H s) (ea : H a = some (.ins C dx fs)) (c : Cls X.K C) (pr : Prp X.K C m p f)
    (F : FnOk X.prog X.w X.K X.mg X.base CX0 k f fd ps sp) (hr : Room (k + 1) X.A) (hb : Binds X.K fd ps []) (h : sp [.ref a] H Q E0) : wpAny (model X.prog X.w) X.A (getAttr (.ref a) m b) (EP X pins σ Q) X.xe s := by
  obtain ⟨mA, O, r, _, _, _⟩ := ins_get I.hok ea
  obtain ⟨od, J, hl⟩ := O.look
  obtain ⟨rest, hrc⟩ := pr.rc
  have I1 := I.tok (s.toks + 1)
  have hl1 : [Value.ref a].length = ps.length := F.len _ _ _ _ h
  refine PySem.W.get_bind I.kIn J (PySem.W.plainGet_of (c.get m)).1 (PySem.W.findObj_data (by obtain ⟨cd, hc, _⟩ := PySem.W.any_some c.hd; rw [hc]; rfl) pr.at_ pr.gt pr.tk) (PySem.W.plainGet_of (c.get m)).2
    (wpAny_call (PySem.W.prop_get (s := { s with toks := s.toks + 1 }) I.kIn hrc ?_))
  refine codeAny_mono (F.run X.A.in1 X.stack _ H ⟨[.ref a], []⟩ [.ref a] [.ref a] Q E0 hr.in1 I1.env0.in1 (hb _ [.ref a] I1.kIn hl1) (.cons rfl .nil) h) fun r s' hq => ?_
  cases r with
  | error x => exact False.elim hq
  | ok fl =>
    cases fl with
    | ret u =>
      have := I1.after hq
      obtain ⟨v, H', I3, rv, q3⟩ := this
      exact PySem.W.handed_on (handed_of rv) ⟨v, H', I3, rv, q3⟩
    | next => exact False.elim hq
    | brk => exact False.elim hq
    | cont => exact False.elim hq
theorem pe_prop (he : PE X e ta) (c : Cls X.K C) (pr : Prp X.K C m p f) (F : FnOk X.prog X.w X.K X.mg X.base CX0 k f fd ps sp) (hr : Room (k + 1) X.A) (hb : Binds X.K fd ps []) (hb' : attributeBase e m X.env (eval e X.env) = eval e X.env := by rfl) : PE X (.Attribute e m pos) (tProp C sp ta) := by
  constructor
  intro pins s σ H Q I h
  refine attr_of hb' (thn (he pins s σ H _ I h) fun u s1 ⟨x, H1, I1, rx, a, dx, fs, ex, ea, q⟩ => ?_)
  subst ex
  obtain rfl : u = Value.ref a := rx
  exact prop_ok I1 ea c pr F hr hb q
end

structure PDef (K : PySem.W.Frag) (C : Addr) (m qual : Str) (st : Stmt) (fa : Addr) (fd : FuncData) : Prop where
  prp : ∃ p, Prp K C m p fa
  fn : Fun K m qual st fa fd
theorem pe_propE {X : Cx} {k : Nat} {f C : Addr} {fd : FuncData} {ps : List Str} {sp : Sp} {m : Str} {pos : Pos} {e : Expr} {ta : TE} (he : PE X e ta) (c : Cls X.K C) (pr : ∃ p, Prp X.K C m p f) (F : FnOk X.prog X.w X.K X.mg X.base CX0 k f fd ps sp) (hr : Room (k + 1) X.A) (hb : Binds X.K fd ps []) (hb' : attributeBase e m X.env (eval e X.env) = eval e X.env := by rfl) : PE X (.Attribute e m pos) (tProp C sp ta) :=
  let ⟨_, q⟩ := pr
  pe_prop he c q F hr hb hb'

structure MkDefD (K : PySem.W.Frag) (C : Addr) (qual : Str) (st : Stmt) (dV kV : Value) (fa : Addr) (fd : FuncData) : Prop where
  mkc : Mk K C fa
  fn : FunD K dV kV "__init__" qual st fa fd
end L2

set_option Elab.async false
set_option linter.all false
set_option maxRecDepth 100000

namespace My
open PySem PySem.Spec PyProof.Rows L2

theorem pe_never {X : Cx} {e : Expr} : PE X e (fun _ _ _ => False) := ⟨fun _ _ _ _ _ _ h => h.elim⟩
theorem nextK {D : Ends} {σ : L2.St} {H : Hp} (h : D.nx σ H) : tNext D σ H := h
structure Sh where
  r : Nat
  e : Nat
  f : Nat
  b : Nat
  c : Nat
structure ShOk (h : Sh) : Prop where
  r : 2 ≤ h.r ∧ h.r ≤ 8
  e : 2 ≤ h.e ∧ h.e ≤ 8
  f : 2 ≤ h.f ∧ h.f ≤ 8
  b : 1 ≤ h.b ∧ h.b ≤ 8
  c : 2 ≤ h.c ∧ h.c ≤ 64
def shV (h : Sh) : List V := [.int h.r, .int h.e, .int h.f, .int h.b, .int h.c]
def ShAt (C : Addr) (H : Hp) (x : Addr) (h : Sh) : Prop := ∃ dx t, H x = some (.ins C dx [("measures", .ref t)]) ∧ H t = some (.tup (shV h))
def sp_first_wrong : Sp := fun vs H Q _ => ∃ (t : Addr) (h : Sh), vs = [.ref t] ∧ H t = some (.tup (shV h)) ∧ ShOk h ∧ ∀ H', Same H H' → Q .non H'
def sp_Shape___init__ (C : Addr) : Sp := fun vs H Q _ => ∃ (x dx : Addr) (h : Sh), vs = [.ref x, .int h.r, .int h.e, .int h.f, .int h.b, .int h.c] ∧ H x = some (.ins C dx []) ∧ ShOk h ∧ ∀ H', ShAt C H' x h → (∀ b o, H b = some o → b ≠ x → H' b = some o) → Q .non H'
def sp_Shape_of (C : Addr) (g : Sh → Nat) : Sp := fun vs H Q _ => ∃ (x : Addr) (h : Sh), vs = [.ref x] ∧ ShAt C H x h ∧ Q (.int (g h)) H
theorem sfld_m (v : V) : ([("measures", v)] : List (Str × V)).lookup ("measures" : Str) = some v := by rfl

def HpAt (C : Addr) (H : Hp) (y : Addr) (m : Int) (ps : Pgs) (f : List Addr) : Prop := ∃ dy a g, H y = some (.ins C dy [("most", .int m), ("held", .ref a)]) ∧ Ch H a ps g ∧ y ∉ g ∧ f = y :: g
theorem HpAt.frm {C : Addr} {H H' : Hp} {x : Addr} {m : Int} {ps : Pgs} {f g : List Addr} (h : HpAt C H x m ps f) (k : Frm g H H') (d : Dis f g) : HpAt C H' x m ps f := by
  obtain ⟨dx, a, g', h1, h2, h3, rfl⟩ := h
  exact ⟨dx, a, g', k.keep _ _ (fun z => d x List.mem_cons_self z) h1, chOk.frm h2 k (fun y p q => d y (List.mem_cons_of_mem _ p) q), h3, rfl⟩
theorem HpAt.liv {C : Addr} {H : Hp} {x : Addr} {m : Int} {ps : Pgs} {f : List Addr} (h : HpAt C H x m ps f) : Liv H f := by
  obtain ⟨dx, a, g', h1, h2, h3, rfl⟩ := h
  intro y hy
  rcases List.mem_cons.mp hy with rfl | hy
  · exact ⟨_, h1⟩
  · exact chOk.liv h2 y hy
theorem hfld_most (m : Int) (a : Addr) : ([("most", V.int m), ("held", V.ref a)] : List (Str × V)).lookup ("most" : Str) = some (.int m) := by rfl
theorem hfld_held (m : Int) (a : Addr) : ([("most", V.int m), ("held", V.ref a)] : List (Str × V)).lookup ("held" : Str) = some (.ref a) := by rfl
theorem hfld_no (m : Int) (a : Addr) {x : Str} (h1 : x ≠ "most") (h2 : x ≠ "held") : ([("most", V.int m), ("held", V.ref a)] : List (Str × V)).lookup x = none := by
  simp [List.lookup, beq_eq_false_iff_ne.mpr h1, beq_eq_false_iff_ne.mpr h2]
theorem hfld_init (m : Int) (a : Addr) : putF "held" (V.ref a) (putF "most" (V.int m) []) = ([("most", V.int m), ("held", V.ref a)] : List (Str × V)) := by rfl
theorem HpAt.step {C : Addr} {H H1 H2 : Hp} {x dx a : Addr} {m : Int} {ps : Pgs} {g g1 g2 : List Addr} (hx : H x = some (.ins C dx [("most", .int m), ("held", .ref a)])) (hxg : x ∉ g) (F1 : Frm g H H1) (N1 : Nw H g g1) (F2 : Frm g1 H1 H2) (N2 : Nw H1 g1 g2) (hC : Ch H2 a ps g2) :
    HpAt C H2 x m ps (x :: g2) ∧ Frm (x :: g) H H2 ∧ Nw H (x :: g) (x :: g2) := by
  have F := F1.trans' F2 N1
  have N := N1.trans N2 F1.live
  refine ⟨⟨dx, a, g2, F.keep _ _ hxg hx, hC, fun z => ?_, rfl⟩, F.mono fun y h => List.mem_cons_of_mem _ h, fun y hy => ?_⟩
  · rcases N x z with q | q
    · exact hxg q
    · rw [hx] at q; cases q
  · rcases List.mem_cons.mp hy with rfl | hy
    · exact .inl List.mem_cons_self
    · rcases N y hy with q | q
      · exact .inl (List.mem_cons_of_mem _ q)
      · exact .inr q
theorem set_end {α : Type} (ps : List α) (x y : α) : (ps ++ [x]).set ps.length y = ps ++ [y] := by
  rw [List.set_append_right _ _ (Nat.le_refl _), Nat.sub_self]; rfl
def hpPut (m : Nat) (t : Th) (ps : Pgs) : Pgs := if roomAt m ps < ps.length then ps.set (roomAt m ps) ((ps.getD (roomAt m ps) []) ++ [t]) else ps ++ [[t]]
def hpTo (m : Nat) (ps : Pgs) : Int := if (ps.getD (roomAt m ps) []) = [] then 1 else 2
def hpDrop (t : Th) (ps : Pgs) : Pgs := ps.set (pageAt t ps) ((ps.getD (pageAt t ps) []).eraseIdx (idxTh t (ps.getD (pageAt t ps) [])))
def sp_Heap___init__ (C : Addr) : Sp := fun vs H Q _ => ∃ (x dx : Addr) (m : Int), vs = [.ref x, .int m] ∧ H x = some (.ins C dx []) ∧ ∀ f H', HpAt C H' x m [] f → (∀ b o, H b = some o → b ≠ x → H' b = some o) → (∀ y ∈ f, y = x ∨ H y = none) → Q .non H'
def sp_Heap_put (C : Addr) : Sp := fun vs H Q _ => ∃ (x : Addr) (v : V) (t : Th) (m : Int) (ps : Pgs) (f : List Addr), vs = [.ref x, v] ∧ HpAt C H x m ps f ∧ PgsOk ps ∧ ThAt H v t ∧ ThOk t ∧ 0 ≤ m ∧
  ∀ f' H', HpAt C H' x m (hpPut m.toNat t ps) f' → Frm f H H' → Nw H f f' → Q (.int (hpTo m.toNat ps)) H'
def sp_Heap_drop (C : Addr) : Sp := fun vs H Q _ => ∃ (x : Addr) (v : V) (t : Th) (m : Int) (ps : Pgs) (f : List Addr), vs = [.ref x, v] ∧ HpAt C H x m ps f ∧ PgsOk ps ∧ ThAt H v t ∧ ThOk t ∧ (∃ p ∈ ps, t ∈ p) ∧
  ∀ f' H', HpAt C H' x m (hpDrop t ps) f' → Frm f H H' → Nw H f f' → Q (.int 2) H'
def sp_Heap_pages (C : Addr) : Sp := fun vs H Q _ => ∃ (x : Addr) (m : Int) (ps : Pgs) (f : List Addr), vs = [.ref x] ∧ HpAt C H x m ps f ∧ ps.length < 10000 ∧ ∀ b f' H', Same H H' → Ch H' b ps f' → (∀ y ∈ f', H y = none) → Q (.ref b) H'

theorem SqT.sames {K : PySem.W.Frag} {H H' : Hp} {a : Addr} {xs : List V} (h : SqT K H a xs) (s : Same H H') : SqT K H' a xs := (show SqS K H' (false, a) xs from SqS.same (show SqS K H (false, a) xs from h) s)

theorem lc_tup_mapK {K : PySem.W.Frag} {a : Addr} {xs : List V} {g : TG} {tt : TT} {te : TE} {vs : List Nat} {σ : L2.St} {H1 : Hp} {D : Addr} {Qd : Hp → Prop} (hD : H1 D = none) (f : Nat → V) (ha : SqT K H1 a xs) (hz : xs.length < sizeLine)
    (hs : ∀ i x H (R : VK) (F : Hp → Prop), xs[i]? = some x → Same H1 H → (∀ H', Same H H' → R (f i) H') → g x (wipe σ vs) H fun σ2 H2 => wipe σ2 vs = wipe σ vs ∧ tt σ2 H2 fun b H3 => if b = true then te σ2 H3 R else F H3)
    (hd : ∀ H', Same H1 H' → H' D = some (.lst ((List.range xs.length).map f)) → Qd H') :
    ∃ W : Nat → Nat → Hp → Prop, (∃ m, W 0 m (upd H1 D (.lst []))) ∧ ∀ i m H, W i m H →
      ((Itt K a).stop i H ∧ Qd H) ∨ ((Itt K a).go i H ∧ ∃ Nx : Hp → Prop, (∀ H', Nx H' → ∃ m', m' < m ∧ W (i + 1) m' H') ∧ ∀ x H', (Itt K a).yld i H x H' → g x (wipe σ vs) H' fun σ2 H2 => wipe σ2 vs = wipe σ vs ∧ tt σ2 H2 fun b H3 =>
        if b = true then te σ2 H3 fun y H4 => ∃ acc, H4 D = some (.lst acc) ∧ acc.length < sizeLine ∧ Nx (upd H4 D (.lst (acc ++ [y]))) else Nx H3) := by
  refine lc_tup (xs := xs) (fun i H => Same H1 H ∧ H D = some (.lst ((List.range i).map f))) ⟨same_put (Same.refl _) hD, upd_same⟩ (fun i H _ ⟨s, _⟩ => SqT.sames ha s) (fun i x H hx ⟨s, e⟩ => ?_) (fun H ⟨s, e⟩ => hd H s e)
  refine hs i x H _ _ hx s fun H' s' => ⟨_, s' _ _ e, ?_, same_put (s.trans s') hD, ?_⟩
  · rw [List.length_map, List.length_range]
    exact Nat.lt_trans (List.getElem?_eq_some_iff.mp hx).1 hz
  · rw [upd_same, List.range_succ, List.map_append]; rfl
theorem FormAt.frm {g : List Addr} {H H' : Hp} {a : Addr} {cols : Cols} (h : FormAt H a cols) (F : Frm g H H') : FormAt H' a cols := by
  obtain ⟨ts, e, l, f⟩ := h.ex
  exact ⟨ts, F.tups _ _ e, l, fun i t c h1 h2 => F.tups _ _ (f i t c h1 h2)⟩
theorem FormAt.dt {H : Hp} {p : Addr} {cols : Cols} (fm : FormAt H p cols) : Dt H (.ref p) (.tuple (cols.map colDat)) := by
  obtain ⟨ts, e, l, f⟩ := fm.ex
  refine .tup e (.of colDat (by rw [List.length_map]; exact l) fun i v c h1 h2 => ?_)
  rw [List.getElem?_map] at h1
  obtain ⟨t, q, rfl⟩ := Option.map_eq_some_iff.mp h1
  exact .tup (f i t c q h2) (.cons (.str _) (.cons (.str _) .nil))
def sp_column_names : Sp := fun vs H Q _ => ∃ (a : Addr) (cols : Cols), vs = [.ref a] ∧ FormAt H a cols ∧ cols.length ≤ 10 ∧ ∀ p H', Same H H' → H' p = some (.tup (cols.map fun c => V.str c.1)) → Q (.ref p) H'
theorem range_mapD {α β : Type} (f : α → β) (d : α) (l : List α) : ((List.range l.length).map fun i => f (l.getD i d)) = l.map f := by
  refine List.ext_getElem (by simp) fun i h1 h2 => ?_
  have hi : i < l.length := by simpa using h2
  simp [List.getD_eq_getElem?_getD, hi]
def valAt (names : List Str) (row : List Key) (w : Str) : Key := row.getD (names.idxOf w) (.inl 0)
def sp_picked (K : PySem.W.Frag) : Sp := fun vs H Q _ => ∃ (c r p : Addr) (names : List Str) (row : List Key) (ws : List Str), vs = [.ref c, .ref r, .ref p] ∧ H c = some (.tup (names.map V.str)) ∧ H r = some (.tup (row.map kV)) ∧ SqT K H p (ws.map V.str) ∧ (∀ w ∈ ws, w ∈ names) ∧ names.length = row.length ∧ ws.length ≤ 10 ∧
  ∀ q H', Same H H' → H' q = some (.tup ((ws.map (valAt names row)).map kV)) → Q (.ref q) H'
def sp_changed : Sp := fun vs H Q _ => ∃ (c r : Addr) (v : Key) (names : List Str) (row : List Key) (w : Str), vs = [.ref c, .ref r, .str w, kV v] ∧ H c = some (.tup (names.map V.str)) ∧ H r = some (.tup (row.map kV)) ∧ w ∈ names ∧ names.length = row.length ∧ row.length ≤ 10 ∧
  ∀ q H', Same H H' → H' q = some (.tup ((row.set (names.idxOf w) v).map kV)) → Q (.ref q) H'
theorem idx_at {names : List Str} {w : Str} (h : w ∈ names) : (names.map V.str)[names.idxOf w]? = some (.str w) := by
  rw [List.getElem?_map, List.getElem?_eq_getElem (List.idxOf_lt_length_of_mem h), List.getElem_idxOf]; rfl
theorem idx_no {names : List Str} {w : Str} {m : Nat} {z : V} (h : m < names.idxOf w) (e : (names.map V.str)[m]? = some z) : eqV z (.str w) = false := by
  rw [List.getElem?_map] at e
  obtain ⟨x, hx, rfl⟩ := Option.map_eq_some_iff.mp e
  have hm : m < names.length := (List.getElem?_eq_some_iff.mp hx).1
  have : x ≠ w := fun q => by
    subst q
    have := List.not_of_lt_findIdx (p := (· == x)) (xs := names) (i := m) h
    rw [(List.getElem?_eq_some_iff.mp hx).2] at this
    simp at this
  show decide _ = false
  simpa using this

def sp_is_key (K : PySem.W.Frag) : Sp := fun vs H Q _ => ∃ (a p : Addr), vs = [.ref a, .str "heap", .ref p] ∧ SqT K H p [] ∧ ∀ H', Same H H' → Q (.bl true) H'
def sp_wrong_part (K : PySem.W.Frag) : Sp := fun vs H Q _ => ∃ (a p : Addr) (cols : Cols), vs = [.ref a, .str "heap", .ref p] ∧ FormAt H a cols ∧ 1 ≤ cols.length ∧ cols.length ≤ 6 ∧ Kinds cols ∧ NamesOK (cols.map (·.1)) ∧ SqT K H p [] ∧ ∀ H', Same H H' → Q .non H'
def sp_empty_holder (C1 C2 : Addr) : Sp := fun vs H Q _ => ∃ (x : Addr) (h : Sh), vs = [.ref x, .str "heap"] ∧ ShAt C1 H x h ∧ ShOk h ∧ ∀ y f H', Same H H' → HpAt C2 H' y h.r [] f → (∀ z ∈ f, H z = none) → Q (.ref y) H'
end My

set_option Elab.async false
set_option linter.all false
set_option maxRecDepth 100000

namespace L2
open PySem PySem.Spec PyProof.Rows
theorem tuple_indexAt (l : Addr) (items : Array Value) (x : Value) (e : Value → Bool) (j : Nat) (hj : j < items.size) (hit : e items[j] = true) (hno : ∀ m (hm : m < items.size), m < j → e items[m] = false) :
    Meets (Builtin.«tuple.index» ⟨[.ref l, x], []⟩) (fun A R s => IsTup s.heap l items ∧ (∀ y, y ∈ items → SeqAt.EqAt A.in1 s y x (e y)) ∧ R (.ok (.ret (.int j s.toks))) { s with toks := s.toks + 1 }) :=
  .of_wp fun prog w A R s h => by
    obtain ⟨hl, he, h⟩ := h
    show wpAny _ _ (Builtin.Tuple.tupleItemsOf (.ref l) >>= _) _ _ s
    refine wpAny_bind (tupleItemsOf_ hl ?_)
    refine wpAny_bind (wpAny_pure ?_)
    refine wpAny_bind (wpAny_pure ?_)
    dsimp only
    rw [Nat.min_self]
    refine wpAny_bind ?_
    first | rw [Std.Legacy.Range.forIn_eq_forIn_range'] | rw [Std.Range.forIn_eq_forIn_range']
    refine wpAny_forIn_list _ (fun rest b s' => b.1 = none ∧ s' = s ∧ ∃ k, k ≤ j ∧ rest = List.range' k (items.size - k)) _ ?_ ?_ _ _ ⟨rfl, rfl, 0, Nat.zero_le _, ?_⟩
    · rintro i rest b s' ⟨hb, rfl, k, hk, hr⟩
      have hks : k < items.size := by omega
      have hsz : items.size - k = (items.size - (k + 1)) + 1 := by omega
      rw [hsz, List.range'_succ] at hr
      obtain ⟨rfl, rfl⟩ := List.cons.inj hr
      have hik : items[i]? = some items[i] := by simp [hks]
      rw [hik]
      refine wpAny_bind (he _ (Array.getElem_mem hks) prog w _ _ ?_)
      by_cases c : i = j
      · subst c
        rw [hit]
        refine wpAny_bind (wpAny_bind (wpAny_mkInt (wpAny_pure ?_)))
        refine wpAny_pure ?_
        exact wpAny_pure ⟨_, rfl, h⟩
      · rw [hno i hks (by omega)]
        exact wpAny_pure ⟨rfl, rfl, i + 1, by omega, rfl⟩
    · rintro ⟨b1, b2⟩ s' ⟨hb, rfl, k, hk, hr⟩
      have : items.size - k = 0 := by
        have := congrArg List.length hr
        simpa using this.symm
      omega
    · simp [Std.Legacy.Range.size]
section
variable {X : Cx}
def rIndexT (K : PySem.W.Frag) : V → List V → Hp → VK → Prop := fun x xs H Q => ∃ (a : Addr) (ys : List V) (y : V) (j : Nat) (z : V), x = V.ref a ∧ xs = [y] ∧ SqT K H a ys ∧ flatV y = true ∧ ys.all flatV = true ∧ ys[j]? = some z ∧ eqV z y = true ∧
  (∀ (m : Nat) (z' : V), m < j → ys[m]? = some z' → eqV z' y = false) ∧ Q (.int (j : Nat)) H
theorem mt_indexT : MtR X "tuple.index" (rIndexT X.K) := by
  constructor
  intro pins s σ H x xs v us Q I rx rxs h
  obtain ⟨a, ys, y, j, z, rfl, rfl, hs, fy, fys, hz, hzj, hno, q⟩ := h
  cases rx
  cases rxs with
  | cons ry rt =>
    rename_i uy ut
    cases rt
    obtain ⟨its, rv, ht, hlen⟩ := I.tuple hs
    have ht' := ht
    obtain ⟨u, hu, ru⟩ := rv.get hz
    obtain ⟨hjl, hje⟩ := List.getElem?_eq_some_iff.mp hu
    have hvl := rv.length
    have hj : j < its.toArray.size := by simpa using hjl
    refine call_meets PySem.F.slot_tuple_index ?_ PySem.F.entry_tuple_index (PySem.F.args_tuple_index_2 _ _)
      (tuple_indexAt a its.toArray uy (eqU y) j hj ?_ ?_) ⟨ht', fun u' hu' => mem_eqAt ry fy rv fys u' (by simpa using hu'), ?_⟩
    · obtain ⟨o, ho, hc, _⟩ := ht
      exact ⟨o, ho, hc⟩
    · have w1 : its.toArray[j] = u := by simpa using hje
      rw [w1, eqU_of ru (flat_at fys hz)]
      exact hzj
    · intro m hm hmj
      have hml : m < its.length := by simpa using hm
      have hy' : ys[m]? = some ys[m] := List.getElem?_eq_getElem (by omega)
      obtain ⟨u2, hu2, ru2⟩ := rv.get hy'
      obtain ⟨_, hme⟩ := List.getElem?_eq_some_iff.mp hu2
      have w2 : its.toArray[m] = u2 := by simpa using hme
      rw [w2, eqU_of ru2 (flat_at fys hy')]
      exact hno m _ hmj hy'
    · exact ⟨.int (j : Nat), H, I.tok _, ⟨_, rfl⟩, q⟩

def tIndexT (to : TE) (te : TE) : TE := fun σ H Q => to σ H fun x H1 => (∃ a ys, x = V.ref a ∧ H1 a = some (.tup ys)) ∧ te σ H1 fun y H2 => ∃ a ys j z, x = V.ref a ∧ H2 a = some (.tup ys) ∧ flatV y = true ∧ ys.all flatV = true ∧ ys[j]? = some z ∧ eqV z y = true ∧
  (∀ (m : Nat) (z' : V), m < j → ys[m]? = some z' → eqV z' y = false) ∧ Q (.int (j : Nat)) H2
theorem Inv.tupN {pins : List (Addr × Obj)} {σ : St} {H : Hp} {s : Shared} {a : Addr} {xs : List V} (I : Inv X pins σ H s) (h : H a = some (.tup xs)) : s.TypeIs (.ref a) "tuple" ∧ ∃ ob, s.heap.get? a = some ob ∧ ob.dict = none := by
  obtain ⟨_, its, r, o, h1, h2, _, h4⟩ := (show ObjOk X.prog X.w H s.heap a (.tup xs) from I.hok a _ h)
  exact ⟨⟨o, h1, h2⟩, o, h1, h4⟩
theorem pe_indexT {o e : Expr} {to te : TE} {apos cpos : Pos} (ho : PE X o to) (he : PE X e te)
    (hbase : attributeBase o ("index" : Str) X.env (eval o X.env) = eval o X.env := by rfl)
    (hfew : ((backTo cpos (starEach [e] X.env)).all (fun x => !x.1) && (backToKw cpos (keywordEach [] X.env)).all (fun x => x.1.isSome)
      && decide ([e].length + ([] : List Keyword).length + (if ([] : List Keyword).isEmpty then 0 else 1) < 30)) = true := by rfl)
    (hline : (apos.endLine == cpos.line) = true := by rfl) (hs : starEach [e] X.env = (false, eval e X.env) :: starEach [] X.env := by rfl) :
    PE X (.Call (.Attribute o "index" apos) [e] [] cpos) (tIndexT to te) := by
  constructor
  intro pins s σ H Q I h
  refine wpAny_Call_method_late hbase hfew hline rfl (thn (ho pins s σ H _ I h) fun v s1 ⟨x, H1, I1, r1, ⟨a, ys, ex, ha⟩, q1⟩ => ?_)
  subst ex
  obtain rfl : v = Value.ref a := r1
  obtain ⟨h1, h2⟩ := I1.tupN ha
  refine ⟨"tuple", "tuple.index", PySem.F.plainAttrs_tuple, PySem.F.slot_tuple_index, PySem.F.type_tuple_index, h1, fun b eb => by cases eb; exact h2, ?_⟩
  have hA := (pa_cons he pa_nil hs) cpos pins s1 σ H1 (fun vs H2 => match vs with
    | [y] => ∃ (a' : Addr) (ys : List V) (j : Nat) (z : V), V.ref a = V.ref a' ∧ H2 a' = some (.tup ys) ∧ flatV y = true ∧ ys.all flatV = true ∧ ys[j]? = some z ∧ eqV z y = true ∧ (∀ (m : Nat) (z' : V), m < j → ys[m]? = some z' → eqV z' y = false) ∧ Q (.int (j : Nat)) H2
    | _ => False) I1 q1
  rw [hs] at hA ⊢
  refine Calls.callWith_builtin rfl (Calls.evalArgs_plain ?_)
  refine thn hA fun us s2 ⟨vs, H2, I2, r2, q2⟩ => ?_
  match vs, r2, q2 with
  | [y], r2, ⟨a', ys', j, z, ex, ha', f1, f2, f3, f4, f5, q⟩ =>
    cases ex
    exact mt_indexT pins s2 σ H2 (.ref a) [y] (.ref a) us Q I2 rfl r2 ⟨a, ys', y, j, z, rfl, rfl, SqT.of ha', f1, f2, f3, f4, f5, q⟩
end
end L2

set_option Elab.async false
set_option linter.all false
set_option maxRecDepth 100000

namespace My
open PySem PySem.Spec PyProof.Rows L2
inductive Hd where
  | heap (ps : Pgs)
  | run (ls : Pgs)
  | bk (bs : List Pgs)
def Hd.kind : Hd → Str
  | .heap _ => "heap"
  | .run _ => "sorted"
  | .bk _ => "hashed"
def Hd.pgs : Hd → Pgs
  | .heap ps => ps
  | .run ls => ls
  | .bk bs => bs.flatten
structure Cz where
  sh : Addr
  hp : Addr
  rn : Addr
  bk : Addr
  st : Addr
def HdAt (c : Cz) (H : Hp) (y : Addr) (h : Sh) : Hd → List Addr → Prop
  | .heap ps, f => HpAt c.hp H y h.r ps f
  | .run ls, f => RunAt c.rn H y h.r h.f ls f
  | .bk bs, f => BkAt c.bk H y h.r bs f
theorem HdAt.frm {c : Cz} {H H' : Hp} {y : Addr} {h : Sh} {hd : Hd} {f g : List Addr} (x : HdAt c H y h hd f) (F : Frm g H H') (d : Dis f g) : HdAt c H' y h hd f := by
  cases hd with
  | heap ps => exact HpAt.frm x F d
  | run ls => exact RunAt.frm x F d
  | bk bs => exact BkAt.frm x F d
theorem HdAt.liv {c : Cz} {H : Hp} {y : Addr} {h : Sh} {hd : Hd} {f : List Addr} (x : HdAt c H y h hd f) : Liv H f := by
  cases hd with
  | heap ps => exact HpAt.liv x
  | run ls => exact RunAt.liv x
  | bk bs => exact BkAt.liv x
def hdPut (h : Sh) (t : Th) : Hd → Hd
  | .heap ps => .heap (hpPut h.r t ps)
  | .run ls => .run (putLs h.r ls t)
  | .bk bs => .bk (bs.set (binAt t.1 bs.length) (putPg h.r t (bs.getD (binAt t.1 bs.length) [])))
def hdPutT (h : Sh) (t : Th) : Hd → Int
  | .heap ps => hpTo h.r ps
  | .run ls => (putT h.r h.f ls t : Nat)
  | .bk bs => putTo h.r (bs.getD (binAt t.1 bs.length) [])
def hdDrop (t : Th) : Hd → Hd
  | .heap ps => .heap (hpDrop t ps)
  | .run ls => .run (dropLs ls t)
  | .bk bs => .bk (bs.set (binAt t.1 bs.length) (dropPg t (bs.getD (binAt t.1 bs.length) [])))
def hdDropT (h : Sh) (t : Th) : Hd → Int
  | .heap _ => 2
  | .run ls => ((lvs h.f ls.length).1 + 2 : Nat)
  | .bk bs => dropTo t (bs.getD (binAt t.1 bs.length) [])

def HdOk (ks : List Str) : Hd → Prop
  | .heap ps => PgsOk ps
  | .run ls => LsK ks ls
  | .bk bs => BinsOk bs
def HdHas (t : Th) : Hd → Prop
  | .heap ps => ∃ p ∈ ps, t ∈ p
  | .run ls => t ∈ ls.getD (leafFor ls t) []
  | .bk bs => ∃ p ∈ bs.getD (binAt t.1 bs.length) [], t ∈ p

abbrev Rs := List (Int × List Key)
def rsAt (rs : Rs) (n : Int) : Option (List Key) := (rs.find? fun p => decide (p.1 = n)).map (·.2)
def rsDrop (rs : Rs) (n : Int) : Rs := rs.filter fun p => decide (p.1 ≠ n)
def rsSet (rs : Rs) (n : Int) (row : List Key) : Rs := rs.map fun p => if p.1 = n then (p.1, row) else p
def RowAt (H : Hp) (v : V) (row : List Key) : Prop := ∃ r, v = .ref r ∧ H r = some (.tup (row.map kV))
theorem RowAt.frm {g : List Addr} {H H' : Hp} {v : V} {row : List Key} (h : RowAt H v row) (F : Frm g H H') : RowAt H' v row := by
  obtain ⟨r, e, h⟩ := h
  exact ⟨r, e, F.tups _ _ h⟩
theorem RowAt.same {H H' : Hp} {v : V} {row : List Key} (h : RowAt H v row) (s : Same H H') : RowAt H' v row := h.frm (.of_same s : Frm [] H H')

def RowsAt (H : Hp) (kvs : List (Key × V)) (rs : Rs) : Prop := Paired (fun (p : Key × V) (q : Int × List Key) => p.1 = .inl q.1 ∧ RowAt H p.2 q.2) kvs rs
theorem RowsAt.frm {g : List Addr} {H H' : Hp} {kvs : List (Key × V)} {rs : Rs} (h : RowsAt H kvs rs) (F : Frm g H H') : RowsAt H' kvs rs := Paired.mono (fun p q ⟨a, b⟩ => ⟨a, b.frm F⟩) h
theorem RowsAt.len {H : Hp} {kvs : List (Key × V)} {rs : Rs} (h : RowsAt H kvs rs) : kvs.length = rs.length := Paired.length h
theorem RowsAt.keys {H : Hp} {kvs : List (Key × V)} {rs : Rs} (h : RowsAt H kvs rs) : kvs.map (·.1) = rs.map fun p => Sum.inl p.1 := by
  unfold RowsAt at h
  induction h with
  | nil => rfl
  | cons r _ ih => rw [List.map_cons, List.map_cons, ih, r.1]
theorem rsAt_pos {p : Int × List Key} {rs : Rs} {n : Int} (e : p.1 = n) : rsAt (p :: rs) n = some p.2 := by simp [rsAt, List.find?_cons, e]
theorem rsAt_neg {p : Int × List Key} {rs : Rs} {n : Int} (e : p.1 ≠ n) : rsAt (p :: rs) n = rsAt rs n := by simp [rsAt, List.find?_cons, e]
theorem valV_neg {k k0 : Key} {v : V} {kvs : List (Key × V)} (c : k0 ≠ k) : valV ((k0, v) :: kvs) k = valV kvs k := by simp [valV, List.find?_cons, c]
theorem RowsAt.val {H : Hp} {kvs : List (Key × V)} {rs : Rs} (h : RowsAt H kvs rs) (n : Int) : (valV kvs (.inl n) = none ∧ rsAt rs n = none) ∨ ∃ v row, valV kvs (.inl n) = some v ∧ rsAt rs n = some row ∧ RowAt H v row := by
  unfold RowsAt at h
  induction h with
  | nil => exact .inl ⟨rfl, rfl⟩
  | @cons a b l₁ l₂ r t ih =>
    obtain ⟨k0, v⟩ := a
    obtain ⟨e0, r0⟩ := r
    have e0 : k0 = Sum.inl b.1 := e0
    by_cases c : b.1 = n
    · exact .inr ⟨v, b.2, valV_pos (e0.trans (by rw [c])), rsAt_pos c, r0⟩
    · have c' : k0 ≠ Sum.inl n := fun z => c (by rw [e0] at z; cases z; rfl)
      rw [valV_neg c', rsAt_neg c]
      exact ih
theorem RowsAt.get {H : Hp} {kvs : List (Key × V)} {rs : Rs} (h : RowsAt H kvs rs) {n : Int} {row : List Key} (e : rsAt rs n = some row) : ∃ v, valV kvs (.inl n) = some v ∧ RowAt H v row := by
  rcases h.val n with ⟨_, q⟩ | ⟨v, r, h1, h2, h3⟩
  · rw [e] at q; cases q
  · rw [e] at h2; cases h2; exact ⟨v, h1, h3⟩
theorem any_keys' {k : Key} : ∀ {α : Type} (kvs : List (Key × α)), (kvs.any fun kv => decide (kv.1 = k)) = ((kvs.map (·.1)).any fun x => decide (x = k))
  | _, [] => rfl
  | _, b :: r => by simp only [List.any_cons, List.map_cons, any_keys' r]
theorem RowsAt.new {H : Hp} {kvs : List (Key × V)} {rs : Rs} (h : RowsAt H kvs rs) {n : Int} {row : List Key} {v : V} (hn : ∀ p ∈ rs, p.1 ≠ n) (hr : RowAt H v row) : RowsAt H (putK kvs (.inl n) v) (rs ++ [(n, row)]) := by
  have e : (kvs.any fun kv => decide (kv.1 = Sum.inl n)) = false := by
    rw [any_keys', h.keys, List.any_map]
    rw [List.any_eq_false]
    intro p hp
    simpa using hn p hp
  unfold putK
  rw [e]
  exact Paired.app h (.cons ⟨rfl, hr⟩ .nil)
theorem RowsAt.set {H : Hp} {kvs : List (Key × V)} {rs : Rs} (h : RowsAt H kvs rs) {n : Int} {row row0 : List Key} {v : V} (hn : rsAt rs n = some row0) (hr : RowAt H v row) : RowsAt H (putK kvs (.inl n) v) (rsSet rs n row) := by
  have e : (kvs.any fun kv => decide (kv.1 = Sum.inl n)) = true := by
    rw [any_keys', h.keys, List.any_map]
    rw [List.any_eq_true]
    unfold rsAt at hn
    obtain ⟨p, hp, _⟩ := Option.map_eq_some_iff.mp hn
    exact ⟨p, List.mem_of_find?_eq_some hp, by have := List.find?_some hp; simpa using this⟩
  unfold putK
  rw [e]
  simp only [if_true]
  clear e hn
  unfold RowsAt rsSet at *
  induction h with
  | nil => exact .nil
  | @cons a b l₁ l₂ r t ih =>
    rw [List.map_cons, List.map_cons]
    refine .cons ?_ ih
    obtain ⟨k0, v0⟩ := a
    obtain ⟨e0, r0⟩ := r
    have e0 : k0 = Sum.inl b.1 := e0
    by_cases c : b.1 = n
    · rw [if_pos c, if_pos (show k0 = Sum.inl n by rw [e0, c])]
      exact ⟨e0, hr⟩
    · rw [if_neg c, if_neg (show ¬ k0 = Sum.inl n from fun z => c (by rw [e0] at z; cases z; rfl))]
      exact ⟨e0, r0⟩
theorem RowsAt.del {H : Hp} {kvs : List (Key × V)} {rs : Rs} (h : RowsAt H kvs rs) (n : Int) : RowsAt H (dropK kvs (.inl n)) (rsDrop rs n) := by
  unfold RowsAt rsDrop dropK at *
  induction h with
  | nil => exact .nil
  | @cons a b l₁ l₂ r t ih =>
    obtain ⟨k0, v0⟩ := a
    obtain ⟨e0, r0⟩ := r
    have e0 : k0 = Sum.inl b.1 := e0
    by_cases c : b.1 = n
    · rw [List.filter_cons_of_neg (by simp [e0, c]), List.filter_cons_of_neg (by simpa using c)]
      exact ih
    · rw [List.filter_cons_of_pos (by simp [e0]; exact c), List.filter_cons_of_pos (by simpa using c)]
      exact .cons ⟨e0, r0⟩ ih

def RowK (cols : Cols) (row : List Key) : Prop := row.map kindOf = cols.map (·.2) ∧ ∀ k ∈ row, keyOk k
theorem RowK.len {cols : Cols} {row : List Key} (h : RowK cols row) : row.length = cols.length := by
  have := congrArg List.length h.1
  simpa using this
structure RsOk (cols : Cols) (ws : List Str) (rs : Rs) (g : Nat) : Prop where
  c1 : 1 ≤ cols.length
  c6 : cols.length ≤ 6
  kd : Kinds cols
  nm : NamesOK (cols.map (·.1))
  wn : ∀ w ∈ ws, w ∈ cols.map (·.1)
  w3 : ws.length ≤ 3
  row : ∀ p ∈ rs, RowK cols p.2
  num : ∀ p ∈ rs, 1 ≤ p.1 ∧ p.1 ≤ g
  ris : rs.Pairwise fun p q => p.1 < q.1
  g60 : g ≤ 61
def thOf (cols : Cols) (ws : List Str) (p : Int × List Key) : Th := (ws.map (valAt (cols.map (·.1)) p.2), p.1)
def kdsOf (cols : Cols) (ws : List Str) : List Str := ws.map fun w => (cols.map (·.2)).getD ((cols.map (·.1)).idxOf w) ""
theorem rsAt_mem {rs : Rs} {n : Int} {row : List Key} (h : rsAt rs n = some row) : (n, row) ∈ rs := by
  unfold rsAt at h
  obtain ⟨p, hp, rfl⟩ := Option.map_eq_some_iff.mp h
  have e : p.1 = n := by have := List.find?_some hp; simpa using this
  rw [← e]
  exact List.mem_of_find?_eq_some hp
theorem thOf_k {cols : Cols} {ws : List Str} {p : Int × List Key} (wn : ∀ w ∈ ws, w ∈ cols.map (·.1)) (w3 : ws.length ≤ 3) (hr : RowK cols p.2) (h1 : 1 ≤ p.1) (h2 : p.1 ≤ 999) : ThK (kdsOf cols ws) (thOf cols ws p) := by
  have vk : ∀ w ∈ ws, ∃ k, p.2[(cols.map (·.1)).idxOf w]? = some k ∧ valAt (cols.map (·.1)) p.2 w = k ∧ (cols.map (·.2))[(cols.map (·.1)).idxOf w]? = some (kindOf k) := fun w hw => by
    have hi : (cols.map (·.1)).idxOf w < p.2.length := by rw [hr.len]; have := List.idxOf_lt_length_of_mem (wn w hw); simpa using this
    refine ⟨p.2[(cols.map (·.1)).idxOf w], List.getElem?_eq_getElem hi, ?_, ?_⟩
    · unfold valAt
      rw [List.getD_eq_getElem?_getD, List.getElem?_eq_getElem hi]; rfl
    · rw [← hr.1, List.getElem?_map, List.getElem?_eq_getElem hi]; rfl
  refine ⟨⟨fun k hk => ?_, by show (ws.map _).length ≤ 4; rw [List.length_map]; omega, h1, h2⟩, ?_⟩
  · obtain ⟨w, hw, rfl⟩ := List.mem_map.mp hk
    obtain ⟨k, e1, e2, _⟩ := vk w hw
    rw [e2]
    exact hr.2 k (List.mem_of_getElem? e1)
  · unfold thOf kdsOf
    rw [List.map_map]
    refine List.map_congr_left fun w hw => ?_
    obtain ⟨k, e1, e2, e3⟩ := vk w hw
    show kindOf (valAt _ _ w) = _
    rw [e2, List.getD_eq_getElem?_getD, e3]; rfl
theorem RsOk.thk {cols : Cols} {ws : List Str} {rs : Rs} {g : Nat} (h : RsOk cols ws rs g) {p : Int × List Key} (hp : p ∈ rs) : ThK (kdsOf cols ws) (thOf cols ws p) := by
  have := h.num p hp
  have := h.g60
  exact thOf_k h.wn h.w3 (h.row p hp) (by omega) (by omega)
theorem RsOk.len {cols : Cols} {ws : List Str} {rs : Rs} {g : Nat} (h : RsOk cols ws rs g) : rs.length ≤ g := by
  have key : ∀ (rs : Rs) (lo : Int), (∀ p ∈ rs, lo ≤ p.1 ∧ p.1 ≤ g) → rs.Pairwise (fun p q => p.1 < q.1) → lo + rs.length ≤ g + 1 ∨ rs = [] := by
    intro rs
    induction rs with
    | nil => intro lo _ _; exact .inr rfl
    | cons p r ih =>
      intro lo h1 h2
      obtain ⟨a, b⟩ := List.pairwise_cons.mp h2
      have := h1 p List.mem_cons_self
      rcases ih (p.1 + 1) (fun q hq => ⟨by have := a q hq; omega, (h1 q (List.mem_cons_of_mem _ hq)).2⟩) b with z | z
      · left; rw [List.length_cons]; omega
      · left; subst z; simp; omega
  rcases key rs 1 h.num h.ris with z | z
  · omega
  · rw [z]; simp
theorem RsOk.put {cols : Cols} {ws : List Str} {rs : Rs} {g : Nat} (h : RsOk cols ws rs g) {row : List Key} (hr : RowK cols row) (hg : g ≤ 60) : RsOk cols ws (rs ++ [((g : Int) + 1, row)]) (g + 1) :=
  { h with
    row := fun p hp => (List.mem_append.mp hp).elim (h.row p) fun z => by rw [List.mem_singleton.mp z]; exact hr
    num := fun p hp => (List.mem_append.mp hp).elim (fun z => by have := h.num p z; omega) fun z => by rw [List.mem_singleton.mp z]; show (1 : Int) ≤ g + 1 ∧ (g : Int) + 1 ≤ ((g + 1 : Nat) : Int); omega
    ris := List.pairwise_append.mpr ⟨h.ris, by simp, fun p hp q hq => by rw [List.mem_singleton.mp hq]; have := h.num p hp; show p.1 < (g : Int) + 1; omega⟩
    g60 := by omega }
theorem RsOk.drop {cols : Cols} {ws : List Str} {rs : Rs} {g : Nat} (h : RsOk cols ws rs g) (n : Int) : RsOk cols ws (rsDrop rs n) g :=
  { h with
    row := fun p hp => h.row p ((List.mem_filter.mp hp).1)
    num := fun p hp => h.num p ((List.mem_filter.mp hp).1)
    ris := h.ris.sublist List.filter_sublist }
theorem rsSet_mem {rs : Rs} {n : Int} {row : List Key} {p : Int × List Key} (hp : p ∈ rsSet rs n row) : ∃ q ∈ rs, p.1 = q.1 ∧ (p.2 = row ∨ p.2 = q.2) := by
  obtain ⟨q, hq, rfl⟩ := List.mem_map.mp hp
  refine ⟨q, hq, ?_⟩
  split
  · exact ⟨rfl, .inl rfl⟩
  · exact ⟨rfl, .inr rfl⟩
theorem RsOk.set {cols : Cols} {ws : List Str} {rs : Rs} {g : Nat} (h : RsOk cols ws rs g) (n : Int) {row : List Key} (hr : RowK cols row) : RsOk cols ws (rsSet rs n row) g :=
  { h with
    row := fun p hp => by
      obtain ⟨q, hq, _, e | e⟩ := rsSet_mem hp
      · rw [e]; exact hr
      · rw [e]; exact h.row q hq
    num := fun p hp => by
      obtain ⟨q, hq, e, _⟩ := rsSet_mem hp
      rw [e]; exact h.num q hq
    ris := by
      unfold rsSet
      rw [List.pairwise_map]
      refine h.ris.imp fun {a b} hab => ?_
      show (if a.1 = n then (a.1, row) else a).1 < (if b.1 = n then (b.1, row) else b).1
      split <;> split <;> exact hab }

def stF (kd : Str) (sh fo kp hp d : Addr) (g : Int) : List (Str × V) := [("shape", .ref sh), ("form", .ref fo), ("kind", .str kd), ("key", .ref kp), ("holder", .ref hp), ("by_number", .ref d), ("given", .int g)]

def SqK (K : PySem.W.Frag) (H : Hp) (a : Addr) (xs : List V) : Prop := H a = some (.tup xs) ∨ SqT K (fun _ => none) a xs
theorem SqK.frm {K : PySem.W.Frag} {g : List Addr} {H H' : Hp} {a : Addr} {xs : List V} (h : SqK K H a xs) (F : Frm g H H') : SqK K H' a xs := by
  rcases h with h | h
  · exact .inl (F.tups _ _ h)
  · exact .inr h
theorem SqK.t {K : PySem.W.Frag} {H : Hp} {a : Addr} {xs : List V} (h : SqK K H a xs) : SqT K H a xs := by
  rcases h with h | h
  · exact SqT.of h
  · rcases h with h | h
    · rcases h with h | ⟨o, h⟩ <;> cases h
    · exact .inr h
structure StAt (K : PySem.W.Frag) (c : Cz) (H : Hp) (x y : Addr) (h : Sh) (cols : Cols) (ws : List Str) (hd : Hd) (rs : Rs) (g : Nat) (f : List Addr) : Prop where
  ex : ∃ dx fo kp hp d kvs fh, H x = some (.ins c.st dx (stF hd.kind y fo kp hp d g)) ∧ FormAt H fo cols ∧ SqK K H kp (ws.map V.str) ∧ HdAt c H hp h hd fh ∧ H d = some (.dK kvs) ∧ RowsAt H kvs rs ∧ x ≠ d ∧ x ∉ fh ∧ d ∉ fh ∧ f = x :: d :: fh
  sh : ShAt c.sh H y h
  ok : ShOk h
  nf : y ∉ f
  rs : RsOk cols ws rs g
theorem ShAt.frm {C : Addr} {H H' : Hp} {x : Addr} {h : Sh} {g : List Addr} (k : ShAt C H x h) (F : Frm g H H') (n : x ∉ g) : ShAt C H' x h := by
  obtain ⟨dx, t, h1, h2⟩ := k
  exact ⟨dx, t, F.keep _ _ n h1, F.tups _ _ h2⟩
theorem StAt.frm {K : PySem.W.Frag} {c : Cz} {H H' : Hp} {x sh : Addr} {h : Sh} {cols : Cols} {ws : List Str} {hd : Hd} {rs : Rs} {n : Nat} {f g : List Addr} (S : StAt K c H x sh h cols ws hd rs n f) (F : Frm g H H') (d : Dis f g) (ns : sh ∉ g) : StAt K c H' x sh h cols ws hd rs n f := by
  obtain ⟨dx, fo, kp, hp, dd, kvs, fh, h1, h2, h3, h4, h5, h6, h7, h8, h9, rfl⟩ := S.ex
  exact ⟨⟨dx, fo, kp, hp, dd, kvs, fh, F.keep _ _ (fun z => d _ List.mem_cons_self z) h1, h2.frm F, h3.frm F, h4.frm F fun y p q => d y (List.mem_cons_of_mem _ (List.mem_cons_of_mem _ p)) q, F.keep _ _ (fun z => d _ (List.mem_cons_of_mem _ List.mem_cons_self) z) h5, h6.frm F, h7, h8, h9, rfl⟩, S.sh.frm F ns, S.ok, S.nf, S.rs⟩
theorem StAt.same {K : PySem.W.Frag} {c : Cz} {H H' : Hp} {x sh : Addr} {h : Sh} {cols : Cols} {ws : List Str} {hd : Hd} {rs : Rs} {n : Nat} {f : List Addr} (S : StAt K c H x sh h cols ws hd rs n f) (s : Same H H') : StAt K c H' x sh h cols ws hd rs n f := S.frm (.of_same s : Frm [] H H') (fun _ _ z => nomatch z) (by simp)
theorem StAt.liv {K : PySem.W.Frag} {c : Cz} {H : Hp} {x sh : Addr} {h : Sh} {cols : Cols} {ws : List Str} {hd : Hd} {rs : Rs} {n : Nat} {f : List Addr} (S : StAt K c H x sh h cols ws hd rs n f) : Liv H f := by
  obtain ⟨dx, fo, kp, hp, dd, kvs, fh, h1, h2, h3, h4, h5, h6, h7, h8, h9, rfl⟩ := S.ex
  intro y hy
  rcases List.mem_cons.mp hy with rfl | hy
  · exact ⟨_, h1⟩
  · rcases List.mem_cons.mp hy with rfl | hy
    · exact ⟨_, h5⟩
    · exact h4.liv y hy
theorem sf_form (kd : Str) (sh fo kp hp d : Addr) (g : Int) : (stF kd sh fo kp hp d g).lookup ("form" : Str) = some (.ref fo) := by rfl
theorem sf_kind (kd : Str) (sh fo kp hp d : Addr) (g : Int) : (stF kd sh fo kp hp d g).lookup ("kind" : Str) = some (.str kd) := by rfl
theorem sf_key (kd : Str) (sh fo kp hp d : Addr) (g : Int) : (stF kd sh fo kp hp d g).lookup ("key" : Str) = some (.ref kp) := by rfl
theorem sf_holder (kd : Str) (sh fo kp hp d : Addr) (g : Int) : (stF kd sh fo kp hp d g).lookup ("holder" : Str) = some (.ref hp) := by rfl
theorem sf_by (kd : Str) (sh fo kp hp d : Addr) (g : Int) : (stF kd sh fo kp hp d g).lookup ("by_number" : Str) = some (.ref d) := by rfl
theorem sf_given (kd : Str) (sh fo kp hp d : Addr) (g : Int) : (stF kd sh fo kp hp d g).lookup ("given" : Str) = some (.int g) := by rfl
theorem sf_no (kd : Str) (sh fo kp hp d : Addr) (g : Int) {x : Str} (h1 : x ≠ "shape") (h2 : x ≠ "form") (h3 : x ≠ "kind") (h4 : x ≠ "key") (h5 : x ≠ "holder") (h6 : x ≠ "by_number") (h7 : x ≠ "given") : (stF kd sh fo kp hp d g).lookup x = none := by
  simp [stF, List.lookup, beq_eq_false_iff_ne.mpr h1, beq_eq_false_iff_ne.mpr h2, beq_eq_false_iff_ne.mpr h3, beq_eq_false_iff_ne.mpr h4, beq_eq_false_iff_ne.mpr h5, beq_eq_false_iff_ne.mpr h6, beq_eq_false_iff_ne.mpr h7]
theorem sf_up (kd : Str) (sh fo kp hp d : Addr) (g g' : Int) : putF "given" (V.int g') (stF kd sh fo kp hp d g) = stF kd sh fo kp hp d g' := by rfl

def HdAny (_ : Hd) : Prop := True
def HdHeap : Hd → Prop
  | .heap _ => True
  | _ => False
def HdRun : Hd → Prop
  | .run _ => True
  | _ => False
def HdBk : Hd → Prop
  | .bk _ => True
  | _ => False
section
variable (K : PySem.W.Frag) (c : Cz) (P : Hd → Prop)
def sp_Store_row : Sp := fun vs H Q _ => ∃ (x sh : Addr) (h : Sh) (cols : Cols) (ws : List Str) (hd : Hd) (rs : Rs) (g : Nat) (f : List Addr) (n : Int) (row : List Key), vs = [.ref x, .int n] ∧ StAt K c H x sh h cols ws hd rs g f ∧ rsAt rs n = some row ∧ ∀ v, RowAt H v row → Q v H
def sp_Store_thing_of : Sp := fun vs H Q _ => ∃ (x sh : Addr) (h : Sh) (cols : Cols) (ws : List Str) (hd : Hd) (rs : Rs) (g : Nat) (f : List Addr) (n : Int) (row : List Key), vs = [.ref x, .int n] ∧ StAt K c H x sh h cols ws hd rs g f ∧ rsAt rs n = some row ∧ ∀ v H', Same H H' → ThAt H' v (thOf cols ws (n, row)) → Q v H'
def sp_Store_check : Sp := fun vs H Q _ => ∃ (x sh : Addr) (h : Sh) (cols : Cols) (ws : List Str) (hd : Hd) (rs : Rs) (g : Nat) (f : List Addr) (v : V) (row : List Key), vs = [.ref x, v] ∧ StAt K c H x sh h cols ws hd rs g f ∧ RowAt H v row ∧ RowK cols row ∧ g < 60 ∧ ∀ H', Same H H' → Q .non H'
def sp_Store_lay : Sp := fun vs H Q _ => ∃ (x sh : Addr) (h : Sh) (cols : Cols) (ws : List Str) (hd : Hd) (rs : Rs) (g : Nat) (f : List Addr) (v : V) (row : List Key), vs = [.ref x, v] ∧ P hd ∧ StAt K c H x sh h cols ws hd rs g f ∧ RowAt H v row ∧ RowK cols row ∧ g ≤ 60 ∧ HdOk (kdsOf cols ws) hd ∧
  ∀ p f' H', StAt K c H' x sh h cols ws (hdPut h (thOf cols ws ((g : Int) + 1, row)) hd) (rs ++ [((g : Int) + 1, row)]) (g + 1) f' → Frm f H H' → Nw H f f' → H p = none → H' p = some (.tup [.int ((g : Int) + 1), .int (hdPutT h (thOf cols ws ((g : Int) + 1, row)) hd)]) → Q (.ref p) H'
def sp_Store_put : Sp := fun vs H Q _ => ∃ (x sh : Addr) (h : Sh) (cols : Cols) (ws : List Str) (hd : Hd) (rs : Rs) (g : Nat) (f : List Addr) (v : V) (row : List Key), vs = [.ref x, v] ∧ P hd ∧ StAt K c H x sh h cols ws hd rs g f ∧ RowAt H v row ∧ RowK cols row ∧ g < 60 ∧ HdOk (kdsOf cols ws) hd ∧
  ∀ p f' H', StAt K c H' x sh h cols ws (hdPut h (thOf cols ws ((g : Int) + 1, row)) hd) (rs ++ [((g : Int) + 1, row)]) (g + 1) f' → Frm f H H' → Nw H f f' → H p = none → H' p = some (.tup [.int ((g : Int) + 1), .int (hdPutT h (thOf cols ws ((g : Int) + 1, row)) hd)]) → Q (.ref p) H'
def sp_Store_drop : Sp := fun vs H Q _ => ∃ (x sh : Addr) (h : Sh) (cols : Cols) (ws : List Str) (hd : Hd) (rs : Rs) (g : Nat) (f : List Addr) (n : Int) (row : List Key), vs = [.ref x, .int n] ∧ P hd ∧ StAt K c H x sh h cols ws hd rs g f ∧ rsAt rs n = some row ∧ HdOk (kdsOf cols ws) hd ∧ HdHas (thOf cols ws (n, row)) hd ∧
  ∀ f' H', StAt K c H' x sh h cols ws (hdDrop (thOf cols ws (n, row)) hd) (rsDrop rs n) g f' → Frm f H H' → Nw H f f' → Q (.int (hdDropT h (thOf cols ws (n, row)) hd)) H'

def hdChg (h : Sh) (cols : Cols) (ws : List Str) (n : Int) (row row' : List Key) (w : Str) (hd : Hd) : Hd := if row' = row then hd else if w ∈ ws then hdPut h (thOf cols ws (n, row')) (hdDrop (thOf cols ws (n, row)) hd) else hd
def hdChgT (h : Sh) (cols : Cols) (ws : List Str) (n : Int) (row row' : List Key) (w : Str) (hd : Hd) : Int := if row' = row then 0 else if w ∈ ws then hdDropT h (thOf cols ws (n, row)) hd + hdPutT h (thOf cols ws (n, row')) (hdDrop (thOf cols ws (n, row)) hd) else 2
def newRow (cols : Cols) (row : List Key) (w : Str) (v : Key) : List Key := row.set ((cols.map (·.1)).idxOf w) v
def sp_Store_change : Sp := fun vs H Q _ => ∃ (x sh : Addr) (h : Sh) (cols : Cols) (ws : List Str) (hd : Hd) (rs : Rs) (g : Nat) (f : List Addr) (n : Int) (row : List Key) (w : Str) (v : Key), vs = [.ref x, .int n, .str w, kV v] ∧ P hd ∧ StAt K c H x sh h cols ws hd rs g f ∧ rsAt rs n = some row ∧ w ∈ cols.map (·.1) ∧ RowK cols (newRow cols row w v) ∧
  (newRow cols row w v ≠ row → w ∈ ws → HdOk (kdsOf cols ws) hd ∧ HdHas (thOf cols ws (n, row)) hd ∧ HdOk (kdsOf cols ws) (hdDrop (thOf cols ws (n, row)) hd)) ∧
  ∀ f' H', StAt K c H' x sh h cols ws (hdChg h cols ws n row (newRow cols row w v) w hd) (rsSet rs n (newRow cols row w v)) g f' → Frm f H H' → Nw H f f' → Q (.int (hdChgT h cols ws n row (newRow cols row w v) w hd)) H'

def Ng : Own (List Int) := fun H a ns f => f = [a] ∧ H a = some (.lst (ns.map V.int))
def numsOf (ps : Pgs) : List (List Int) := ps.map fun p => p.map (·.2)
def sp_pages_of_things : Sp := fun vs H Q _ => ∃ (y : Addr) (h : Sh) (hd : Hd) (ks : List Str) (f : List Addr), vs = [.str hd.kind, .ref y] ∧ P hd ∧ HdAt c H y h hd f ∧ HdOk ks hd ∧ ∀ b f' H', Same H H' → Ch H' b hd.pgs f' → (∀ z ∈ f', H z = none) → Q (.ref b) H'
def sp_Store_pages : Sp := fun vs H Q _ => ∃ (x sh : Addr) (h : Sh) (cols : Cols) (ws : List Str) (hd : Hd) (rs : Rs) (g : Nat) (f : List Addr), vs = [.ref x] ∧ P hd ∧ StAt K c H x sh h cols ws hd rs g f ∧ HdOk (kdsOf cols ws) hd ∧ ∀ b f' H', Same H H' → LOf Ng H' b (numsOf hd.pgs) f' → (∀ z ∈ f', H z = none) → Q (.ref b) H'

def NrAt (H : Hp) (v : V) (p : Int × List Key) : Prop := ∃ q r, v = .ref q ∧ H q = some (.tup [.int p.1, .ref r]) ∧ H r = some (.tup (p.2.map kV))
def Nrs (H : Hp) : List V → Rs → Prop := Paired (NrAt H)
def sp_Store_all_rows : Sp := fun vs H Q _ => ∃ (x sh : Addr) (h : Sh) (cols : Cols) (ws : List Str) (hd : Hd) (rs : Rs) (g : Nat) (f : List Addr), vs = [.ref x] ∧ StAt K c H x sh h cols ws hd rs g f ∧ ∀ b xs H', Same H H' → H b = none → H' b = some (.lst xs) → Nrs H' xs rs → Q (.ref b) H'
end
theorem ngOk : OwnOk Ng where
  frm := by
    rintro H H' a d f g ⟨rfl, h⟩ k ds
    exact ⟨rfl, k.keep _ _ (fun z => ds a (by simp) z) h⟩
  liv := by
    rintro H a d f ⟨rfl, h⟩ x hx
    rw [List.mem_singleton.mp hx]; exact ⟨_, h⟩
  slf := by
    rintro H a d f ⟨rfl, h⟩
    exact ⟨by simp, _, h⟩
theorem NrAt.frm {g : List Addr} {H H' : Hp} {v : V} {p : Int × List Key} (h : NrAt H v p) (F : Frm g H H') : NrAt H' v p := by
  obtain ⟨q, r, e, h1, h2⟩ := h
  exact ⟨q, r, e, F.tups _ _ h1, F.tups _ _ h2⟩
theorem Nrs.frm {g : List Addr} {H H' : Hp} {vs : List V} {rs : Rs} (h : Nrs H vs rs) (F : Frm g H H') : Nrs H' vs rs := Paired.mono (fun _ _ z => NrAt.frm z F) h
end My

set_option Elab.async false
set_option linter.all false
set_option maxRecDepth 100000

namespace My
open PySem PySem.Spec PyProof.Rows L2
theorem key_vals {k : Key} (h : keyOk k) : ValS (kindOf k) (kV k) := by
  cases k with
  | inl i =>
    have e : kindOf (.inl i) = "number" := rfl
    unfold ValS
    rw [e, if_neg (by decide)]
    exact ⟨i, rfl, h.1, h.2⟩
  | inr x =>
    have e : kindOf (.inr x) = "word" := rfl
    unfold ValS
    rw [e, if_pos rfl]
    exact ⟨x, rfl, h⟩
theorem RowK.vals {cols : Cols} {row : List Key} (h : RowK cols row) : RowVals cols (row.map kV) := by
  intro j x c h1 h2
  rw [List.getElem?_map] at h1
  obtain ⟨k, hk, rfl⟩ := Option.map_eq_some_iff.mp h1
  have e : (row.map kindOf)[j]? = (cols.map (·.2))[j]? := by rw [h.1]
  rw [List.getElem?_map, List.getElem?_map, hk, h2] at e
  have e : kindOf k = c.2 := Option.some.inj e
  rw [← e]
  exact key_vals (h.2 k (List.mem_of_getElem? hk))
theorem row_tyd {H : Hp} {v : V} {cols : Cols} {row : List Key} (h : RowAt H v row) (hk : RowK cols row) : Tyd2 H v row.length := by
  obtain ⟨r, rfl, hr⟩ := h
  exact .tup hr (by rw [List.length_map]; exact Nat.le_refl _) (hk.vals.tyd (by rw [List.length_map]; exact hk.len) H)
theorem row_is {H : Hp} {v : V} {cols : Cols} {row : List Key} (h : RowAt H v row) (hk : RowK cols row) (kd : Kinds cols) : rowOf H cols v = true := by
  obtain ⟨r, rfl, hr⟩ := h
  rw [rowOf_tup hr]
  exact row_true (by rw [List.length_map]; exact hk.len) hk.vals kd
theorem RsOk.more {cols : Cols} {ws : List Str} {rs : Rs} {g : Nat} (h : RsOk cols ws rs g) (hg : g ≤ 60) : RsOk cols ws rs (g + 1) :=
  { h with num := fun p hp => by have := h.num p hp; omega, g60 := by omega }
structure StX (K : PySem.W.Frag) (c : Cz) (H : Hp) (x y : Addr) (h : Sh) (cols : Cols) (ws : List Str) (hd : Hd) (rs : Rs) (g : Nat) (dx fo kp hp d : Addr) (kvs : List (Key × V)) (fh : List Addr) : Prop where
  hx : H x = some (.ins c.st dx (stF hd.kind y fo kp hp d g))
  hf : FormAt H fo cols
  hk : SqK K H kp (ws.map V.str)
  hh : HdAt c H hp h hd fh
  hd : H d = some (.dK kvs)
  hr : RowsAt H kvs rs
  n1 : x ≠ d
  n2 : x ∉ fh
  n3 : d ∉ fh
  sh : ShAt c.sh H y h
  ok : ShOk h
  nf : y ∉ x :: d :: fh
  rs : RsOk cols ws rs g
section
variable {K : PySem.W.Frag} {c : Cz} {H H' : Hp} {x y : Addr} {h : Sh} {cols : Cols} {ws : List Str} {hd : Hd} {rs : Rs} {g : Nat} {dx fo kp hp d : Addr} {kvs : List (Key × V)} {fh f : List Addr}
theorem StAt.xs (S : StAt K c H x y h cols ws hd rs g f) : ∃ dx fo kp hp d kvs fh, f = x :: d :: fh ∧ StX K c H x y h cols ws hd rs g dx fo kp hp d kvs fh := by
  obtain ⟨dx, fo, kp, hp, d, kvs, fh, h1, h2, h3, h4, h5, h6, h7, h8, h9, rfl⟩ := S.ex
  exact ⟨dx, fo, kp, hp, d, kvs, fh, rfl, ⟨h1, h2, h3, h4, h5, h6, h7, h8, h9, S.sh, S.ok, S.nf, S.rs⟩⟩
theorem StX.st (S : StX K c H x y h cols ws hd rs g dx fo kp hp d kvs fh) : StAt K c H x y h cols ws hd rs g (x :: d :: fh) := ⟨⟨dx, fo, kp, hp, d, kvs, fh, S.hx, S.hf, S.hk, S.hh, S.hd, S.hr, S.n1, S.n2, S.n3, rfl⟩, S.sh, S.ok, S.nf, S.rs⟩
theorem StX.frm {gg : List Addr} (S : StX K c H x y h cols ws hd rs g dx fo kp hp d kvs fh) (F : Frm gg H H') (dd : Dis (x :: d :: fh) gg) (ns : y ∉ gg) : StX K c H' x y h cols ws hd rs g dx fo kp hp d kvs fh :=
  { S with
    hx := F.keep _ _ (fun z => dd _ List.mem_cons_self z) S.hx
    hf := S.hf.frm F
    hk := S.hk.frm F
    hh := S.hh.frm F fun y p q => dd y (List.mem_cons_of_mem _ (List.mem_cons_of_mem _ p)) q
    hd := F.keep _ _ (fun z => dd _ (List.mem_cons_of_mem _ List.mem_cons_self) z) S.hd
    hr := S.hr.frm F
    sh := S.sh.frm F ns }
theorem StX.same (S : StX K c H x y h cols ws hd rs g dx fo kp hp d kvs fh) (s : Same H H') : StX K c H' x y h cols ws hd rs g dx fo kp hp d kvs fh := S.frm (.of_same s : Frm [] H H') (fun _ _ z => nomatch z) (by simp)

theorem StX.held (S : StX K c H x y h cols ws hd rs g dx fo kp hp d kvs fh) {hd' : Hd} {fh' : List Addr} (hk : hd'.kind = hd.kind) (X' : HdAt c H' hp h hd' fh') (F : Frm fh H H') (N : Nw H fh fh') :
    StX K c H' x y h cols ws hd' rs g dx fo kp hp d kvs fh' ∧ Frm (x :: d :: fh) H H' ∧ Nw H (x :: d :: fh) (x :: d :: fh') := by
  have nn : ∀ z o, H z = some o → z ∉ fh → z ∉ fh' := fun z o e n q => by
    rcases N z q with w | w
    · exact n w
    · rw [e] at w; cases w
  obtain ⟨dy, ty, hy, hty⟩ := id S.sh
  have ny : y ∉ fh := fun z => S.nf (List.mem_cons_of_mem _ (List.mem_cons_of_mem _ z))
  refine ⟨{ S with
    hx := by rw [hk]; exact F.keep _ _ S.n2 S.hx
    hf := S.hf.frm F
    hk := S.hk.frm F
    hh := X'
    hd := F.keep _ _ S.n3 S.hd
    hr := S.hr.frm F
    n2 := nn _ _ S.hx S.n2
    n3 := nn _ _ S.hd S.n3
    sh := S.sh.frm F ny
    nf := fun z => by
      rcases List.mem_cons.mp z with z | z
      · exact S.nf (by rw [z]; exact List.mem_cons_self)
      · rcases List.mem_cons.mp z with z | z
        · exact S.nf (by rw [z]; exact List.mem_cons_of_mem _ List.mem_cons_self)
        · exact nn _ _ hy ny z }, F.mono fun z hz => List.mem_cons_of_mem _ (List.mem_cons_of_mem _ hz), fun z hz => ?_⟩
  rcases List.mem_cons.mp hz with rfl | hz
  · exact .inl List.mem_cons_self
  · rcases List.mem_cons.mp hz with rfl | hz
    · exact .inl (List.mem_cons_of_mem _ List.mem_cons_self)
    · rcases N z hz with q | q
      · exact .inl (List.mem_cons_of_mem _ (List.mem_cons_of_mem _ q))
      · exact .inr q

theorem StX.dict (S : StX K c H x y h cols ws hd rs g dx fo kp hp d kvs fh) {kvs' : List (Key × V)} {rs' : Rs} (hr : RowsAt H kvs' rs') (ok : RsOk cols ws rs' g) :
    StX K c (upd H d (.dK kvs')) x y h cols ws hd rs' g dx fo kp hp d kvs' fh ∧ Frm (x :: d :: fh) H (upd H d (.dK kvs')) := by
  have F : Frm [d] H (upd H d (.dK kvs')) := .upd S.hd (by simp) (fun _ z => by cases z)
  have ny : y ∉ [d] := fun z => S.nf (by rw [List.mem_singleton.mp z]; exact List.mem_cons_of_mem _ List.mem_cons_self)
  exact ⟨{ S with
    hx := F.keep _ _ (fun z => S.n1 (List.mem_singleton.mp z)) S.hx
    hf := S.hf.frm F
    hk := S.hk.frm F
    hh := S.hh.frm F fun z p q => S.n3 (by rw [← List.mem_singleton.mp q]; exact p)
    hd := upd_same
    hr := hr.frm F
    sh := S.sh.frm F ny
    rs := ok }, F.mono fun z hz => by rw [List.mem_singleton.mp hz]; exact List.mem_cons_of_mem _ List.mem_cons_self⟩

theorem StX.gave (S : StX K c H x y h cols ws hd rs g dx fo kp hp d kvs fh) (hg : g ≤ 60) :
    StX K c (upd H x (.ins c.st dx (stF hd.kind y fo kp hp d ((g : Int) + 1)))) x y h cols ws hd rs (g + 1) dx fo kp hp d kvs fh ∧ Frm (x :: d :: fh) H (upd H x (.ins c.st dx (stF hd.kind y fo kp hp d ((g : Int) + 1)))) := by
  have F : Frm [x] H (upd H x (.ins c.st dx (stF hd.kind y fo kp hp d ((g : Int) + 1)))) := .upd S.hx (by simp) (fun _ z => by cases z)
  have ny : y ∉ [x] := fun z => S.nf (by rw [List.mem_singleton.mp z]; exact List.mem_cons_self)
  exact ⟨{ S with
    hx := upd_same
    hf := S.hf.frm F
    hk := S.hk.frm F
    hh := S.hh.frm F fun z p q => S.n2 (by rw [← List.mem_singleton.mp q]; exact p)
    hd := F.keep _ _ (fun z => S.n1 (List.mem_singleton.mp z).symm) S.hd
    hr := S.hr.frm F
    sh := S.sh.frm F ny
    rs := S.rs.more hg }, F.mono fun z hz => by rw [List.mem_singleton.mp hz]; exact List.mem_cons_self⟩
theorem StX.get (S : StX K c H x y h cols ws hd rs g dx fo kp hp d kvs fh) {n : Int} {row : List Key} (e : rsAt rs n = some row) : ∃ v, DGet H d (.int n) (some v) ∧ RowAt H v row := by
  obtain ⟨v, hv, hr⟩ := S.hr.get e
  exact ⟨v, by have := DGet.k (k := .inl n) S.hd; rw [hv] at this; exact this, hr⟩
end
theorem hdPut_kind (h : Sh) (t : Th) (hd : Hd) : (hdPut h t hd).kind = hd.kind := by cases hd <;> rfl
theorem hdDrop_kind (t : Th) (hd : Hd) : (hdDrop t hd).kind = hd.kind := by cases hd <;> rfl
theorem rsAt_new {rs : Rs} {n : Int} {row : List Key} (h : ∀ p ∈ rs, p.1 ≠ n) : rsAt (rs ++ [(n, row)]) n = some row := by
  induction rs with
  | nil => exact rsAt_pos rfl
  | cons p r ih => rw [List.cons_append, rsAt_neg (h p List.mem_cons_self)]; exact ih fun q hq => h q (List.mem_cons_of_mem _ hq)
theorem rsAt_set {rs : Rs} {n : Int} {row row0 : List Key} (h : rsAt rs n = some row0) : rsAt (rsSet rs n row) n = some row := by
  induction rs with
  | nil => cases h
  | cons p r ih =>
    unfold rsSet
    rw [List.map_cons]
    by_cases c : p.1 = n
    · rw [if_pos c]; exact rsAt_pos c
    · rw [if_neg c, rsAt_neg c]
      rw [rsAt_neg c] at h
      exact ih h
theorem rsSet_same {rs : Rs} {n : Int} {row : List Key} (hp : rs.Pairwise fun p q => p.1 < q.1) (h : rsAt rs n = some row) : rsSet rs n row = rs := by
  unfold rsSet
  refine (List.map_congr_left fun p hp' => ?_).trans (List.map_id' rs)
  by_cases c : p.1 = n
  · rw [if_pos c]
    have m := rsAt_mem h
    by_cases e : p = (n, row)
    · rw [e]
    · exfalso
      obtain ⟨i, hi, e1⟩ := List.getElem_of_mem hp'
      obtain ⟨j, hj, e2⟩ := List.getElem_of_mem m
      have pw := List.pairwise_iff_getElem.mp hp
      rcases Nat.lt_trichotomy i j with q | q | q
      · have := pw i j hi hj q; rw [e1, e2] at this; simp only at this; omega
      · subst q; exact e (e1.symm.trans e2)
      · have := pw j i hj hi q; rw [e1, e2] at this; simp only at this; omega
  · rw [if_neg c]
end My

set_option Elab.async false
set_option linter.all false
set_option maxRecDepth 100000

namespace My
open PySem PySem.Spec PyProof.Rows L2
theorem in_strs (x : Str) (ws : List Str) : inV (.str x) (ws.map V.str) = decide (x ∈ ws) := by
  induction ws with
  | nil => rfl
  | cons c r ih =>
    rw [List.map_cons, inV, List.any_cons]
    rw [inV] at ih
    rw [ih]
    have e : eqV (V.str c) (V.str x) = decide (c = x) := rfl
    rw [e]
    by_cases z : c = x
    · simp [z]
    · have z' : ¬ x = c := fun y => z y.symm
      simp [z, z']
def rowD (row : List Key) : PyData := .tuple (row.map dK)
theorem RowAt.dt {H : Hp} {v : V} {row : List Key} (h : RowAt H v row) : Dt H v (rowD row) := by
  obtain ⟨r, rfl, hr⟩ := h
  exact .tup hr (keys_dt _)
theorem row_shaped {cols : Cols} {row : List Key} (hk : RowK cols row) (c6 : cols.length ≤ 6) : SeqAt.shaped (rowD row) = true := keysShaped hk.2 (by rw [hk.len]; omega)
theorem row_eqv (a b : List Key) : PyData.eqv (rowD a) (rowD b) = decide (a = b) := by
  rw [rowD, rowD, PyData.eqv, eqv_keys]
def nrD (p : Int × List Key) : PyData := .tuple [.int p.1, rowD p.2]
theorem NrAt.dt {H : Hp} {v : V} {p : Int × List Key} (h : NrAt H v p) : Dt H v (nrD p) := by
  obtain ⟨q, r, rfl, h1, h2⟩ := h
  exact .tup h1 (.cons (.int _) (.cons (.tup h2 (keys_dt _)) .nil))
theorem Nrs.dt {H : Hp} : ∀ {vs : List V} {rs : Rs}, Nrs H vs rs → DtAll H vs (rs.map nrD)
  | _, _, .nil => .nil
  | _, _, .cons h r => .cons (NrAt.dt h) (Nrs.dt r)
end My
namespace My
open PySem PySem.W PyProof.Rows PySem.Spec L2

structure NrV (h : Heap) (v : Value) (p : Int × List Key) (q : Value) : Prop where
  ex : ∃ a b o o' vs n n' tk, v = .ref a ∧ q = .int p.1 tk ∧ h.get? a = some o ∧ o.cls = .type "tuple" ∧ o.data = .seq #[.int p.1 tk, .ref b] n ∧ h.get? b = some o' ∧ o'.cls = .type "tuple" ∧ o'.data = .seq (List.toArray vs) n' ∧ Vals (p.2.map kV) vs
theorem NrV.keep {h h' : Heap} {v q : Value} {p : Int × List Key} (x : NrV h v p q) (k : G.KeepsTups h h') : NrV h' v p q := by
  obtain ⟨a, b, o, o', vs, n, n', tk, e1, e2, h1, h2, h3, h4, h5, h6, h7⟩ := x.ex
  exact ⟨a, b, o, o', vs, n, n', tk, e1, e2, k _ _ h1 h2, h2, h3, k _ _ h4 h5, h5, h6, h7⟩
theorem NrAt.v {X : Cx} {pins : List (Addr × Obj)} {σ : L2.St} {H : Hp} {s : Shared} (I : Inv X pins σ H s) {v : V} {t : Int × List Key} {u : Value} (h : NrAt H v t) (r : L2.RelV v u) : ∃ q, NrV s.heap u t q := by
  obtain ⟨p, q, rfl, hp, hq⟩ := h
  cases (r : _ = _)
  obtain ⟨its, rv, ⟨o, ho, hc, n, hd⟩, _⟩ := I.tuple (SqT.of (K := X.K) hp)
  obtain ⟨its2, rv2, ⟨o2, ho2, hc2, n2, hd2⟩, _⟩ := I.tuple (SqT.of (K := X.K) hq)
  cases rv with
  | cons r1 rv =>
  cases rv with
  | cons r2 rv =>
  cases rv
  cases (r2 : _ = _)
  obtain ⟨tk, rfl⟩ := r1
  exact ⟨.int _ tk, p, q, o, o2, its2, n, n2, tk, rfl, rfl, ho, hc, hd, ho2, hc2, hd2, rv2⟩
theorem ask_nr {prog : Program} {w : World} {A : Around} {s : Shared} {x y q q' : Value} {a b : Int × List Key} {C : Bool → Shared → Prop} (hu : A.units + 70 < cLine) (hx : NrV s.heap x a q) (hy : NrV s.heap y b q') (hab : a.1 = b.1 → a.2 = b.2) (ok : ∀ k ∈ a.2, keyOk k) (hl : a.2.length ≤ 1000)
    (h : C (decide (a.1 < b.1)) s) : wpAny (model prog w) A (keyLt' (tuples' true) x y) C (fun _ _ => False) s := by
  obtain ⟨p, i, o, o', vs, n, n', tk, rfl, rfl, h1, h2, h3, h4, h5, h6, h7⟩ := hx.ex
  obtain ⟨p2, i2, o2, o2', vs2, m, m', tk2, rfl, rfl, g1, g2, g3, g4, g5, g6, g7⟩ := hy.ex
  refine kat_lt h1 h3 g1 g3 ?_
  show KatLex prog w A true _ C [(.int a.1 tk, .int b.1 tk2), (.ref i, .ref i2)] 0 s
  refine kat_cons (SeqAt.EqAt.int_int a.1 tk b.1 tk2 prog w _ _ (kat_go (fun e => ?_) (fun e => ?_)))
  · have e1 : a.1 = b.1 := by simpa using e
    have e2 := hab e1
    obtain ⟨as1, ra⟩ := reads_keys (h := s.heap) h7
    obtain ⟨as2, rb⟩ := reads_keys (h := s.heap) g7
    have ea : SeqAt.EqAt A s (.ref i) (.ref i2) true := by
      have sa := SeqAt.canLay_of_shaped (keysShaped ok hl)
      have sb := SeqAt.canLay_of_shaped (keysShaped (ks := b.2) (by rw [← e2]; exact ok) (by rw [← e2]; exact hl))
      have := SeqAt.eqAt_reads (.tuple (a.2.map dK)) (.tuple (b.2.map dK)) A s (.ref i) (.ref i2) _ _ (Reads.tuple h4 h5 h6 ra) (Reads.tuple g4 g5 g6 rb) sa sb (SeqAt.room_of_shaped (keysShaped ok hl) (by omega))
      rw [PyData.eqv, eqv_keys, decide_eq_true e2] at this
      exact this
    refine kat_yes (kat_cons (ea prog w _ _ (kat_go (fun _ => ?_) (fun z => by cases z))))
    refine kat_yes (kat_nil ?_)
    have : decide ((#[Value.int a.1 tk, Value.ref i] : Array Value).size < (#[Value.int b.1 tk2, Value.ref i2] : Array Value).size) = decide (a.1 < b.1) := by rw [e1]; simp
    rw [this]; exact h
  · exact kat_no (oneLt_int h)
theorem nr_kind {M : Model} {A : Around} {E : Value → Shared → Prop} {s : Shared} {us : List Value} {qs : List Value} {Q : SortKind → Shared → Prop} (h : Paired (fun u q => ∃ t, NrV s.heap u t q) us qs) (hn : 0 < qs.length) (hq : Q (tuples' true) s) : wpAny M A (keyKind' us.toArray) Q E s := by
  refine kat_kind (T := .type "int") (fs := qs) ?_ hn ?_ (by decide) hq
  · clear hn hq
    induction h with
    | nil => exact .nil
    | cons r _ ih =>
      obtain ⟨t, ht⟩ := r
      obtain ⟨p, a, o, o', vs, n, n', tk, rfl, rfl, h1, h2, h3, h4, h5, h6, h7⟩ := ht.ex
      exact .cons h1 h2 h3 rfl ih
  · clear hn hq
    intro v hv
    induction h with
    | nil => cases hv
    | cons r _ ih =>
      rcases List.mem_cons.mp hv with rfl | hv
      · obtain ⟨t, ht⟩ := r
        obtain ⟨p, a, o, o', vs, n, n', tk, rfl, rfl, h1, h2, h3, h4, h5, h6, h7⟩ := ht.ex
        exact .now
      · exact ih hv
end My
namespace L2
open PySem PySem.W PyProof.Rows PySem.Spec My
section
variable {X : Cx}

def rSortNr (K : PySem.W.Frag) : List V → Hp → VK → Prop := fun vs H Q => ∃ (a : Addr) (xs : List V) (rs : Rs), vs = [.ref a] ∧ (SqL K H a xs ∨ SqT K H a xs) ∧ Nrs H xs rs ∧ (∀ p ∈ rs, (∀ k ∈ p.2, keyOk k) ∧ p.2.length ≤ 1000) ∧ rs.Pairwise (fun p q => p.1 < q.1) ∧ rs.length ≤ 1000 ∧ ∀ p, H p = none → Q (.ref p) (upd H p (.lst xs))
theorem cr_sortedNr (hu : X.A.units + 80 < cLine) : CallR X (.builtin "sorted") (rSortNr X.K) := by
  constructor
  intro pins s σ H vs us Q I r h
  obtain ⟨a, xs, ts, rfl, ha, hT, hk, hris, hz, q⟩ := h
  obtain ⟨u, rfl, ru⟩ := vals1 r
  cases (ru : _ = _)
  obtain ⟨its, o, n, T, rv, ob, hTy, hcl, hda⟩ : ∃ (its : List Value) (o : Obj) (n : Nat) (T : String), Vals xs its ∧ s.heap.get? a = some o ∧ (T = "list" ∨ T = "tuple") ∧ o.cls = .type T ∧ o.data = .seq its.toArray n := by
    rcases ha with ha | ha
    · obtain ⟨its, r', pl, hz⟩ := I.list ha
      obtain ⟨o, ho, hc, n, hd⟩ := pl.isList
      exact ⟨its, o, n, _, r', ho, .inl rfl, hc, hd⟩
    · obtain ⟨its, r', pl, hz⟩ := I.tuple ha
      obtain ⟨o, ho, hc, n, hd⟩ := pl
      exact ⟨its, o, n, _, r', ho, .inr rfl, hc, hd⟩
  have hl := rv.length
  have hlt : xs.length = ts.length := Paired.length hT
  have hlit : its.length = ts.length := by omega
  have tv : ∀ i, i < its.length → ∃ q, NrV s.heap (its.getD i Value.none) (ts.getD i (0, [])) q := fun i hi => by
    obtain ⟨x, e1, e2⟩ := vals_getD rv (i := i) (by omega)
    obtain ⟨t, e3, e4⟩ := Paired.getL hT e1
    have et : ts.getD i (0, []) = t := by rw [List.getD_eq_getElem?_getD, e3]; rfl
    rw [et]
    exact NrAt.v I e4 e2
  have gd : ∀ i, (h : i < ts.length) → ts.getD i (0, []) = ts[i] := fun i h => by rw [List.getD_eq_getElem?_getD, List.getElem?_eq_getElem h]; rfl
  have prs : ∀ (xs : List V) (its : List Value) (ts : Rs), Vals xs its → Nrs H xs ts → ∃ qs, Paired (fun u q => ∃ t, NrV s.heap u t q) its qs := by
    intro xs its ts rv hT
    induction rv generalizing ts with
    | nil => exact ⟨[], .nil⟩
    | cons r _ ih =>
      cases hT with
      | cons h1 h2 =>
        obtain ⟨qs, hq⟩ := ih _ h2
        obtain ⟨q, hq1⟩ := NrAt.v I h1 r
        exact ⟨q :: qs, .cons ⟨_, hq1⟩ hq⟩
  obtain ⟨qs, hqs⟩ := prs xs its ts rv hT
  have hql := Paired.length hqs
  have pw := List.pairwise_iff_getElem.mp hris
  have inj : ∀ i j, i < ts.length → j < ts.length → (ts.getD i (0, [])).1 = (ts.getD j (0, [])).1 → i = j := fun i j hi hj e => by
    rw [gd i hi, gd j hj] at e
    rcases Nat.lt_trichotomy i j with c | c | c
    · have := pw i j hi hj c; omega
    · exact c
    · have := pw j i hj hi c; omega
  have TB : TotB its.length (fun i j => decide ((ts.getD i (0, [])).1 < (ts.getD j (0, [])).1)) := by
    rw [hlit]
    refine ⟨fun i j hi hj h => ?_, fun i j hi hj hij h => ?_, fun i j k hi hj hk h1 h2 => ?_⟩
    · have h := of_decide_eq_true h
      exact decide_eq_false (by omega)
    · have h := of_decide_eq_false h
      have : (ts.getD i (0, [])).1 ≠ (ts.getD j (0, [])).1 := fun e => hij (inj i j hi hj e)
      exact decide_eq_true (by omega)
    · have h1 := of_decide_eq_true h1
      have h2 := of_decide_eq_true h2
      exact decide_eq_true (by omega)
  refine sortedRise (kd := tuples' true) (lt := fun i j => decide ((ts.getD i (0, [])).1 < (ts.getD j (0, [])).1)) (vs := its) ob hTy hcl hda (by omega) TB (fun i j hij hj => ?_) (fun h2 s₂ Q' k hq => ?_) (fun s₂ i j C k hi hj hc => ?_) ?_
  · rw [gd i (by omega), gd j (by omega)]
    exact decide_eq_true (pw i j _ _ hij)
  · exact nr_kind (Paired.mono (fun u q ⟨t, ht⟩ => ⟨t, ht.keep k⟩) hqs) (by omega) hq
  · obtain ⟨q1, v1⟩ := tv i hi
    obtain ⟨q2, v2⟩ := tv j hj
    have okk := hk (ts.getD i (0, [])) (by rw [gd i (by omega)]; exact List.getElem_mem _)
    exact ask_nr (by show X.A.units + 1 + 1 + 70 < cLine; omega) (v1.keep k) (v2.keep k) (fun e => by rw [inj i j (by omega) (by omega) e]) okk.1 okk.2 hc
  · obtain ⟨ep, he⟩ := PyProof.Rows.sortedAll_at s.heap its its.toArray
    have hlen : xs.length ≤ sizeLine := by have := sizeLine_eq; omega
    exact ⟨.ref _, upd H (s.heap.objs.size + 1) (.lst xs), I.laid (t' := s.toks) sortedAll_keep (Nat.le_succ _) ⟨hlen, its, ep, rv, by simpa using he⟩, rfl, q _ (I.hok.fresh (Nat.le_succ _))⟩
end
end L2

set_option Elab.async false
set_option linter.all false
set_option maxRecDepth 100000

namespace My
open PySem PySem.Spec PyProof.Rows L2
theorem bins_len {bs : List Pgs} (h : BinsOk bs) : bs.flatten.length ≤ 1600 := by
  have key : ∀ bs : List Pgs, (∀ ps ∈ bs, PgsOk ps) → bs.flatten.length ≤ bs.length * 200 := by
    intro bs
    induction bs with
    | nil => intro _; simp
    | cons p r ih =>
      intro h
      have h1 := (h p List.mem_cons_self).len
      have h2 := ih fun q hq => h q (List.mem_cons_of_mem _ hq)
      rw [List.flatten_cons, List.length_append, List.length_cons]
      omega
  have := key bs h.ok
  have := h.hi
  omega
theorem hd_len {ks : List Str} {hd : Hd} (h : HdOk ks hd) : hd.pgs.length ≤ 1600 := by
  cases hd with
  | heap ps => have := PgsOk.len h; show ps.length ≤ 1600; omega
  | run ls => have := LsK.len h; show ls.length ≤ 1600; omega
  | bk bs => exact bins_len h
theorem hd_pg {ks : List Str} {hd : Hd} (h : HdOk ks hd) : ∀ p ∈ hd.pgs, p.length ≤ 200 := by
  intro p hp
  cases hd with
  | heap ps => exact (PgsOk.pg h p hp).1
  | run ls => have := (LsK.pg h p hp).2.1; omega
  | bk bs =>
    obtain ⟨q, hq, hpq⟩ := List.mem_flatten.mp (show p ∈ bs.flatten from hp)
    exact ((BinsOk.ok h q hq).pg p hpq).1
end My
namespace My
open PySem PySem.Spec PyProof.Rows L2
theorem rsAt_in {rs : Rs} (hr : rs.Pairwise fun p q => p.1 < q.1) {p : Int × List Key} (h : p ∈ rs) : rsAt rs p.1 = some p.2 := by
  induction rs with
  | nil => cases h
  | cons q r ih =>
    obtain ⟨a, b⟩ := List.pairwise_cons.mp hr
    rcases List.mem_cons.mp h with rfl | h
    · exact rsAt_pos rfl
    · rw [rsAt_neg (by have := a p h; omega)]
      exact ih b h
theorem keys_sorted {rs : Rs} (hr : rs.Pairwise fun p q => p.1 < q.1) : srtK (rs.map fun q => Sum.inl q.1) = rs.map fun q => (Sum.inl q.1 : Key) := by
  have r1 : RisK (rs.map fun q => (Sum.inl q.1 : Key)) := by
    unfold RisK
    rw [List.pairwise_map]
    exact hr.imp fun {a b} h => decide_eq_true h
  have nd : (rs.map fun q => (Sum.inl q.1 : Key)).Nodup := by
    refine List.Pairwise.imp ?_ r1
    intro a b h e
    subst e
    have := keyLt_asym h
    rw [h] at this; cases this
  refine risK_uniq (srtK_perm _) (srtK_ris (kd := "number") (fun k hk => ?_) nd) r1
  obtain ⟨q, _, rfl⟩ := List.mem_map.mp hk
  rfl
end My
namespace L2
open PySem PySem.Spec PyProof.Rows
theorem pe_fldK {X : Cx} {K : PySem.W.Frag} {e : Expr} {f : Str} {pos : Pos} {ta : TE} (he : PE X e ta) (hb : attributeBase e f X.env (eval e X.env) = eval e X.env) (hK : X.K = K := by rfl) : PE X (.Attribute e f pos) (tFld K ta f) := by
  subst hK; exact pe_fld he hb
end L2
namespace My
open PySem PySem.Spec PyProof.Rows L2
theorem rows_at {H : Hp} {kvs : List (Key × V)} {rs : Rs} (h : RowsAt H kvs rs) (hr : rs.Pairwise fun p q => p.1 < q.1) {i : Nat} {n : Int} {v : V} (e : kvs[i]? = some (.inl n, v)) : valV kvs (.inl n) = some v := by
  unfold RowsAt at h
  induction h generalizing i with
  | nil => cases e
  | @cons a b l₁ l₂ r t ih =>
    obtain ⟨k0, v0⟩ := a
    have e0 : k0 = Sum.inl b.1 := r.1
    obtain ⟨p1, p2⟩ := List.pairwise_cons.mp hr
    cases i with
    | zero =>
      simp only [List.getElem?_cons_zero, Option.some.injEq, Prod.mk.injEq] at e
      obtain ⟨rfl, rfl⟩ := e
      exact valV_pos rfl
    | succ i =>
      simp only [List.getElem?_cons_succ] at e
      obtain ⟨q, hq, e2⟩ := Paired.getL t e
      have e2 : (Sum.inl n : Key) = Sum.inl q.1 := e2.1
      have e3 : n = q.1 := by cases e2; rfl
      have := p1 q (List.mem_of_getElem? hq)
      rw [valV_neg (show k0 ≠ Sum.inl n from fun z => by rw [e0] at z; cases z; omega)]
      exact ih p2 e
end My

set_option Elab.async false
set_option linter.all false
set_option maxRecDepth 100000

namespace My
open PySem PySem.Spec PyProof.Rows L2
def roomN (cap : Nat) (ps : List (List Int)) : Nat := ps.findIdx fun p => decide (p.length < cap)
def nmPut (cap : Nat) (n : Int) (ps : List (List Int)) : List (List Int) := if roomN cap ps < ps.length then ps.set (roomN cap ps) (ps.getD (roomN cap ps) [] ++ [n]) else ps ++ [[n]]
def nmTo (cap : Nat) (ps : List (List Int)) : Int := if roomN cap ps < ps.length then (if ps.getD (roomN cap ps) [] = [] then 1 else 2) else 1
def nmDrop (n : Int) (ps : List (List Int)) : List (List Int) := ps.map fun p => p.erase n
def sp_law_heap_put : Sp := fun vs H Q _ => ∃ (a : Addr) (c n : Int) (ps : List (List Int)) (f : List Addr), vs = [.ref a, .int c, .int n] ∧ LOf Ng H a ps f ∧ 0 ≤ c ∧ ps.length ≤ 1000 ∧ (∀ p ∈ ps, p.length ≤ 1000) ∧
  ∀ f' H', LOf Ng H' a (nmPut c.toNat n ps) f' → Frm f H H' → Nw H f f' → Q (.int (nmTo c.toNat ps)) H'
def sp_law_heap_drop : Sp := fun vs H Q _ => ∃ (a : Addr) (n : Int) (ps : List (List Int)) (f : List Addr), vs = [.ref a, .int n] ∧ LOf Ng H a ps f ∧ ps.length ≤ 1000 ∧ (∀ p ∈ ps, p.length ≤ 1000) ∧
  ∀ f' H', LOf Ng H' a (nmDrop n ps) f' → Frm f H H' → Nw H f f' → Q (.int 2) H'
theorem room_nums (cap : Nat) (ps : Pgs) : roomN cap (numsOf ps) = roomAt cap ps := by
  unfold roomN roomAt numsOf
  rw [List.findIdx_map]
  congr 1
  funext p
  simp
theorem nums_getD (ps : Pgs) (i : Nat) : (numsOf ps).getD i [] = (ps.getD i []).map (·.2) := by
  unfold numsOf
  rw [List.getD_eq_getElem?_getD, List.getD_eq_getElem?_getD, List.getElem?_map]
  cases ps[i]? <;> rfl
theorem nums_put (cap : Nat) (t : Th) (ps : Pgs) : nmPut cap t.2 (numsOf ps) = numsOf (hpPut cap t ps) := by
  unfold nmPut hpPut
  rw [room_nums]
  have e : (numsOf ps).length = ps.length := by unfold numsOf; rw [List.length_map]
  rw [e]
  split
  · rw [nums_getD]
    unfold numsOf
    rw [List.map_set, List.map_append]; rfl
  · unfold numsOf
    rw [List.map_append]; rfl
theorem nums_to (cap : Nat) (ps : Pgs) : nmTo cap (numsOf ps) = hpTo cap ps := by
  unfold nmTo hpTo
  rw [room_nums, nums_getD]
  have e : (numsOf ps).length = ps.length := by unfold numsOf; rw [List.length_map]
  rw [e]
  split
  · simp
  · rename_i h
    rw [List.getD_eq_getElem?_getD, List.getElem?_eq_none (by omega)]
    simp
theorem set_nil_flat {α : Type} : ∀ (ps : List (List α)) (i : Nat), (ps.set i []).flatten = (ps.eraseIdx i).flatten
  | [], _ => rfl
  | p :: r, 0 => by simp
  | p :: r, i + 1 => by simp [set_nil_flat r i]
theorem hp_flat (t : Th) (ps : Pgs) : (hpDrop t ps).flatten = (dropPg t ps).flatten := by
  unfold hpDrop dropPg
  split
  · rename_i h; rw [h, set_nil_flat]
  · rfl

structure HeapIn (m g : Nat) (rs : Rs) (ps : Pgs) : Prop where
  perm : ps.flatten.Perm (rs.map fun p => (([], p.1) : Th))
  len : ps.length ≤ g
  pg : ∀ p ∈ ps, p.length ≤ m
theorem HeapIn.nil (m : Nat) : HeapIn m 0 [] [] := ⟨.refl _, Nat.le_refl _, fun p h => nomatch h⟩
theorem HeapIn.thok {m g : Nat} {rs : Rs} {ps : Pgs} (h : HeapIn m g rs ps) (hn : ∀ p ∈ rs, 1 ≤ p.1 ∧ p.1 ≤ 999) : ∀ p ∈ ps, ∀ t ∈ p, ThOk t := fun p hp t ht => by
  have : t ∈ ps.flatten := List.mem_flatten.mpr ⟨p, hp, ht⟩
  obtain ⟨q, hq, rfl⟩ := List.mem_map.mp (h.perm.mem_iff.mp this)
  have := hn q hq
  exact ⟨by simp, by simp, this.1, this.2⟩
theorem HeapIn.ok {m g : Nat} {rs : Rs} {ps : Pgs} (h : HeapIn m g rs ps) (hn : ∀ p ∈ rs, 1 ≤ p.1 ∧ p.1 ≤ 999) (hg : g ≤ 100) (hm : m ≤ 100) (hl : rs.length ≤ 100) : PgsOk ps :=
  ⟨by have := h.len; omega, by rw [h.perm.length_eq, List.length_map]; omega, fun p hp => ⟨by have := h.pg p hp; omega, h.thok hn p hp⟩⟩
theorem HeapIn.put {m g : Nat} {rs : Rs} {ps : Pgs} (h : HeapIn m g rs ps) (hm : 1 ≤ m) (n : Int) (row : List Key) : HeapIn m (g + 1) (rs ++ [(n, row)]) (hpPut m ([], n) ps) := by
  have e : hpPut m ([], n) ps = putPg m ([], n) ps := rfl
  refine ⟨?_, ?_, ?_⟩
  · rw [e, List.map_append]
    exact (put_perm m _ ps).trans (((List.perm_cons _).mpr h.perm).trans (List.perm_append_comm (l₁ := [(([], n) : Th)])))
  · have := h.len
    unfold hpPut
    split
    · rw [List.length_set]; omega
    · rw [List.length_append]; simp; omega
  · unfold hpPut
    intro p hp
    split at hp
    · rename_i hlt
      rcases List.mem_or_eq_of_mem_set hp with q | q
      · exact h.pg p q
      · rw [q, List.length_append]
        have e2 : ps.getD (roomAt m ps) [] = ps[roomAt m ps] := by rw [List.getD_eq_getElem?_getD, List.getElem?_eq_getElem hlt]; rfl
        have : decide (ps[roomAt m ps].length < m) = true := List.findIdx_getElem (p := fun (p : List Th) => decide (p.length < m)) (xs := ps) (w := hlt)
        have := of_decide_eq_true this
        rw [e2]; simp; omega
    · rcases List.mem_append.mp hp with q | q
      · exact h.pg p q
      · rw [List.mem_singleton.mp q]; simpa using hm
theorem HeapIn.has {m g : Nat} {rs : Rs} {ps : Pgs} (h : HeapIn m g rs ps) {n : Int} {row : List Key} (e : rsAt rs n = some row) : ∃ p ∈ ps, (([], n) : Th) ∈ p := by
  have : (([], n) : Th) ∈ ps.flatten := h.perm.mem_iff.mpr (List.mem_map.mpr ⟨_, rsAt_mem e, rfl⟩)
  exact List.mem_flatten.mp this
theorem rsDrop_perm {rs : Rs} (hr : rs.Pairwise fun p q => p.1 < q.1) {n : Int} {row : List Key} (e : rsAt rs n = some row) : rs.Perm ((n, row) :: rsDrop rs n) := by
  induction rs with
  | nil => cases e
  | cons p r ih =>
    obtain ⟨a, b⟩ := List.pairwise_cons.mp hr
    by_cases c : p.1 = n
    · rw [rsAt_pos c] at e
      cases e
      have : rsDrop (p :: r) n = r := by
        unfold rsDrop
        rw [List.filter_cons_of_neg (by simpa using c), List.filter_eq_self]
        intro q hq
        have := a q hq
        simp; omega
      rw [this, ← c]
    · rw [rsAt_neg c] at e
      have : rsDrop (p :: r) n = p :: rsDrop r n := by
        unfold rsDrop
        rw [List.filter_cons_of_pos (by simpa using c)]
      rw [this]
      exact ((List.perm_cons _).mpr (ih b e)).trans (.swap ..)
theorem HeapIn.drop {m g : Nat} {rs : Rs} {ps : Pgs} (h : HeapIn m g rs ps) (hr : rs.Pairwise fun p q => p.1 < q.1) {n : Int} {row : List Key} (e : rsAt rs n = some row) : HeapIn m g (rsDrop rs n) (hpDrop ([], n) ps) := by
  have hh := h.has e
  refine ⟨?_, ?_, ?_⟩
  · rw [hp_flat]
    have p1 := drop_perm hh
    have p2 := (rsDrop_perm hr e).map fun p => (([], p.1) : Th)
    exact (List.perm_cons _).mp (p1.symm.trans (h.perm.trans p2))
  · unfold hpDrop
    rw [List.length_set]; exact h.len
  · unfold hpDrop
    intro p hp
    rcases List.mem_or_eq_of_mem_set hp with q | q
    · exact h.pg p q
    · have hlt := page_lt hh
      rw [q, List.length_eraseIdx, getD_of (List.getElem?_eq_getElem hlt)]
      have := h.pg _ (List.getElem_mem hlt)
      split <;> omega
theorem HeapIn.nodup {m g : Nat} {rs : Rs} {ps : Pgs} (h : HeapIn m g rs ps) (hr : rs.Pairwise fun p q => p.1 < q.1) : (ps.flatten.map (·.2)).Nodup := by
  have p1 := h.perm.map (·.2)
  rw [List.map_map] at p1
  refine p1.nodup_iff.mpr ?_
  show (rs.map fun p => p.1).Nodup
  rw [List.Nodup, List.pairwise_map]
  exact hr.imp fun {a b} hab e => by omega
theorem erase_map {p : List Th} {n : Int} (hk : ∀ t ∈ p, t.1 = []) : (p.eraseIdx (idxTh ([], n) p)).map (·.2) = (p.map (·.2)).erase n := by
  induction p with
  | nil => rfl
  | cons t r ih =>
    have ht := hk t List.mem_cons_self
    unfold idxTh at ih ⊢
    rw [List.findIdx_cons, List.map_cons, List.erase_cons]
    by_cases c : t.2 = n
    · have e : t = ([], n) := by cases t; simp_all
      rw [decide_eq_true e]
      simp [c]
    · have e : t ≠ ([], n) := fun z => c (by rw [z])
      rw [decide_eq_false e]
      have : (t.2 == n) = false := by simpa using c
      simp only [this, cond_false, List.eraseIdx_cons_succ, List.map_cons]
      rw [ih fun t ht => hk t (List.mem_cons_of_mem _ ht)]
      rfl
theorem nums_drop {ps : Pgs} {n : Int} (hk : ∀ p ∈ ps, ∀ t ∈ p, t.1 = []) (hnd : (ps.flatten.map (·.2)).Nodup) (hh : ∃ p ∈ ps, (([], n) : Th) ∈ p) : nmDrop n (numsOf ps) = numsOf (hpDrop ([], n) ps) := by
  have hlt := page_lt hh
  have hin : (([], n) : Th) ∈ ps[pageAt ([], n) ps] := by
    have := List.findIdx_getElem (p := fun p => memB p (([], n) : Th)) (xs := ps) (w := hlt)
    exact memB_iff.mp this
  unfold nmDrop numsOf hpDrop
  rw [List.map_map, List.map_set, getD_of (List.getElem?_eq_getElem hlt), erase_map (hk _ (List.getElem_mem hlt))]
  refine List.ext_getElem? fun i => ?_
  rw [List.getElem?_map, List.getElem?_set, List.getElem?_map]
  by_cases c : pageAt ([], n) ps = i
  · subst c
    rw [if_pos rfl, if_pos (by rw [List.length_map]; exact hlt), List.getElem?_eq_getElem hlt]
    rfl
  · rw [if_neg c]
    cases e : ps[i]? with
    | none => rfl
    | some p =>
      have hni : n ∉ p.map (·.2) := fun z => by
        have hi : i < ps.length := (List.getElem?_eq_some_iff.mp e).1
        have ep : ps[i] = p := (List.getElem?_eq_some_iff.mp e).2
        have pw : (ps.map fun p => p.map (·.2)).flatten.Nodup := by
          rw [← List.map_flatten]; exact hnd
        have := (List.pairwise_flatten.mp pw).2
        have pw2 := List.pairwise_iff_getElem.mp this
        have d : ∀ a b : Nat, (ha : a < ps.length) → (hb : b < ps.length) → a < b → ∀ x ∈ ps[a].map (·.2), ∀ y ∈ ps[b].map (·.2), x ≠ y := fun a b ha hb hab => by
          have := pw2 a b (by rw [List.length_map]; exact ha) (by rw [List.length_map]; exact hb) hab
          simpa using this
        have m1 : n ∈ ps[pageAt ([], n) ps].map (·.2) := List.mem_map.mpr ⟨_, hin, rfl⟩
        have m2 : n ∈ ps[i].map (·.2) := by rw [ep]; exact z
        rcases Nat.lt_or_gt_of_ne c with q | q
        · exact d _ _ hlt hi q n m1 n m2 rfl
        · exact d _ _ hi hlt q n m2 n m1 rfl
      show some ((p.map (·.2)).erase n) = some (p.map (·.2))
      rw [List.erase_of_not_mem hni]
end My
namespace My
open PySem PySem.Spec PyProof.Rows L2
def halfD (n : Int) (ps : List (List Int)) (i : Nat) : List (List Int) := ps.mapIdx fun j p => if j < i then p.erase n else p
theorem half_0 (n : Int) (ps : List (List Int)) : halfD n ps 0 = ps := by
  unfold halfD
  refine List.ext_getElem? fun i => ?_
  rw [List.getElem?_mapIdx]
  cases ps[i]? <;> simp
theorem half_all (n : Int) (ps : List (List Int)) : halfD n ps ps.length = nmDrop n ps := by
  unfold halfD nmDrop
  refine List.ext_getElem? fun i => ?_
  rw [List.getElem?_mapIdx, List.getElem?_map]
  cases e : ps[i]? with
  | none => rfl
  | some p =>
    have := (List.getElem?_eq_some_iff.mp e).1
    simp [this]
theorem half_len (n : Int) (ps : List (List Int)) (i : Nat) : (halfD n ps i).length = ps.length := by unfold halfD; rw [List.length_mapIdx]
theorem half_at {n : Int} {ps : List (List Int)} {i : Nat} {d : List Int} (h : ps[i]? = some d) : (halfD n ps i)[i]? = some d := by
  unfold halfD
  rw [List.getElem?_mapIdx, h]; simp
theorem half_set {n : Int} {ps : List (List Int)} {i : Nat} {d : List Int} (h : ps[i]? = some d) : (halfD n ps i).set i (d.erase n) = halfD n ps (i + 1) := by
  refine List.ext_getElem? fun j => ?_
  rw [List.getElem?_set, half_len]
  have hi := (List.getElem?_eq_some_iff.mp h).1
  by_cases c : i = j
  · subst c
    rw [if_pos rfl, if_pos hi]
    unfold halfD
    rw [List.getElem?_mapIdx, h]; simp
  · rw [if_neg c]
    unfold halfD
    rw [List.getElem?_mapIdx, List.getElem?_mapIdx]
    cases ps[j]? with
    | none => rfl
    | some p =>
      have : (j < i) ↔ (j < i + 1) := by omega
      simp [this]
end My

set_option Elab.async false
set_option linter.all false
set_option maxRecDepth 100000

namespace My
open PySem PySem.Spec PyProof.Rows L2
inductive Ed where
  | put (row : List Key)
  | drop (n : Int) (row : List Key)
  | chg (n : Int) (row : List Key) (w : Str) (v : Key)
  | none
def EdAt (H : Hp) (p : Addr) : Ed → Prop
  | .put row => ∃ r, H p = some (.tup [.str "put", .ref r]) ∧ H r = some (.tup (row.map kV))
  | .drop n _ => H p = some (.tup [.str "drop", .int n])
  | .chg n _ w v => H p = some (.tup [.str "change", .int n, .str w, kV v])
  | .none => H p = some (.tup [.str "none"])
def EdOk (cols : Cols) (rs : Rs) (last : Int) : Ed → Prop
  | .put row => RowK cols row ∧ last < 60
  | .drop n row => rsAt rs n = some row
  | .chg n row w v => rsAt rs n = some row ∧ w ∈ cols.map (·.1) ∧ RowK cols (newRow cols row w v)
  | .none => rs = []
def sp_law_edit : Sp := fun vs H Q _ => ∃ (b a d : Addr) (last : Int) (cols : Cols) (kvs : List (Key × V)) (rs : Rs) (g : Nat), vs = [.ref b, .ref a, .ref d, .int last] ∧ Bag H b ∧ FormAt H a cols ∧ H d = some (.dK kvs) ∧ RowsAt H kvs rs ∧ RsOk cols [] rs g ∧ b ≠ d ∧
  ∀ p e H', H p = none → EdAt H' p e → EdOk cols rs last e → Eff b H H' → Q (.ref p) H'
theorem nodup_idx {names : List Str} (hn : names.Nodup) {i : Nat} {w : Str} (h : names[i]? = some w) : names.idxOf w = i := by
  have hi := (List.getElem?_eq_some_iff.mp h).1
  have e := (List.getElem?_eq_some_iff.mp h).2
  rw [← e]
  exact hn.idxOf_getElem i hi
theorem RowK.set {cols : Cols} {row : List Key} (h : RowK cols row) (hn : (cols.map (·.1)).Nodup) {i : Nat} {w kd : Str} {v : Key} (hc : cols[i]? = some (w, kd)) (hk : kindOf v = kd) (ho : keyOk v) : RowK cols (newRow cols row w v) := by
  have e : (cols.map (·.1)).idxOf w = i := nodup_idx hn (by rw [List.getElem?_map, hc]; rfl)
  unfold newRow
  rw [e]
  refine ⟨?_, fun k hk' => ?_⟩
  · rw [List.map_set, h.1, hk]
    refine List.ext_getElem? fun j => ?_
    rw [List.getElem?_set]
    split
    · rename_i z
      subst z
      have hi := (List.getElem?_eq_some_iff.mp hc).1
      rw [if_pos (by rw [List.length_map]; exact hi), List.getElem?_map, hc]; rfl
    · rfl
  · rcases List.mem_or_eq_of_mem_set hk' with q | q
    · exact h.2 k q
    · rw [q]; exact ho
end My

set_option Elab.async false
set_option linter.all false
set_option maxRecDepth 100000

namespace L2
open PySem PySem.Spec PyProof.Rows
theorem lc_keys {d : Addr} {o : Obj} {kvs : List (Key × V)} {g : TG} {tt : TT} {te : TE} {vs : List Nat} {σ : St} {H1 : Hp} {D : Addr} {Qd : Hp → Prop} (Pv : Nat → Hp → Prop) (h0 : Pv 0 (upd H1 D (.lst []))) (hl : ∀ i H, i ≤ kvs.length → Pv i H → H d = some (.frz o (.dK kvs)))
    (hs : ∀ i k v H, kvs[i]? = some (k, v) → Pv i H → g (kV k) (wipe σ vs) H fun σ2 H2 => wipe σ2 vs = wipe σ vs ∧ tt σ2 H2 fun b H3 =>
      if b = true then te σ2 H3 fun y H4 => ∃ acc, H4 D = some (.lst acc) ∧ acc.length < sizeLine ∧ Pv (i + 1) (upd H4 D (.lst (acc ++ [y]))) else Pv (i + 1) H3) (hd : ∀ H, Pv kvs.length H → Qd H) :
    ∃ W : Nat → Nat → Hp → Prop, (∃ m, W 0 m (upd H1 D (.lst []))) ∧ ∀ i m H, W i m H →
      ((Itk d o kvs).stop i H ∧ Qd H) ∨ ((Itk d o kvs).go i H ∧ ∃ Nx : Hp → Prop, (∀ H', Nx H' → ∃ m', m' < m ∧ W (i + 1) m' H') ∧ ∀ x H', (Itk d o kvs).yld i H x H' → g x (wipe σ vs) H' fun σ2 H2 => wipe σ2 vs = wipe σ vs ∧ tt σ2 H2 fun b H3 =>
        if b = true then te σ2 H3 fun y H4 => ∃ acc, H4 D = some (.lst acc) ∧ acc.length < sizeLine ∧ Nx (upd H4 D (.lst (acc ++ [y]))) else Nx H3) := by
  refine ⟨fun i m H => m = kvs.length - i ∧ i ≤ kvs.length ∧ Pv i H, ⟨kvs.length, rfl, Nat.zero_le _, h0⟩, ?_⟩
  rintro i m H ⟨rfl, hi, p⟩
  have q := hl i H hi p
  by_cases hlt : i < kvs.length
  · refine .inr ⟨⟨q, hlt⟩, Pv (i + 1), fun H' p' => ⟨kvs.length - (i + 1), by omega, rfl, hlt, p'⟩, ?_⟩
    rintro x H' ⟨rfl, k, v, e, rfl⟩
    exact hs i k v _ e p
  · have e : i = kvs.length := by omega
    subst e
    exact .inl ⟨⟨q, Nat.le_refl _⟩, hd H p⟩

theorem frz_frm {H : Hp} {d : Addr} {u : HO} {o : Obj} (h : H d = some u) (nt : ∀ xs, u ≠ .tup xs) : My.Frm [d] H (upd H d (.frz o u)) := .upd h (by simp) nt
end L2
namespace My
open PySem PySem.Spec PyProof.Rows L2
theorem key_eas (n : Nat) {k : Key} (h : keyOk k) : Eas n (dK k) := by
  cases k with
  | inl i => exact .int _ i
  | inr x => exact .word _ h
theorem nr_eas {cols : Cols} {p : Int × List Key} (h : RowK cols p.2) (c6 : cols.length ≤ 6) : Eas 2 (nrD p) := by
  refine .tup (by simp) fun d hd => ?_
  rcases List.mem_cons.mp hd with rfl | hd
  · exact .int _ _
  · rw [List.mem_singleton.mp hd]
    refine .tup (by rw [List.length_map, h.len]; omega) fun d hd => ?_
    obtain ⟨k, hk, rfl⟩ := List.mem_map.mp hd
    exact key_eas _ (h.2 k hk)
theorem row_eas {cols : Cols} {row : List Key} (h : RowK cols row) (c6 : cols.length ≤ 6) : Eas 1 (rowD row) := by
  refine .tup (by rw [List.length_map, h.len]; omega) fun d hd => ?_
  obtain ⟨k, hk, rfl⟩ := List.mem_map.mp hd
  exact key_eas _ (h.2 k hk)
theorem rs_eas {cols : Cols} {ws : List Str} {rs : Rs} {g : Nat} (h : RsOk cols ws rs g) : Eas 3 (.list (rs.map nrD)) := by
  refine .lst (by rw [List.length_map]; have := h.len; have := h.g60; omega) fun d hd => ?_
  obtain ⟨p, hp, rfl⟩ := List.mem_map.mp hd
  exact nr_eas (h.row p hp) h.c6
def ngD (ns : List Int) : PyData := .list (ns.map PyData.int)
def ngsD (ps : List (List Int)) : PyData := .list (ps.map ngD)
theorem Ng.dt {H : Hp} {a : Addr} {ns : List Int} {f : List Addr} (h : Ng H a ns f) : Dt H (.ref a) (ngD ns) := by
  obtain ⟨rfl, h0⟩ := h
  exact .lst h0 (dt_ints' _ _)
theorem ngs_dt {H : Hp} {a : Addr} {ps : List (List Int)} {f : List Addr} (h : LOf Ng H a ps f) : Dt H (.ref a) (ngsD ps) := LOf.dt Ng.dt h
theorem ngs_eas {ps : List (List Int)} (h1 : ps.length ≤ 1000) (h2 : ∀ p ∈ ps, p.length ≤ 1000) : Eas 2 (ngsD ps) := by
  refine .lst (by rw [List.length_map]; omega) fun d hd => ?_
  obtain ⟨p, hp, rfl⟩ := List.mem_map.mp hd
  refine .lst (by rw [List.length_map]; exact h2 p hp) fun d hd => ?_
  obtain ⟨i, _, rfl⟩ := List.mem_map.mp hd
  exact .int _ _

def sp_law_same (K : PySem.W.Frag) (c : Cz) (P : Hd → Prop) : Sp := fun vs H Q _ => ∃ (x sh d a : Addr) (h : Sh) (cols : Cols) (ws : List Str) (hd : Hd) (rs : Rs) (g : Nat) (f f2 : List Addr) (kvs : List (Key × V)), vs = [.ref x, .ref d, .ref a] ∧ P hd ∧ StAt K c H x sh h cols ws hd rs g f ∧ HdOk (kdsOf cols ws) hd ∧ hd.pgs.length ≤ 1000 ∧ H d = some (.dK kvs) ∧ RowsAt H kvs rs ∧ LOf Ng H a (numsOf hd.pgs) f2 ∧ d ∉ f ∧ d ∉ f2 ∧ d ≠ sh ∧ ∀ H', Same H H' → Q (.bl true) H'
end My
namespace My
open PySem PySem.Spec PyProof.Rows L2
theorem unlock_same {H H' : Hp} {d : Addr} {u : HO} {o : Obj} (h : H d = some u) (s : Same (upd H d (.frz o u)) H') : Same H (upd H' d u) := fun c x e => by
  by_cases z : c = d
  · subst z; rw [h] at e; rw [upd_same]; exact e
  · rw [upd_ne z]; exact s c x (by rw [upd_ne z]; exact e)
theorem DGet.f {H : Hp} {d : Addr} {o : Obj} {kvs : List (Key × V)} {k : Key} (e : H d = some (.frz o (.dK kvs))) : DGet H d (kV k) (valV kvs k) := .inl ⟨kvs, k, .inr ⟨o, e⟩, rfl, rfl⟩
end My

set_option Elab.async false
set_option linter.all false
set_option maxRecDepth 100000

namespace My
open PySem PySem.Spec PyProof.Rows L2
structure StL {α : Type} (R : Own α) (K : PySem.W.Frag) (c : Cz) (H H1 : Hp) (x sh d pg fo : Addr) (h : Sh) (cols : Cols) (ws : List Str) (hd : Hd) (rs : Rs) (g : Nat) (f : List Addr) (kvs : List (Key × V)) (rsD : Rs) (q : α) (f2 : List Addr) : Prop where
  rok : OwnOk R
  same : Same H H1
  st : StAt K c H1 x sh h cols ws hd rs g f
  fm : FormAt H1 fo cols
  hd : H1 d = some (.dK kvs)
  rows : RowsAt H1 kvs rsD
  lp : R H1 pg q f2
  dis : Dis f f2
  df : d ∉ f
  df2 : d ∉ f2
  ds : d ≠ sh
  sf2 : sh ∉ f2
  n1 : ∀ y ∈ f, H y = none
  n2 : ∀ y ∈ f2, H y = none
  nd : H d = none
  ns : H sh = none
section
variable {α : Type} {R : Own α} {K : PySem.W.Frag} {c : Cz} {H H1 H2 : Hp} {x sh d pg fo : Addr} {h : Sh} {cols : Cols} {ws : List Str} {hd hd' : Hd} {rs rs' : Rs} {g g' : Nat} {f f' : List Addr} {kvs kvs' : List (Key × V)} {rsD rsD' : Rs} {q q' : α} {f2 f2' : List Addr}
theorem StL.go (S : StL R K c H H1 x sh d pg fo h cols ws hd rs g f kvs rsD q f2) (s : Same H1 H2) : StL R K c H H2 x sh d pg fo h cols ws hd rs g f kvs rsD q f2 :=
  { S with same := S.same.trans s, st := S.st.same s, fm := S.fm.frm (.of_same s : Frm [] _ _), hd := s _ _ S.hd, rows := S.rows.frm (.of_same s : Frm [] _ _), lp := S.rok.frm S.lp (.of_same s : Frm [] _ _) (fun _ _ z => nomatch z) }
theorem dis1 {f : List Addr} {d : Addr} (h : d ∉ f) : Dis f [d] := fun y p q => h (by rw [← List.mem_singleton.mp q]; exact p)
theorem StL.bag {b : Addr} (S : StL R K c H H1 x sh d pg fo h cols ws hd rs g f kvs rsD q f2) (e : Eff b H1 H2) (hb : Bag H1 b) (b0 : H b = none) (bf : b ∉ f) (bf2 : b ∉ f2) (bd : b ≠ d) (bs : b ≠ sh) : StL R K c H H2 x sh d pg fo h cols ws hd rs g f kvs rsD q f2 := by
  have F := e.frm hb
  exact { S with same := same_eff S.same b0 e, st := S.st.frm F (dis1 bf) (fun z => bs (List.mem_singleton.mp z).symm), fm := S.fm.frm F, hd := F.keep _ _ (fun z => bd (List.mem_singleton.mp z).symm) S.hd, rows := S.rows.frm F, lp := S.rok.frm S.lp F (dis1 bf2) }
theorem nw_not {H : Hp} {f f' : List Addr} {y : Addr} {o : HO} (N : Nw H f f') (e : H y = some o) (n : y ∉ f) : y ∉ f' := fun z => by
  rcases N y z with w | w
  · exact n w
  · rw [e] at w; cases w
theorem StL.shl (S : StL R K c H H1 x sh d pg fo h cols ws hd rs g f kvs rsD q f2) : ∃ o, H1 sh = some o := by
  obtain ⟨dy, t, h1, _⟩ := S.st.sh
  exact ⟨_, h1⟩

theorem StL.store (S : StL R K c H H1 x sh d pg fo h cols ws hd rs g f kvs rsD q f2) (X : StAt K c H2 x sh h cols ws hd' rs' g' f') (F : Frm f H1 H2) (N : Nw H1 f f') : StL R K c H H2 x sh d pg fo h cols ws hd' rs' g' f' kvs rsD q f2 := by
  obtain ⟨o, hsh⟩ := S.shl
  exact { S with
    same := fun a o e => F.keep _ _ (fun z => by rw [S.n1 a z] at e; cases e) (S.same a o e)
    st := X
    fm := S.fm.frm F
    hd := F.keep _ _ S.df S.hd
    rows := S.rows.frm F
    lp := S.rok.frm S.lp F S.dis.symm
    dis := (S.dis.symm.nw (S.rok.liv S.lp) N).symm
    df := nw_not N S.hd S.df
    n1 := fun y hy => by
      rcases N y hy with w | w
      · exact S.n1 y w
      · exact S.same.free w }

theorem StL.law (S : StL R K c H H1 x sh d pg fo h cols ws hd rs g f kvs rsD q f2) (X : R H2 pg q' f2') (F : Frm f2 H1 H2) (N : Nw H1 f2 f2') : StL R K c H H2 x sh d pg fo h cols ws hd rs g f kvs rsD q' f2' := by
  obtain ⟨o, hsh⟩ := S.shl
  exact { S with
    same := fun a o e => F.keep _ _ (fun z => by rw [S.n2 a z] at e; cases e) (S.same a o e)
    st := S.st.frm F S.dis S.sf2
    fm := S.fm.frm F
    hd := F.keep _ _ S.df2 S.hd
    rows := S.rows.frm F
    lp := X
    dis := S.dis.nw S.st.liv N
    df2 := nw_not N S.hd S.df2
    sf2 := nw_not N hsh S.sf2
    n2 := fun y hy => by
      rcases N y hy with w | w
      · exact S.n2 y w
      · exact S.same.free w }

theorem StL.dict (S : StL R K c H H1 x sh d pg fo h cols ws hd rs g f kvs rsD q f2) (hr : RowsAt H1 kvs' rsD') : StL R K c H (upd H1 d (.dK kvs')) x sh d pg fo h cols ws hd rs g f kvs' rsD' q f2 := by
  have F : Frm [d] H1 (upd H1 d (.dK kvs')) := .upd S.hd (by simp) (fun _ z => by cases z)
  exact { S with
    same := same_put S.same S.nd
    st := S.st.frm F (dis1 S.df) (fun z => S.ds (List.mem_singleton.mp z).symm)
    fm := S.fm.frm F
    hd := upd_same
    rows := hr.frm F
    lp := S.rok.frm S.lp F (dis1 S.df2) }

theorem StL.fresh {b : Addr} (S : StL R K c H H1 x sh d pg fo h cols ws hd rs g f kvs rsD q f2) (hb : H1 b = none) : b ∉ f ∧ b ∉ f2 ∧ b ≠ d ∧ b ≠ sh ∧ H b = none := by
  obtain ⟨o, hsh⟩ := S.shl
  refine ⟨fun z => ?_, fun z => ?_, fun z => ?_, fun z => ?_, S.same.free hb⟩
  · obtain ⟨o, e⟩ := S.st.liv b z; rw [hb] at e; cases e
  · obtain ⟨o, e⟩ := S.rok.liv S.lp b z; rw [hb] at e; cases e
  · rw [z, S.hd] at hb; cases hb
  · rw [z, hsh] at hb; cases hb
end

def rowSet (cols : Cols) (row : List Key) (w : Str) (v : Key) : List Key := (List.range (min cols.length row.length)).map fun i => if (cols.getD i ("", "")).1 = w then v else row.getD i (.inl 0)
theorem rowSet_new {cols : Cols} {row : List Key} {w : Str} {v : Key} (hl : row.length = cols.length) (hn : (cols.map (·.1)).Nodup) (hw : w ∈ cols.map (·.1)) : rowSet cols row w v = newRow cols row w v := by
  unfold rowSet newRow
  have hi := List.idxOf_lt_length_of_mem hw
  rw [List.length_map] at hi
  refine List.ext_getElem? fun j => ?_
  rw [List.getElem?_set, List.getElem?_map]
  by_cases hj : j < cols.length
  · have ej : cols[j]? = some cols[j] := List.getElem?_eq_getElem hj
    have er : row[j]? = some row[j] := List.getElem?_eq_getElem (by omega)
    rw [List.getElem?_range (by omega)]
    simp only [Option.map_some, List.getD_eq_getElem?_getD, ej, er, Option.getD_some]
    by_cases c : (cols.map (·.1)).idxOf w = j
    · have : cols[j].1 = w := by
        have := List.getElem_idxOf (xs := cols.map (·.1)) (x := w) (by rw [List.length_map]; exact hi)
        simp only [List.getElem_map] at this
        subst c; exact this
      rw [if_pos this, if_pos c, if_pos (by omega)]
    · have : ¬ cols[j].1 = w := fun z => c (nodup_idx hn (by rw [List.getElem?_map, ej, ← z]; rfl))
      rw [if_neg this, if_neg c]
  · rw [List.getElem?_eq_none (by rw [List.length_range]; omega)]
    rw [if_neg (by omega), List.getElem?_eq_none (by omega)]
    rfl
end My
namespace My
open PySem PySem.Spec PyProof.Rows L2
theorem HeapIn.set {m g : Nat} {rs : Rs} {ps : Pgs} (h : HeapIn m g rs ps) (n : Int) (row : List Key) : HeapIn m g (rsSet rs n row) ps := by
  refine { h with perm := ?_ }
  have : (rsSet rs n row).map (fun p => (([], p.1) : Th)) = rs.map fun p => (([], p.1) : Th) := by
    unfold rsSet
    rw [List.map_map]
    refine List.map_congr_left fun p _ => ?_
    show (([], (if p.1 = n then (p.1, row) else p).1) : Th) = ([], p.1)
    split <;> rfl
  rw [this]; exact h.perm
theorem HeapIn.hk {m g : Nat} {rs : Rs} {ps : Pgs} (h : HeapIn m g rs ps) : ∀ p ∈ ps, ∀ t ∈ p, t.1 = [] := fun p hp t ht => by
  have : t ∈ ps.flatten := List.mem_flatten.mpr ⟨p, hp, ht⟩
  obtain ⟨q, _, rfl⟩ := List.mem_map.mp (h.perm.mem_iff.mp this)
  rfl
theorem chg_heap (h : Sh) (cols : Cols) (n : Int) (row row' : List Key) (w : Str) (ps : Pgs) : hdChg h cols [] n row row' w (.heap ps) = .heap ps := by
  unfold hdChg
  split
  · rfl
  · rw [if_neg (by simp)]
theorem chgT_heap (h : Sh) (cols : Cols) (n : Int) (row row' : List Key) (w : Str) (ps : Pgs) : hdChgT h cols [] n row row' w (.heap ps) = if row' = row then 0 else 2 := by
  unfold hdChgT
  split
  · rfl
  · rw [if_neg (by simp)]
end My

set_option Elab.async false
set_option linter.all false
set_option maxRecDepth 100000
namespace My
open PySem PySem.Spec PyProof.Rows L2
def top (i : Nat) : Stmt := PySem.Challenge.pw_whatindex_k15_heaps.main.body.getD i (.Pass ⟨0, 0, 0, 0⟩)
abbrev s_first_with_room : Stmt := top 3
abbrev s_page_with : Stmt := top 4
abbrev s_copied : Stmt := top 5
abbrev s_is_whole : Stmt := top 16
abbrev s_is_word : Stmt := top 17
abbrev s_is_value : Stmt := top 18
abbrev s_is_column : Stmt := top 19
abbrev s_is_form : Stmt := top 20
abbrev s_is_row : Stmt := top 21
abbrev s_column_names : Stmt := top 28
abbrev s_picked : Stmt := top 30
abbrev s_changed : Stmt := top 31
abbrev s_Heap___init__ : Stmt := inClass (top 40) 0
abbrev s_Heap_put : Stmt := inClass (top 40) 2
abbrev s_Heap_drop : Stmt := inClass (top 40) 3
abbrev s_Heap_pages : Stmt := inClass (top 40) 4
abbrev s_is_key : Stmt := top 50
abbrev s_wrong_part : Stmt := top 51
abbrev s_empty_holder : Stmt := top 52
abbrev s_pages_of_things : Stmt := top 53
abbrev s_Store___init__ : Stmt := inClass (top 54) 0
abbrev s_Store_thing_of : Stmt := inClass (top 54) 2
abbrev s_Store_put : Stmt := inClass (top 54) 3
abbrev s_Store_check : Stmt := inClass (top 54) 4
abbrev s_Store_lay : Stmt := inClass (top 54) 5
abbrev s_Store_drop : Stmt := inClass (top 54) 6
abbrev s_Store_change : Stmt := inClass (top 54) 7
abbrev s_Store_pages : Stmt := inClass (top 54) 8
abbrev s_Store_all_rows : Stmt := inClass (top 54) 9
abbrev s_Store_row : Stmt := inClass (top 54) 10
abbrev s_first_wrong : Stmt := top 57
abbrev s_Shape___init__ : Stmt := inClass (top 58) 0
abbrev s_Shape_rows : Stmt := inClass (top 58) 1
abbrev s_law_bag : Stmt := top 60
abbrev s_law_take : Stmt := top 61
abbrev s_law_names : Stmt := top 62
abbrev s_law_word : Stmt := top 63
abbrev s_law_value : Stmt := top 64
abbrev s_law_form : Stmt := top 65
abbrev s_law_row : Stmt := top 67
abbrev s_law_heap_put : Stmt := top 68
abbrev s_law_heap_drop : Stmt := top 69
abbrev s_law_same : Stmt := top 70
abbrev s_law_edit : Stmt := top 71
abbrev s_law_changed : Stmt := top 72
abbrev s_law_like : Stmt := top 73
abbrev s_law : Stmt := top 74
structure Txt (K : PySem.W.Frag) (mg : Str → Option Value) (a_BOUNDS : Addr) (a_BOUNDS_0 : Addr) (a_BOUNDS_1 : Addr) (a_BOUNDS_2 : Addr) (a_BOUNDS_3 : Addr) (a_BOUNDS_4 : Addr) (a_KINDS : Addr) (t_MOST_COLUMNS : Tok) (t_MOST_LETTERS : Tok) (t_MOST_NUMBER : Tok) (t_MOST_ROWS : Tok) (a_STORE_KINDS : Addr) (a_Heap : Addr) (a_Store : Addr) (a_Shape : Addr) (dA_Store___init__ : Addr) (kA_Store___init__ : Addr) (e_Store___init___key : Addr) (kA_Shape___init__ : Addr) : Prop where
  z_abs : mg "abs" = none
  z_all : mg "all" = none
  z_bool : mg "bool" = none
  z_enumerate : mg "enumerate" = none
  z_int : mg "int" = none
  z_isinstance : mg "isinstance" = none
  z_len : mg "len" = none
  z_list : mg "list" = none
  z_max : mg "max" = none
  z_min : mg "min" = none
  z_range : mg "range" = none
  z_sorted : mg "sorted" = none
  z_str : mg "str" = none
  z_tuple : mg "tuple" = none
  z_zip : mg "zip" = none
  g_BOUNDS : mg "BOUNDS" = some (.ref a_BOUNDS)
  q_BOUNDS_0 : ∃ (o : Obj) (its : Array Value) (n : Nat), K.lookup a_BOUNDS_0 = some o ∧ o.cls = .type "tuple" ∧ o.data = .seq its n ∧ its.size ≤ sizeLine ∧ Vals [V.str "rows", V.int 2, V.int 8] its.toList
  q_BOUNDS_1 : ∃ (o : Obj) (its : Array Value) (n : Nat), K.lookup a_BOUNDS_1 = some o ∧ o.cls = .type "tuple" ∧ o.data = .seq its n ∧ its.size ≤ sizeLine ∧ Vals [V.str "entries", V.int 2, V.int 8] its.toList
  q_BOUNDS_2 : ∃ (o : Obj) (its : Array Value) (n : Nat), K.lookup a_BOUNDS_2 = some o ∧ o.cls = .type "tuple" ∧ o.data = .seq its n ∧ its.size ≤ sizeLine ∧ Vals [V.str "fan", V.int 2, V.int 8] its.toList
  q_BOUNDS_3 : ∃ (o : Obj) (its : Array Value) (n : Nat), K.lookup a_BOUNDS_3 = some o ∧ o.cls = .type "tuple" ∧ o.data = .seq its n ∧ its.size ≤ sizeLine ∧ Vals [V.str "buckets", V.int 1, V.int 8] its.toList
  q_BOUNDS_4 : ∃ (o : Obj) (its : Array Value) (n : Nat), K.lookup a_BOUNDS_4 = some o ∧ o.cls = .type "tuple" ∧ o.data = .seq its n ∧ its.size ≤ sizeLine ∧ Vals [V.str "bits", V.int 2, V.int 64] its.toList
  q_BOUNDS : ∃ (o : Obj) (its : Array Value) (n : Nat), K.lookup a_BOUNDS = some o ∧ o.cls = .type "tuple" ∧ o.data = .seq its n ∧ its.size ≤ sizeLine ∧ Vals [V.ref a_BOUNDS_0, V.ref a_BOUNDS_1, V.ref a_BOUNDS_2, V.ref a_BOUNDS_3, V.ref a_BOUNDS_4] its.toList
  g_KINDS : mg "KINDS" = some (.ref a_KINDS)
  q_KINDS : ∃ (o : Obj) (its : Array Value) (n : Nat), K.lookup a_KINDS = some o ∧ o.cls = .type "tuple" ∧ o.data = .seq its n ∧ its.size ≤ sizeLine ∧ Vals [V.str "number", V.str "word"] its.toList
  g_MOST_COLUMNS : mg "MOST_COLUMNS" = some (.int 6 t_MOST_COLUMNS)
  g_MOST_LETTERS : mg "MOST_LETTERS" = some (.int 8 t_MOST_LETTERS)
  g_MOST_NUMBER : mg "MOST_NUMBER" = some (.int 999 t_MOST_NUMBER)
  g_MOST_ROWS : mg "MOST_ROWS" = some (.int 60 t_MOST_ROWS)
  g_STORE_KINDS : mg "STORE_KINDS" = some (.ref a_STORE_KINDS)
  q_STORE_KINDS : ∃ (o : Obj) (its : Array Value) (n : Nat), K.lookup a_STORE_KINDS = some o ∧ o.cls = .type "tuple" ∧ o.data = .seq its n ∧ its.size ≤ sizeLine ∧ Vals [V.str "heap", V.str "sorted", V.str "hashed"] its.toList
  cl_Heap : Cls K a_Heap
  mg_Heap : mg "Heap" = some (.ref a_Heap)
  na_Heap_most : NoAttr K a_Heap "most"
  na_Heap_held : NoAttr K a_Heap "held"
  cl_Store : Cls K a_Store
  mg_Store : mg "Store" = some (.ref a_Store)
  na_Store_shape : NoAttr K a_Store "shape"
  na_Store_form : NoAttr K a_Store "form"
  na_Store_kind : NoAttr K a_Store "kind"
  na_Store_key : NoAttr K a_Store "key"
  na_Store_holder : NoAttr K a_Store "holder"
  na_Store_by_number : NoAttr K a_Store "by_number"
  na_Store_given : NoAttr K a_Store "given"
  cl_Shape : Cls K a_Shape
  mg_Shape : mg "Shape" = some (.ref a_Shape)
  na_Shape_measures : NoAttr K a_Shape "measures"
  qe_Store___init___key : ∃ (o : Obj) (its : Array Value) (n : Nat), K.lookup e_Store___init___key = some o ∧ o.cls = .type "tuple" ∧ o.data = .seq its n ∧ its.size ≤ sizeLine ∧ Vals [] its.toList
  dd_Store___init__ : ∃ (c : Value) (dd : Option Addr) (n : Nat) (sl : Array (Option Value)) (td_Store___init___kind : Tok), K.lookup dA_Store___init__ = some ⟨c, dd, .seq #[(Value.str "heap" td_Store___init___kind)] n, sl⟩
  kk_Store___init__ : ∃ (c : Value) (dd : Option Addr) (n : Nat) (sl : Array (Option Value)) (h0 : Int) (t0 : Tok), K.lookup kA_Store___init__ = some ⟨c, dd, .dict #[⟨h0, .str "key" t0, Value.ref e_Store___init___key⟩] n, sl⟩
  kk_Shape___init__ : ∃ (c : Value) (dd : Option Addr) (n : Nat) (sl : Array (Option Value)) (h0 : Int) (t0 : Tok) (h1 : Int) (t1 : Tok) (h2 : Int) (t2 : Tok) (h3 : Int) (t3 : Tok) (h4 : Int) (t4 : Tok) (td_Shape___init___rows : Tok) (td_Shape___init___entries : Tok) (td_Shape___init___fan : Tok) (td_Shape___init___buckets : Tok) (td_Shape___init___bits : Tok), K.lookup kA_Shape___init__ = some ⟨c, dd, .dict #[⟨h0, .str "rows" t0, (Value.int 4 td_Shape___init___rows)⟩, ⟨h1, .str "entries" t1, (Value.int 4 td_Shape___init___entries)⟩, ⟨h2, .str "fan" t2, (Value.int 3 td_Shape___init___fan)⟩, ⟨h3, .str "buckets" t3, (Value.int 4 td_Shape___init___buckets)⟩, ⟨h4, .str "bits" t4, (Value.int 16 td_Shape___init___bits)⟩] n, sl⟩
  d_first_with_room : ∃ fa fd, Def K mg "first_with_room" s_first_with_room fa fd
  d_page_with : ∃ fa fd, Def K mg "page_with" s_page_with fa fd
  d_copied : ∃ fa fd, Def K mg "copied" s_copied fa fd
  d_is_whole : ∃ fa fd, Def K mg "is_whole" s_is_whole fa fd
  d_is_word : ∃ fa fd, Def K mg "is_word" s_is_word fa fd
  d_is_value : ∃ fa fd, Def K mg "is_value" s_is_value fa fd
  d_is_column : ∃ fa fd, Def K mg "is_column" s_is_column fa fd
  d_is_form : ∃ fa fd, Def K mg "is_form" s_is_form fa fd
  d_is_row : ∃ fa fd, Def K mg "is_row" s_is_row fa fd
  d_column_names : ∃ fa fd, Def K mg "column_names" s_column_names fa fd
  d_picked : ∃ fa fd, Def K mg "picked" s_picked fa fd
  d_changed : ∃ fa fd, Def K mg "changed" s_changed fa fd
  d_Heap___init__ : ∃ fa fd, MkDef K a_Heap "Heap.__init__" s_Heap___init__ fa fd
  d_Heap_put : ∃ fa fd, MDef K a_Heap "put" "Heap.put" s_Heap_put fa fd
  d_Heap_drop : ∃ fa fd, MDef K a_Heap "drop" "Heap.drop" s_Heap_drop fa fd
  d_Heap_pages : ∃ fa fd, MDef K a_Heap "pages" "Heap.pages" s_Heap_pages fa fd
  d_is_key : ∃ fa fd, Def K mg "is_key" s_is_key fa fd
  d_wrong_part : ∃ fa fd, Def K mg "wrong_part" s_wrong_part fa fd
  d_empty_holder : ∃ fa fd, Def K mg "empty_holder" s_empty_holder fa fd
  d_pages_of_things : ∃ fa fd, Def K mg "pages_of_things" s_pages_of_things fa fd
  d_Store___init__ : ∃ fa fd, MkDefD K a_Store "Store.__init__" s_Store___init__ (.ref dA_Store___init__) (.ref kA_Store___init__) fa fd
  d_Store_thing_of : ∃ fa fd, MDef K a_Store "thing_of" "Store.thing_of" s_Store_thing_of fa fd
  d_Store_put : ∃ fa fd, MDef K a_Store "put" "Store.put" s_Store_put fa fd
  d_Store_check : ∃ fa fd, MDef K a_Store "check" "Store.check" s_Store_check fa fd
  d_Store_lay : ∃ fa fd, MDef K a_Store "lay" "Store.lay" s_Store_lay fa fd
  d_Store_drop : ∃ fa fd, MDef K a_Store "drop" "Store.drop" s_Store_drop fa fd
  d_Store_change : ∃ fa fd, MDef K a_Store "change" "Store.change" s_Store_change fa fd
  d_Store_pages : ∃ fa fd, MDef K a_Store "pages" "Store.pages" s_Store_pages fa fd
  d_Store_all_rows : ∃ fa fd, MDef K a_Store "all_rows" "Store.all_rows" s_Store_all_rows fa fd
  d_Store_row : ∃ fa fd, MDef K a_Store "row" "Store.row" s_Store_row fa fd
  d_first_wrong : ∃ fa fd, Def K mg "first_wrong" s_first_wrong fa fd
  d_Shape___init__ : ∃ fa fd, MkDefD K a_Shape "Shape.__init__" s_Shape___init__ .none (.ref kA_Shape___init__) fa fd
  d_Shape_rows : ∃ fa fd, PDef K a_Shape "rows" "Shape.rows" s_Shape_rows fa fd
  d_law_bag : ∃ fa fd, Def K mg "_law_bag" s_law_bag fa fd
  d_law_take : ∃ fa fd, Def K mg "_law_take" s_law_take fa fd
  d_law_names : ∃ fa fd, Def K mg "_law_names" s_law_names fa fd
  d_law_word : ∃ fa fd, Def K mg "_law_word" s_law_word fa fd
  d_law_value : ∃ fa fd, Def K mg "_law_value" s_law_value fa fd
  d_law_form : ∃ fa fd, Def K mg "_law_form" s_law_form fa fd
  d_law_row : ∃ fa fd, Def K mg "_law_row" s_law_row fa fd
  d_law_heap_put : ∃ fa fd, Def K mg "_law_heap_put" s_law_heap_put fa fd
  d_law_heap_drop : ∃ fa fd, Def K mg "_law_heap_drop" s_law_heap_drop fa fd
  d_law_same : ∃ fa fd, Def K mg "_law_same" s_law_same fa fd
  d_law_edit : ∃ fa fd, Def K mg "_law_edit" s_law_edit fa fd
  d_law_changed : ∃ fa fd, Def K mg "_law_changed" s_law_changed fa fd
  d_law_like : ∃ fa fd, Def K mg "_law_like" s_law_like fa fd
section
variable {P : Program} {w : World} {K : PySem.W.Frag} {mg : Str → Option Value} {base : Heap} {a_BOUNDS : Addr} {a_BOUNDS_0 : Addr} {a_BOUNDS_1 : Addr} {a_BOUNDS_2 : Addr} {a_BOUNDS_3 : Addr} {a_BOUNDS_4 : Addr} {a_KINDS : Addr} {t_MOST_COLUMNS : Tok} {t_MOST_LETTERS : Tok} {t_MOST_NUMBER : Tok} {t_MOST_ROWS : Tok} {a_STORE_KINDS : Addr} {a_Heap : Addr} {a_Store : Addr} {a_Shape : Addr} {dA_Store___init__ : Addr} {kA_Store___init__ : Addr} {e_Store___init___key : Addr} {kA_Shape___init__ : Addr}
theorem sc_first_with_room : FnScope ["pages", "most", "at", "page"] ["pages", "most"] (defScope s_first_with_room) := ⟨rfl, rfl, rfl, by decide +kernel, rfl, by decide +kernel, by decide +kernel⟩

set_option maxHeartbeats 8000000 in
theorem ok_first_with_room {fa : Addr} {fd : FuncData} (T : Txt K mg a_BOUNDS a_BOUNDS_0 a_BOUNDS_1 a_BOUNDS_2 a_BOUNDS_3 a_BOUNDS_4 a_KINDS t_MOST_COLUMNS t_MOST_LETTERS t_MOST_NUMBER t_MOST_ROWS a_STORE_KINDS a_Heap a_Store a_Shape dA_Store___init__ kA_Store___init__ e_Store___init___key kA_Shape___init__) (D : Def K mg "first_with_room" s_first_with_room fa fd) : FnOk P w K mg base CX0 1 fa fd ["pages", "most"] sp_first_with_room := by
  refine D.fn.ok sc_first_with_room (fun vs H Q E h => ?_) (fun cdv A outer s H vs Q E hr h => ?_)
  · obtain ⟨a, m, ps, f, rfl, _⟩ := h
    rfl
  ·
    obtain ⟨a, m, ps, f, rfl, hC, m0, k⟩ := h
    refine ⟨_, (pss_cons (ps_for PassesOwn.never rfl (pi_enum (by rfl) T.z_enumerate (pa_cons (pv 0) pa_nil)) (pg_tupK (K := K) (n := 2) (by rfl) (pgs_cons (pg_name (i := 2) sc_first_with_room.nd rfl (by first | exact Or.inl rfl | exact Or.inr rfl)) (pgs_cons (pg_name (i := 3) sc_first_with_room.nd rfl (by first | exact Or.inl rfl | exact Or.inr rfl)) pgs_nil)))
      (pss_one (ps_if (pt_cmpR op_lt (pe_callB call_len_seq (by rfl) T.z_len bt_len (pa_cons (pv 3) pa_nil)) (pv 1) (nomark _))
      (pss_one (ps_ret (pv 2)))
      pss_nil)))
    (pss_one (ps_ret (pe_callB call_len_seq (by rfl) T.z_len bt_len (pa_cons (pv 0) pa_nil))))), ?_⟩
    obtain ⟨as, hA, hlen⟩ := hC.lst
    have hle : roomAt m.toNat ps ≤ ps.length := List.findIdx_le_length
    refine ⟨_, rfl, a, _, rfl, SqL.of hA, for_enum (K := K) (a := a) (xs := as.map V.ref) (fun i σ H' => ∃ v2 v3, σ = [some (.ref a), some (.int m), v2, v3] ∧ Same H H' ∧ i ≤ roomAt m.toNat ps) ⟨none, none, rfl, Same.refl _, Nat.zero_le _⟩ (fun i σ H' _ ⟨_, _, _, s, _⟩ => SqL.of (s _ _ hA)) ?_ ?_⟩
    · rintro i x T' σ H' hx ⟨v2, v3, rfl, s1, hi⟩ hT'
      have hil : i < ps.length := by rw [← hlen]; simpa using (List.getElem?_eq_some_iff.mp hx).1
      obtain ⟨as', b, d, g, hA', _, hb, hd, ⟨rfl, xs, hp, hth⟩, _⟩ := hC.at_ pgOk hil
      rw [hA] at hA'
      cases (List.map_inj_right (f := V.ref) (fun _ _ h => by cases h; rfl)).mp (HO.lst.inj (Option.some.inj hA'))
      obtain rfl : x = .ref b := by rw [List.getElem?_map, hb] at hx; exact (Option.some.inj hx).symm
      have s2 := s1.trans (same_new (o := HO.tup [V.int (i : Nat), V.ref b]) hT')
      refine ⟨T', _, rfl, SqT.of upd_same, rfl, _, _, rfl, _, _, rfl, rfl, ?_⟩
      refine ⟨_, rfl, b, xs, rfl, .inl (SqL.of (s2 _ _ hp)), _, rfl, _, _, rfl, rfl, _, rfl, ?_⟩
      have hl := hth.length
      refine ite2 (fun c => ?_) (fun c => ?_)
      · have hlt : d.length < m.toNat := by simp only [decide_eq_true_eq] at c; omega
        have e : i = roomAt m.toNat ps := by
          refine Nat.le_antisymm hi (Nat.le_of_not_lt fun z => ?_)
          have := findIdx_no _ ps z hd
          simp [hlt] at this
        have kk : ∀ H', Same H H' → Q (.int ((i : Nat) : Int)) H' := fun H' s => by rw [e]; exact k H' s
        exact ⟨_, rfl, kk _ s2⟩
      · have hge : ¬ d.length < m.toNat := by simp only [decide_eq_true_eq] at c; omega
        refine ⟨_, _, rfl, s2, Nat.lt_of_le_of_ne hi fun z => ?_⟩
        obtain ⟨y, hy, hp⟩ := findIdx_spec (fun p : List Th => decide (p.length < m.toNat)) ps (by show roomAt m.toNat ps < _; omega)
        have : ps[i]? = some y := by rw [z]; exact hy
        rw [hd] at this
        cases this
        exact hge (by simpa using hp)
    · rintro σ H' ⟨v2, v3, rfl, s1, hi⟩
      rw [List.length_map, hlen] at hi
      refine ⟨_, rfl, a, _, rfl, .inl (SqL.of (s1 _ _ hA)), ?_⟩
      rw [List.length_map, hlen, show ps.length = roomAt m.toNat ps by omega]
      exact k _ s1
theorem sc_page_with : FnScope ["pages", "thing", "page"] ["pages", "thing"] (defScope s_page_with) := ⟨rfl, rfl, rfl, by decide +kernel, rfl, by decide +kernel, by decide +kernel⟩

set_option maxHeartbeats 8000000 in
theorem ok_page_with {fa : Addr} {fd : FuncData} (T : Txt K mg a_BOUNDS a_BOUNDS_0 a_BOUNDS_1 a_BOUNDS_2 a_BOUNDS_3 a_BOUNDS_4 a_KINDS t_MOST_COLUMNS t_MOST_LETTERS t_MOST_NUMBER t_MOST_ROWS a_STORE_KINDS a_Heap a_Store a_Shape dA_Store___init__ kA_Store___init__ e_Store___init___key kA_Shape___init__) (D : Def K mg "page_with" s_page_with fa fd) : FnOk P w K mg base CX0 1 fa fd ["pages", "thing"] sp_page_with := by
  refine D.fn.ok sc_page_with (fun vs H Q E h => ?_) (fun cdv A outer s H vs Q E hr h => ?_)
  · obtain ⟨a, v, t, ps, f, rfl, _⟩ := h
    rfl
  ·
    have hu80 := hr.u80
    obtain ⟨a, v, t, ps, f, rfl, hC, hT, hok, hps, hin, k⟩ := h
    refine ⟨_, (pss_one (ps_ret (pe_bm PySem.F.plainAttrs_list PySem.F.slot_list_index PySem.F.type_list_index mt_index (pe_lc (own := [("page", 2)]) (g := gName 2) (by rfl) sc_page_with.nd (pi_list (pv 0)) (blkOk_by (own := [("page", 2)]) (N := ["pages", "thing", "page"]) (sc := defScope s_page_with) (by decide +kernel))
        (fun _ _ _ _ _ => (pg_name (i := 2) sc_page_with.nd rfl (by first | exact Or.inl rfl | exact Or.inr rfl))) (fun _ _ _ _ _ => pts_nil)
        (fun _ _ _ _ _ => (pe_cmpR (op_inD hu80) (pv 1) (pv 2) (by rfl)))) (pa_cons pe_bl pa_nil)))), ?_⟩
    obtain ⟨as, hA, hlen⟩ := hC.lst
    refine ⟨_, rfl, a, rfl, ⟨_, SqL.of hA⟩, fun D hD => ?_⟩
    refine lc_list_map hD (fun i => V.bl (memB (ps.getD i []) t)) hA (by rw [List.length_map, hlen]; have := hps.len; exact lt_line (by omega)) ?_ ?_
    · intro i x H1 R F hx s1 hk
      have hil : i < ps.length := by rw [← hlen]; simpa using (List.getElem?_eq_some_iff.mp hx).1
      obtain ⟨as', b, d, g, hA', _, hb, hd, ⟨rfl, xs, hp, hth⟩, _⟩ := hC.at_ pgOk hil
      rw [hA] at hA'
      cases (List.map_inj_right (f := V.ref) (fun _ _ h => by cases h; rfl)).mp (HO.lst.inj (Option.some.inj hA'))
      obtain rfl : x = .ref b := by rw [List.getElem?_map, hb] at hx; exact (Option.some.inj hx).symm
      have F1 : Frm [] H H1 := .of_same s1
      refine ⟨rfl, ?_⟩
      refine ⟨_, rfl, _, rfl, b, xs, d.map thD, thD t, rfl, .inl (s1 _ _ hp), (hth.frm F1).dt, (hT.frm F1).dt, mem_shaped (hps.at_ hd).2, shaped_th hok, ?_⟩
      rw [any_th, ← getD_of (d := []) hd]
      exact hk H1 (Same.refl _)
    · intro H1 s1 hD1
      rw [List.length_map, hlen] at hD1
      have hlt := page_lt hin
      refine ⟨.inl ⟨rfl, _, SqL.of hD1⟩, ?_⟩
      obtain ⟨p, hp, hpt⟩ := findIdx_spec (fun p => memB p t) ps hlt
      refine ⟨D, _, V.bl true, pageAt t ps, V.bl true, rfl, rfl, SqL.of hD1, rfl, by simp [List.all_map, flatV], ?_, rfl, ?_, k _ s1⟩
      · rw [List.getElem?_map, List.getElem?_range hlt]
        show some (V.bl (memB (ps.getD (pageAt t ps) []) t)) = _
        rw [show ps.getD (pageAt t ps) [] = p from getD_of hp, hpt]
      · intro i z hi hz
        rw [List.getElem?_map, List.getElem?_range (Nat.lt_trans hi hlt)] at hz
        cases hz
        have hil : i < ps.length := Nat.lt_trans hi hlt
        have := findIdx_no _ ps hi (List.getElem?_eq_getElem hil)
        show eqV (V.bl (memB (ps.getD i []) t)) (V.bl true) = false
        rw [getD_of (List.getElem?_eq_getElem hil), this]
        rfl
theorem sc_copied : FnScope ["pages", "page"] ["pages"] (defScope s_copied) := ⟨rfl, rfl, rfl, by decide +kernel, rfl, by decide +kernel, by decide +kernel⟩

set_option maxHeartbeats 8000000 in
theorem ok_copied {fa : Addr} {fd : FuncData} (T : Txt K mg a_BOUNDS a_BOUNDS_0 a_BOUNDS_1 a_BOUNDS_2 a_BOUNDS_3 a_BOUNDS_4 a_KINDS t_MOST_COLUMNS t_MOST_LETTERS t_MOST_NUMBER t_MOST_ROWS a_STORE_KINDS a_Heap a_Store a_Shape dA_Store___init__ kA_Store___init__ e_Store___init___key kA_Shape___init__) (D : Def K mg "copied" s_copied fa fd) : FnOk P w K mg base CX0 1 fa fd ["pages"] sp_copied := by
  refine D.fn.ok sc_copied (fun vs H Q E h => ?_) (fun cdv A outer s H vs Q E hr h => ?_)
  · obtain ⟨a, ps, f, rfl, _⟩ := h
    rfl
  ·
    obtain ⟨a, ps, f, rfl, hC, hz, k⟩ := h
    refine ⟨_, (pss_one (ps_ret (pe_lc (own := [("page", 1)]) (g := gName 1) (by rfl) sc_copied.nd (pi_list (pv 0)) (blkOk_by (own := [("page", 1)]) (N := ["pages", "page"]) (sc := defScope s_copied) (by decide +kernel))
        (fun _ _ _ _ _ => (pg_name (i := 1) sc_copied.nd rfl (by first | exact Or.inl rfl | exact Or.inr rfl))) (fun _ _ _ _ _ => pts_nil)
        (fun _ _ _ _ _ => (pe_callTy (call_list_ofK (K := K)) (by rfl) T.z_list bt_list (pa_cons (pv 1) pa_nil)))))), ?_⟩
    obtain ⟨as, hA, hlen⟩ := hC.lst
    refine ⟨_, rfl, a, rfl, ⟨_, SqL.of hA⟩, fun D hD => ?_⟩
    refine lc_own pgOk hD hA (by rw [List.length_map, hlen]) hz ?_ ?_
    · intro i x d H1 R F hx hd s1 hk
      have hil : i < ps.length := (List.getElem?_eq_some_iff.mp hd).1
      obtain ⟨as', b, d', g, hA', _, hb, hd', ⟨rfl, xs, hp, hth⟩, _⟩ := hC.at_ pgOk hil
      rw [hA] at hA'
      cases (List.map_inj_right (f := V.ref) (fun _ _ h => by cases h; rfl)).mp (HO.lst.inj (Option.some.inj hA'))
      obtain rfl : x = .ref b := by rw [List.getElem?_map, hb] at hx; exact (Option.some.inj hx).symm
      rw [hd] at hd'
      cases hd'
      have F1 : Frm [] H H1 := .of_same s1
      refine ⟨rfl, ?_⟩
      refine ⟨_, rfl, b, xs, rfl, .inl (SqL.of (s1 _ _ hp)), fun l hl => ?_⟩
      exact hk l [l] _ (same_new hl) ⟨rfl, xs, upd_same, (hth.frm F1).frm (.new hl : Frm [] _ _)⟩ (fun y hy => by rw [List.mem_singleton.mp hy]; exact hl)
    · intro H1 fp s1 hL hn
      exact k D fp H1 s1 hL hn
theorem sc_is_whole : FnScope ["thing"] ["thing"] (defScope s_is_whole) := ⟨rfl, rfl, rfl, by decide +kernel, rfl, by decide +kernel, by decide +kernel⟩

set_option maxHeartbeats 8000000 in
theorem ok_is_whole {fa : Addr} {fd : FuncData} (T : Txt K mg a_BOUNDS a_BOUNDS_0 a_BOUNDS_1 a_BOUNDS_2 a_BOUNDS_3 a_BOUNDS_4 a_KINDS t_MOST_COLUMNS t_MOST_LETTERS t_MOST_NUMBER t_MOST_ROWS a_STORE_KINDS a_Heap a_Store a_Shape dA_Store___init__ kA_Store___init__ e_Store___init___key kA_Shape___init__) (D : Def K mg "is_whole" s_is_whole fa fd) : FnOk P w K mg base CX0 1 fa fd ["thing"] sp_is_whole := by
  refine D.fn.ok sc_is_whole (fun vs H Q E h => ?_) (fun cdv A outer s H vs Q E hr h => ?_)
  · obtain ⟨v, rfl, _⟩ := h
    rfl
  ·
    obtain ⟨v, rfl, hv, k⟩ := h
    refine ⟨_, (pss_one (ps_ret (pe_and (pe_callB call_isT (by rfl) T.z_isinstance bt_isinstance (pa_cons (pv 0) (pa_cons (pe_bltn (v := V.ty "int") (by rfl) T.z_int bt_int rfl) pa_nil))) (pe_one (pe_not (pe_callB call_isT (by rfl) T.z_isinstance bt_isinstance (pa_cons (pv 0) (pa_cons (pe_bltn (v := V.ty "bool") (by rfl) T.z_bool bt_bool rfl) pa_nil)))))))), ?_⟩
    refine ⟨_, rfl, _, _, rfl, hv, rfl, _, rfl, ?_⟩
    rcases inst_int hv with ⟨i, rfl, e1, e2⟩ | ⟨b, rfl, e1, e2⟩ | ⟨e1, e2, e3⟩
    · rw [e1]
      refine iteT ⟨_, rfl, _, _, rfl, hv, rfl, _, rfl, ?_⟩
      rw [e2]
      exact k
    · rw [e1]
      refine iteT ⟨_, rfl, _, _, rfl, hv, rfl, _, rfl, ?_⟩
      rw [e2]
      exact k
    · rw [e1]
      refine iteF ?_
      rw [e3] at k
      exact k
theorem sc_is_word : FnScope ["thing", "letter"] ["thing"] (defScope s_is_word) := ⟨rfl, rfl, rfl, by decide +kernel, rfl, by decide +kernel, by decide +kernel⟩

set_option maxHeartbeats 8000000 in
theorem ok_is_word {fa : Addr} {fd : FuncData} (T : Txt K mg a_BOUNDS a_BOUNDS_0 a_BOUNDS_1 a_BOUNDS_2 a_BOUNDS_3 a_BOUNDS_4 a_KINDS t_MOST_COLUMNS t_MOST_LETTERS t_MOST_NUMBER t_MOST_ROWS a_STORE_KINDS a_Heap a_Store a_Shape dA_Store___init__ kA_Store___init__ e_Store___init___key kA_Shape___init__) (D : Def K mg "is_word" s_is_word fa fd) : FnOk P w K mg base CX0 1 fa fd ["thing"] sp_is_word := by
  refine D.fn.ok sc_is_word (fun vs H Q E h => ?_) (fun cdv A outer s H vs Q E hr h => ?_)
  · obtain ⟨v, rfl, _⟩ := h
    rfl
  ·
    obtain ⟨v, rfl, hv, k⟩ := h
    refine ⟨_, (pss_cons (ps_if (PW.pt (pw_or (pt_not (pt_val (pe_callB call_isT (by rfl) T.z_isinstance bt_isinstance (pa_cons (pv 0) (pa_cons (pe_bltn (v := V.ty "str") (by rfl) T.z_str bt_str rfl) pa_nil))))) (pw_or1 (pt_not (pt_chain op_le op_le pe_int (pe_callB call_len_str (by rfl) T.z_len bt_len (pa_cons (pv 0) pa_nil)) (pe_glob (v := V.int 8) (by rfl) T.g_MOST_LETTERS ⟨_, rfl⟩))))))
      (pss_one (ps_ret pe_bl))
      pss_nil)
    (pss_one (ps_ret (pe_callB (cr_all rfl) (by rfl) T.z_all bt_all (pa_cons (pe_lc (own := [("letter", 1)]) (g := gName 1) (by rfl) sc_is_word.nd (pi_str (pv 0)) (blkOk_by (own := [("letter", 1)]) (N := ["thing", "letter"]) (sc := defScope s_is_word) (by decide +kernel))
        (fun _ _ _ _ _ => (pg_name (i := 1) sc_is_word.nd rfl (by first | exact Or.inl rfl | exact Or.inr rfl))) (fun _ _ _ _ _ => pts_nil)
        (fun _ _ _ _ _ => (pe_chain op_le_str op_le_str pe_str (pv 1) pe_str))) pa_nil))))), ?_⟩
    refine ⟨_, rfl, _, _, rfl, hv, rfl, _, rfl, ?_⟩
    rcases inst_str hv with ⟨z, rfl, hz, e1⟩ | ⟨e1, e2⟩
    · rw [e1]
      refine iteF ?_
      refine ⟨_, rfl, z, rfl, Nat.le_trans hz (by decide), _, _, rfl, rfl, _, rfl, ?_⟩
      refine ite2 (fun c1 => ⟨_, _, rfl, rfl, _, rfl, ?_⟩) (fun c1 => ⟨_, rfl, iteT ?_⟩)
      · refine ite2 (fun c2 => ?_) (fun c2 => ?_)
        · rw [wordV_hi c2] at k
          exact k H (Same.refl _)
        · refine ⟨_, rfl, z, rfl, fun D hD => ?_⟩
          refine lc_str_map (fun c => .bl (decide (97 ≤ c) && decide (c ≤ 122))) (Nat.lt_of_le_of_lt hz (by decide)) (fun c H R F hc hR => ⟨rfl, ?_⟩) ?_
          · refine ⟨_, rfl, _, _, rfl, rfl, _, rfl, ?_⟩
            rw [le_aS]
            by_cases q : 97 ≤ c
            · rw [decide_eq_true q] at hR ⊢
              refine iteT ⟨_, _, rfl, rfl, ?_⟩
              rw [le_zS]
              exact hR
            · rw [decide_eq_false q] at hR ⊢
              exact iteF hR
          · refine ⟨D, z.cps.toList.map fun c => decide (97 ≤ c) && decide (c ≤ 122), rfl, SqL.of (by rw [upd_same, List.map_map]; rfl), ?_⟩
            rw [← wordV_all c1 c2]
            exact k _ (same_new hD)
      · rw [wordV_lo c1] at k
        exact k H (Same.refl _)
    · rw [e1]
      refine iteT ?_
      rw [e2] at k
      exact k H (Same.refl _)
theorem sc_is_value : FnScope ["kind", "thing"] ["kind", "thing"] (defScope s_is_value) := ⟨rfl, rfl, rfl, by decide +kernel, rfl, by decide +kernel, by decide +kernel⟩

set_option maxHeartbeats 8000000 in
theorem ok_is_value {fa : Addr} {fd : FuncData} (T : Txt K mg a_BOUNDS a_BOUNDS_0 a_BOUNDS_1 a_BOUNDS_2 a_BOUNDS_3 a_BOUNDS_4 a_KINDS t_MOST_COLUMNS t_MOST_LETTERS t_MOST_NUMBER t_MOST_ROWS a_STORE_KINDS a_Heap a_Store a_Shape dA_Store___init__ kA_Store___init__ e_Store___init___key kA_Shape___init__) (D : Def K mg "is_value" s_is_value fa fd) : FnOk P w K mg base CX0 2 fa fd ["kind", "thing"] sp_is_value := by
  obtain ⟨fa_is_whole, fd_is_whole, D_is_whole⟩ := T.d_is_whole
  have G_is_whole := ok_is_whole (P := P) (w := w) (base := base) T D_is_whole
  have b_is_whole := D_is_whole.fn.binds (ps := ["thing"]) fun _ _ _ _ _ _ us hl => match us, hl with | [_], _ => rfl
  obtain ⟨fa_is_word, fd_is_word, D_is_word⟩ := T.d_is_word
  have G_is_word := ok_is_word (P := P) (w := w) (base := base) T D_is_word
  have b_is_word := D_is_word.fn.binds (ps := ["thing"]) fun _ _ _ _ _ _ us hl => match us, hl with | [_], _ => rfl
  refine D.fn.ok sc_is_value (fun vs H Q E h => ?_) (fun cdv A outer s H vs Q E hr h => ?_)
  · obtain ⟨x, v, rfl, _⟩ := h
    rfl
  ·
    have r_is_whole : Room 1 _ := hr.mono (by decide)
    have r_is_word : Room 1 _ := hr.mono (by decide)
    obtain ⟨x, v, rfl, hv, k⟩ := h
    refine ⟨_, (pss_cons (ps_if (pt_cmpR op_eq (pv 0) pe_str (nomark _))
      (pss_one (ps_ret (pe_and (pe_call G_is_whole r_is_whole (by rfl) D_is_whole.mg D_is_whole.fn.kp b_is_whole .nil pass0 (pa_cons (pv 1) pa_nil)) (pe_one (pe_chain op_le op_le (pe_un un_neg (pe_glob (v := V.int 999) (by rfl) T.g_MOST_NUMBER ⟨_, rfl⟩)) (pv 1) (pe_glob (v := V.int 999) (by rfl) T.g_MOST_NUMBER ⟨_, rfl⟩))))))
      pss_nil)
    (pss_one (ps_ret (pe_and (pe_cmpR op_eq (pv 0) pe_str (nomark _)) (pe_one (pe_call G_is_word r_is_word (by rfl) D_is_word.mg D_is_word.fn.kp b_is_word .nil pass0 (pa_cons (pv 1) pa_nil))))))), ?_⟩
    refine ⟨_, rfl, rfl, _, rfl, ?_⟩
    refine ite2 (fun c1 => ?_) (fun c1 => ?_)
    · obtain rfl : x = "number" := by simpa using c1
      refine ⟨_, rfl, v, rfl, hv, _, rfl, ?_⟩
      cases v with
      | int i =>
        refine iteT ⟨_, rfl, _, rfl, _, _, rfl, rfl, _, rfl, ?_⟩
        refine ite2 (fun c2 => ⟨_, _, rfl, rfl, ?_⟩) (fun c2 => ?_)
        · have e : isVal "number" (.int i) = decide (i ≤ 999) := by
            show (decide (-999 ≤ i) && decide (i ≤ 999)) = _
            rw [c2]; rfl
          rw [e] at k
          exact k H (Same.refl _)
        · have e : isVal "number" (.int i) = false := by
            show (decide (-999 ≤ i) && decide (i ≤ 999)) = _
            rw [Bool.eq_false_iff.mpr c2]; rfl
          rw [e] at k
          exact k H (Same.refl _)
      | _ => exact iteF (k H (Same.refl _))
    · refine ⟨_, rfl, rfl, _, rfl, ?_⟩
      refine ite2 (fun c2 => ?_) (fun c2 => ?_)
      · obtain rfl : x = "word" := by simpa using c2
        exact ⟨_, rfl, v, rfl, hv, fun H' s' => k H' s'⟩
      · have e : isVal x v = false := by
          unfold isVal
          rw [if_neg (fun z => c1 (by rw [z]; decide)), if_neg (fun z => c2 (by rw [z]; decide))]
        rw [e] at k
        exact k H (Same.refl _)
theorem sc_is_column : FnScope ["thing"] ["thing"] (defScope s_is_column) := ⟨rfl, rfl, rfl, by decide +kernel, rfl, by decide +kernel, by decide +kernel⟩
def sp_is_column : Sp := fun vs H Q _ => ∃ v d, vs = [v] ∧ Dt H v d ∧ shortD d = true ∧ ∀ H', Same H H' → Q (.bl (colD d)) H'
set_option maxHeartbeats 8000000 in
theorem ok_is_column {fa : Addr} {fd : FuncData} (T : Txt K mg a_BOUNDS a_BOUNDS_0 a_BOUNDS_1 a_BOUNDS_2 a_BOUNDS_3 a_BOUNDS_4 a_KINDS t_MOST_COLUMNS t_MOST_LETTERS t_MOST_NUMBER t_MOST_ROWS a_STORE_KINDS a_Heap a_Store a_Shape dA_Store___init__ kA_Store___init__ e_Store___init___key kA_Shape___init__) (D : Def K mg "is_column" s_is_column fa fd) : FnOk P w K mg base CX0 2 fa fd ["thing"] sp_is_column := by
  obtain ⟨fa_is_word, fd_is_word, D_is_word⟩ := T.d_is_word
  have G_is_word := ok_is_word (P := P) (w := w) (base := base) T D_is_word
  have b_is_word := D_is_word.fn.binds (ps := ["thing"]) fun _ _ _ _ _ _ us hl => match us, hl with | [_], _ => rfl
  refine D.fn.ok sc_is_column (fun vs H Q E h => ?_) (fun cdv A outer s H vs Q E hr h => ?_)
  · obtain ⟨v, d, rfl, _⟩ := h
    rfl
  ·
    have r_is_word : Room 1 _ := hr.mono (by decide)
    obtain ⟨v, d, rfl, hv, sd, k⟩ := h
    refine ⟨_, (pss_cons (ps_if (PW.pt (pw_or (pt_not (pt_val (pe_callB call_isT (by rfl) T.z_isinstance bt_isinstance (pa_cons (pv 0) (pa_cons (pe_bltn (v := V.ty "tuple") (by rfl) T.z_tuple bt_tuple rfl) pa_nil))))) (pw_or1 (pt_cmpR op_ne (pe_callB call_len_seq (by rfl) T.z_len bt_len (pa_cons (pv 0) pa_nil)) pe_int (nomark _)))))
      (pss_one (ps_ret pe_bl))
      pss_nil)
    (pss_one (ps_ret (pe_and (pe_call G_is_word r_is_word (by rfl) D_is_word.mg D_is_word.fn.kp b_is_word .nil pass0 (pa_cons (pe_ix ix_tup (pv 0) pe_int (fun _ _ => rfl)) pa_nil)) (pe_one (pe_cmpR (op_inS (K := K) hr.units) (pe_ix ix_tup (pv 0) pe_int (fun _ _ => rfl)) (pe_glob (v := V.ref a_KINDS) (by rfl) T.g_KINDS rfl) (by rfl))))))), ?_⟩
    refine ⟨_, rfl, _, _, rfl, hv.tyd sd, rfl, _, rfl, ?_⟩
    rw [hv.instTup]
    cases hv with
    | @tup a xs ds e r =>
      refine iteF ?_
      refine ⟨_, rfl, a, _, rfl, .inr (SqT.of e), rfl, _, rfl, ?_⟩
      by_cases hx : xs.length = 2
      · refine iteNS (by rw [hx]; rfl) ?_
        obtain ⟨x, y, rfl⟩ := len_two hx
        cases r with
        | @cons _ _ dx _ rx r =>
          cases r with
          | @cons _ _ dy _ ry r =>
            cases r
            have sx : shortD dx = true := shortAll_mem sd (by simp)
            have sy : shortD dy = true := shortAll_mem sd (by simp)
            refine ⟨_, rfl, a, _, _, _, rfl, rfl, SqT.of e, rfl, x, rfl, rx.tyd sx, fun H1 s1 => ?_⟩
            rw [rx.word]
            refine ⟨_, rfl, ?_⟩
            have k' : ∀ b : Bool, (wordD dx && kindD dy) = b → ∀ H', Same H H' → Q (.bl b) H' := fun b e H' s => by subst e; exact k H' s
            cases ew : wordD dx with
            | false => exact iteF (k' _ (by rw [ew]; rfl) _ s1)
            | true =>
              refine iteT ?_
              refine ⟨_, rfl, a, _, _, _, rfl, rfl, SqT.of (s1 _ _ e), rfl, a_KINDS, ["number", "word"], rfl, .inr T.q_KINDS, ?_⟩
              cases ry with
              | non => exact .inl ⟨rfl, k' _ (by rw [ew]; rfl) _ s1⟩
              | bl c => exact .inl ⟨rfl, k' _ (by rw [ew]; rfl) _ s1⟩
              | int i => exact .inl ⟨rfl, k' _ (by rw [ew]; rfl) _ s1⟩
              | str z => exact .inl ⟨rfl, k' _ (by rw [ew, kind_in]; rfl) _ s1⟩
              | lst e2 r2 => exact .inr ⟨_, rfl, .inl ⟨_, s1 _ _ e2⟩, k' _ (by rw [ew]; rfl) _ s1⟩
              | tup e2 r2 => exact .inr ⟨_, rfl, .inr ⟨_, s1 _ _ e2⟩, k' _ (by rw [ew]; rfl) _ s1⟩
      · have e2 : ¬ (V.int (xs.length : Int) = V.int 2) := by
          intro z
          injection z with z
          exact hx (by omega)
        rw [decide_eq_false e2]
        refine iteT ?_
        have e3 : colD (.tuple ds) = false := by
          rw [r.length] at hx
          rcases ds with _ | ⟨x, _ | ⟨y, _ | ⟨z, ds⟩⟩⟩ <;> first | rfl | exact absurd rfl hx
        rw [e3] at k
        exact k H (Same.refl _)
    | _ => exact iteT (k H (Same.refl _))
theorem sc_is_form : FnScope ["thing", "column", "name", "kind"] ["thing"] (defScope s_is_form) := ⟨rfl, rfl, rfl, by decide +kernel, rfl, by decide +kernel, by decide +kernel⟩
def sp_is_form : Sp := fun vs H Q _ => ∃ v d, vs = [v] ∧ Dt H v d ∧ shortD d = true ∧ ∀ H', Same H H' → Q (.bl (formD d)) H'
set_option maxHeartbeats 8000000 in
theorem ok_is_form {fa : Addr} {fd : FuncData} (T : Txt K mg a_BOUNDS a_BOUNDS_0 a_BOUNDS_1 a_BOUNDS_2 a_BOUNDS_3 a_BOUNDS_4 a_KINDS t_MOST_COLUMNS t_MOST_LETTERS t_MOST_NUMBER t_MOST_ROWS a_STORE_KINDS a_Heap a_Store a_Shape dA_Store___init__ kA_Store___init__ e_Store___init___key kA_Shape___init__) (D : Def K mg "is_form" s_is_form fa fd) : FnOk P w K mg base CX0 3 fa fd ["thing"] sp_is_form := by
  obtain ⟨fa_is_column, fd_is_column, D_is_column⟩ := T.d_is_column
  have G_is_column := ok_is_column (P := P) (w := w) (base := base) T D_is_column
  have b_is_column := D_is_column.fn.binds (ps := ["thing"]) fun _ _ _ _ _ _ us hl => match us, hl with | [_], _ => rfl
  refine D.fn.ok sc_is_form (fun vs H Q E h => ?_) (fun cdv A outer s H vs Q E hr h => ?_)
  · obtain ⟨v, d, rfl, _⟩ := h
    rfl
  ·
    have r_is_column : Room 2 _ := hr.mono (by decide)
    obtain ⟨v, d, rfl, hv, sd, k⟩ := h
    refine ⟨_, (pss_cons (ps_if (PW.pt (pw_or (pt_not (pt_val (pe_callB call_isT (by rfl) T.z_isinstance bt_isinstance (pa_cons (pv 0) (pa_cons (pe_bltn (v := V.ty "tuple") (by rfl) T.z_tuple bt_tuple rfl) pa_nil))))) (pw_or1 (pt_not (pt_chain op_le op_le pe_int (pe_callB call_len_seq (by rfl) T.z_len bt_len (pa_cons (pv 0) pa_nil)) (pe_glob (v := V.int 6) (by rfl) T.g_MOST_COLUMNS ⟨_, rfl⟩))))))
      (pss_one (ps_ret pe_bl))
      pss_nil)
    (pss_cons (ps_if (pt_not (pt_val (pe_callB (cr_all rfl) (by rfl) T.z_all bt_all (pa_cons (pe_lc (own := [("column", 1)]) (g := gName 1) (by rfl) sc_is_form.nd (pi_tup (pv 0)) (blkOk_by (own := [("column", 1)]) (N := ["thing", "column", "name", "kind"]) (sc := defScope s_is_form) (by decide +kernel))
        (fun _ _ _ _ _ => (pg_name (i := 1) sc_is_form.nd rfl (by first | exact Or.inl rfl | exact Or.inr rfl))) (fun _ _ _ _ _ => pts_nil)
        (fun _ _ _ _ _ => (pe_call G_is_column r_is_column (by rfl) D_is_column.mg D_is_column.fn.kp b_is_column .nil pass0 (pa_cons (pv 1) pa_nil)))) pa_nil))))
      (pss_one (ps_ret pe_bl))
      pss_nil)
    (pss_one (ps_ret (pe_cmpR op_eq (pe_callB call_lenS (by rfl) T.z_len bt_len (pa_cons (pe_sc (own := [("name", 2), ("kind", 3)]) (by rfl) sc_is_form.nd (pi_tup (pv 0)) (blkOk_by (own := [("name", 2), ("kind", 3)]) (N := ["thing", "column", "name", "kind"]) (sc := defScope s_is_form) (by decide +kernel))
        (fun _ _ _ _ _ => (pg_tupK (K := K) (n := 2) (by rfl) (pgs_cons (pg_name (i := 2) sc_is_form.nd rfl (by first | exact Or.inl rfl | exact Or.inr rfl)) (pgs_cons (pg_name (i := 3) sc_is_form.nd rfl (by first | exact Or.inl rfl | exact Or.inr rfl)) pgs_nil)))) (fun _ _ _ _ _ => pts_nil)
        (fun _ _ _ _ _ => (pv 2))) pa_nil)) (pe_callB call_len_seq (by rfl) T.z_len bt_len (pa_cons (pv 0) pa_nil)) (nomark _)))))), ?_⟩
    refine ⟨_, rfl, _, _, rfl, hv.tyd sd, rfl, _, rfl, ?_⟩
    rw [hv.instTup]
    cases hv with
    | @tup a xs ds e r =>
      have hlen := r.length
      have kf : ∀ c : Bool, formD (.tuple ds) = c → ∀ H', Same H H' → Q (.bl c) H' := fun c e H' s => by subst e; exact k H' s
      refine iteF ?_
      refine ⟨_, rfl, a, _, rfl, .inr (SqT.of e), _, _, rfl, rfl, _, rfl, ?_⟩
      refine ite2 (fun c1 => ⟨_, _, rfl, rfl, _, rfl, ?_⟩) (fun c1 => ⟨_, rfl, iteT ?_⟩)
      · refine ite2 (fun c2 => ?_) (fun c2 => ?_)
        · refine kf false ?_ H (Same.refl _)
          show (decide (1 ≤ ds.length) && decide (ds.length ≤ 6) && ds.all colD && decide ((ds.map nameD).Nodup)) = false
          rw [decide_eq_false (show ¬ ds.length ≤ 6 by simp only [Bool.not_eq_true', decide_eq_false_iff_not] at c2; omega)]
          simp
        · have l6 : ds.length ≤ 6 := by simp at c2; omega
          have l1 : 1 ≤ ds.length := by simp only [decide_eq_true_eq] at c1; omega
          refine ⟨_, rfl, a, rfl, ⟨_, SqT.of e⟩, fun D hD => ?_⟩
          refine lc_tup_map hD (fun i => .bl (colD (ds.getD i .none))) e (Nat.lt_of_le_of_lt (show xs.length ≤ 6 by omega) (by decide)) (fun i x H1 R F hx s1 hR => ⟨rfl, ?_⟩) (fun H1 s1 eD => ?_)
          · obtain ⟨d, hd, dx⟩ := r.get hx
            refine ⟨_, rfl, x, d, rfl, dx.same s1, shortAll_mem sd (List.mem_of_getElem? hd), fun H2 s2 => ?_⟩
            have := hR H2 s2
            rw [List.getD_eq_getElem?_getD, hd] at this
            exact this
          · refine ⟨D, (List.range xs.length).map fun i => colD (ds.getD i .none), rfl, SqL.of (by rw [eD, List.map_map]; rfl), _, rfl, ?_⟩
            have ea : (((List.range xs.length).map fun i => colD (ds.getD i .none)).all id) = ds.all colD := by
              rw [hlen]
              exact range_all ds colD .none
            rw [ea]
            refine ite2 (fun c3 => ?_) (fun c3 => ?_)
            · refine kf false ?_ H1 s1
              show (decide (1 ≤ ds.length) && decide (ds.length ≤ 6) && ds.all colD && decide ((ds.map nameD).Nodup)) = false
              have : ds.all colD = false := by simpa using c3
              rw [this]
              simp
            · have ca : ds.all colD = true := by simpa using c3
              refine ⟨_, rfl, a, rfl, ⟨_, SqT.of (s1 _ _ e)⟩, fun D2 hD2 => ?_⟩
              refine sc_tup_map hD2 (fun i => Sum.inr (nameD (ds.getD i .none))) (s1 _ _ e) (by omega) (fun i x H2 R F hx s2 hR => ?_) (fun H2 s2 eD2 => ?_)
              · obtain ⟨d, hd, dx⟩ := r.get hx
                have cd := List.all_eq_true.mp ca d (List.mem_of_getElem? hd)
                obtain ⟨ta, rfl, z, kd, rfl, et⟩ := col_pair dx cd
                refine ⟨ta, _, rfl, SqT.of (s2 _ _ (s1 _ _ et)), rfl, _, _, rfl, _, _, rfl, rfl, rfl, ?_⟩
                refine ⟨_, rfl, ?_⟩
                have := hR H2 (Same.refl _)
                rw [List.getD_eq_getElem?_getD, hd] at this
                exact this
              · refine ⟨D2, _, rfl, eD2, ?_, _, rfl, a, _, rfl, .inr (SqT.of (s2 _ _ (s1 _ _ e))), rfl, ?_⟩
                · rw [List.length_reverse, List.length_map, List.length_range]; omega
                · refine kf _ ?_ H2 (s1.trans s2)
                  rw [hlen, range_map ds (fun d => (Sum.inr (nameD d) : Key)) .none]
                  exact form_set l1 l6 ca
      · refine kf false ?_ H (Same.refl _)
        show (decide (1 ≤ ds.length) && decide (ds.length ≤ 6) && ds.all colD && decide ((ds.map nameD).Nodup)) = false
        rw [decide_eq_false (show ¬ 1 ≤ ds.length by simp only [decide_eq_true_eq] at c1; omega)]
        simp
    | _ => exact iteT (k H (Same.refl _))
theorem sc_is_row : FnScope ["form", "thing", "name", "kind", "value"] ["form", "thing"] (defScope s_is_row) := ⟨rfl, rfl, rfl, by decide +kernel, rfl, by decide +kernel, by decide +kernel⟩

set_option maxHeartbeats 8000000 in
theorem ok_is_row {fa : Addr} {fd : FuncData} (T : Txt K mg a_BOUNDS a_BOUNDS_0 a_BOUNDS_1 a_BOUNDS_2 a_BOUNDS_3 a_BOUNDS_4 a_KINDS t_MOST_COLUMNS t_MOST_LETTERS t_MOST_NUMBER t_MOST_ROWS a_STORE_KINDS a_Heap a_Store a_Shape dA_Store___init__ kA_Store___init__ e_Store___init___key kA_Shape___init__) (D : Def K mg "is_row" s_is_row fa fd) : FnOk P w K mg base CX0 3 fa fd ["form", "thing"] sp_is_row := by
  obtain ⟨fa_is_value, fd_is_value, D_is_value⟩ := T.d_is_value
  have G_is_value := ok_is_value (P := P) (w := w) (base := base) T D_is_value
  have b_is_value := D_is_value.fn.binds (ps := ["kind", "thing"]) fun _ _ _ _ _ _ us hl => match us, hl with | [_, _], _ => rfl
  refine D.fn.ok sc_is_row (fun vs H Q E h => ?_) (fun cdv A outer s H vs Q E hr h => ?_)
  · obtain ⟨a, cols, v, n, rfl, _⟩ := h
    rfl
  ·
    have r_is_value : Room 2 _ := hr.mono (by decide)
    obtain ⟨a, cols, v, n, rfl, hf, hc, hk, hv, hn, k⟩ := h
    refine ⟨_, (pss_cons (ps_if (PW.pt (pw_or (pt_not (pt_val (pe_callB call_isT (by rfl) T.z_isinstance bt_isinstance (pa_cons (pv 1) (pa_cons (pe_bltn (v := V.ty "tuple") (by rfl) T.z_tuple bt_tuple rfl) pa_nil))))) (pw_or1 (pt_cmpR op_ne (pe_callB call_len_seq (by rfl) T.z_len bt_len (pa_cons (pv 1) pa_nil)) (pe_callB call_len_seq (by rfl) T.z_len bt_len (pa_cons (pv 0) pa_nil)) (nomark _)))))
      (pss_one (ps_ret pe_bl))
      pss_nil)
    (pss_one (ps_ret (pe_callB (cr_all rfl) (by rfl) T.z_all bt_all (pa_cons (pe_lc (own := [("name", 2), ("kind", 3), ("value", 4)]) (by rfl) sc_is_row.nd (pi_zip2 (by rfl) T.z_zip (pa_cons (pv 0) (pa_cons (pv 1) pa_nil))) (blkOk_by (own := [("name", 2), ("kind", 3), ("value", 4)]) (N := ["form", "thing", "name", "kind", "value"]) (sc := defScope s_is_row) (by decide +kernel))
        (fun _ _ _ _ _ => (pg_tupK (K := K) (n := 2) (by rfl) (pgs_cons (pg_tupK (K := K) (n := 2) (by rfl) (pgs_cons (pg_name (i := 2) sc_is_row.nd rfl (by first | exact Or.inl rfl | exact Or.inr rfl)) (pgs_cons (pg_name (i := 3) sc_is_row.nd rfl (by first | exact Or.inl rfl | exact Or.inr rfl)) pgs_nil))) (pgs_cons (pg_name (i := 4) sc_is_row.nd rfl (by first | exact Or.inl rfl | exact Or.inr rfl)) pgs_nil)))) (fun _ _ _ _ _ => pts_nil)
        (fun _ _ _ _ _ => (pe_call G_is_value r_is_value (by rfl) D_is_value.mg D_is_value.fn.kp b_is_value .nil pass0 (pa_cons (pv 3) (pa_cons (pv 4) pa_nil))))) pa_nil))))), ?_⟩
    refine ⟨_, rfl, _, _, rfl, hv.1, rfl, _, rfl, ?_⟩
    rcases inst_tup hv with ⟨t, xs, rfl, et, xl, xt, e1⟩ | ⟨e1, f1⟩
    · rw [e1]
      refine iteF ?_
      rw [rowOf_tup et] at k
      obtain ⟨ts, ea, lt, ft⟩ := id hf.ex
      refine ⟨_, rfl, t, _, rfl, .inr (SqT.of et), _, rfl, a, _, rfl, .inr (SqT.of ea), rfl, _, rfl, ?_⟩
      by_cases hx : xs.length = cols.length
      · have e2 : (V.int (xs.length : Int) = V.int ((ts.map V.ref).length : Int)) := by rw [List.length_map, lt, hx]
        refine iteNS e2 ?_
        refine ⟨_, rfl, _, rfl, (false, a), (false, t), _, _, rfl, SqS.tup ea, SqS.tup et, fun D hD => ?_⟩
        refine lc_zip2_map hD (fun i => .bl (isVal (cols.getD i ("", "")).2 (xs.getD i .non))) (SqS.tup ea) (SqS.tup et) (by rw [List.length_map, lt]; omega) (fun i x y T H' R F hx' hy' s' eT hR => ?_) ?_
        · have hi : i < cols.length := by rw [← hx]; exact (List.getElem?_eq_some_iff.mp hy').1
          obtain ⟨ti, hti, rfl⟩ : ∃ ti, ts[i]? = some ti ∧ x = V.ref ti := by
            rw [List.getElem?_map] at hx'
            cases q : ts[i]? with
            | none => rw [q] at hx'; cases hx'
            | some ti => rw [q] at hx'; exact ⟨ti, rfl, (Option.some.inj hx').symm⟩
          have hci : cols[i]? = some cols[i] := by simp [hi]
          have et' := s' _ _ (ft i ti _ hti hci)
          refine ⟨T, _, rfl, SqT.of eT, rfl, _, _, rfl, ti, _, rfl, SqT.of et', rfl, _, _, rfl, _, _, rfl, rfl, _, _, rfl, rfl, rfl, ?_⟩
          refine ⟨_, rfl, _, rfl, _, y, rfl, (xt y (List.mem_of_getElem? hy')).same s', fun H5 s5 => ?_⟩
          have := hR H5 s5
          rw [List.getD_eq_getElem?_getD, List.getD_eq_getElem?_getD, hci, hy'] at this
          exact this
        · intro H' s' eD
          refine ⟨D, (List.range (min cols.length xs.length)).map fun i => isVal (cols.getD i ("", "")).2 (xs.getD i .non), rfl, SqL.of ?_, ?_⟩
          · rw [eD, List.length_map, lt, List.map_map]; rfl
          · have e3 : rowB cols xs = rowR cols xs := by unfold rowB; rw [decide_eq_true hx]; rfl
            rw [e3] at k
            exact k H' s'
      · have e2 : ¬ (V.int (xs.length : Int) = V.int ((ts.map V.ref).length : Int)) := by
          rw [List.length_map, lt]
          intro z
          injection z with z
          exact hx (by omega)
        rw [decide_eq_false e2]
        refine iteT ?_
        have e3 : rowB cols xs = false := by unfold rowB; rw [decide_eq_false hx]; rfl
        rw [e3] at k
        exact k H (Same.refl _)
    · rw [e1]
      refine iteT ?_
      rw [rowOf_no hv f1] at k
      exact k H (Same.refl _)
theorem sc_column_names : FnScope ["form", "name", "kind"] ["form"] (defScope s_column_names) := ⟨rfl, rfl, rfl, by decide +kernel, rfl, by decide +kernel, by decide +kernel⟩

set_option maxHeartbeats 8000000 in
theorem ok_column_names {fa : Addr} {fd : FuncData} (T : Txt K mg a_BOUNDS a_BOUNDS_0 a_BOUNDS_1 a_BOUNDS_2 a_BOUNDS_3 a_BOUNDS_4 a_KINDS t_MOST_COLUMNS t_MOST_LETTERS t_MOST_NUMBER t_MOST_ROWS a_STORE_KINDS a_Heap a_Store a_Shape dA_Store___init__ kA_Store___init__ e_Store___init___key kA_Shape___init__) (D : Def K mg "column_names" s_column_names fa fd) : FnOk P w K mg base CX0 1 fa fd ["form"] sp_column_names := by
  refine D.fn.ok sc_column_names (fun vs H Q E h => ?_) (fun cdv A outer s H vs Q E hr h => ?_)
  · obtain ⟨a, cols, rfl, _⟩ := h
    rfl
  ·
    obtain ⟨a, cols, rfl, hf, hl, k⟩ := h
    refine ⟨_, (pss_one (ps_ret (pe_callTy call_tuple_of (by rfl) T.z_tuple bt_tuple (pa_cons (pe_lc (own := [("name", 1), ("kind", 2)]) (by rfl) sc_column_names.nd (pi_tup (pv 0)) (blkOk_by (own := [("name", 1), ("kind", 2)]) (N := ["form", "name", "kind"]) (sc := defScope s_column_names) (by decide +kernel))
        (fun _ _ _ _ _ => (pg_tupK (K := K) (n := 2) (by rfl) (pgs_cons (pg_name (i := 1) sc_column_names.nd rfl (by first | exact Or.inl rfl | exact Or.inr rfl)) (pgs_cons (pg_name (i := 2) sc_column_names.nd rfl (by first | exact Or.inl rfl | exact Or.inr rfl)) pgs_nil)))) (fun _ _ _ _ _ => pts_nil)
        (fun _ _ _ _ _ => (pv 1))) pa_nil)))), ?_⟩
    obtain ⟨ts, ea, lt, ft⟩ := id hf.ex
    refine ⟨_, rfl, a, rfl, ⟨_, SqT.of ea⟩, fun D hD => ?_⟩
    refine lc_tup_map hD (fun i => .str (cols.getD i ("", "")).1) ea (by rw [List.length_map, lt]; exact lt_line (by omega)) ?_ ?_
    · intro i x H1 R F hx s1 hR
      rw [List.getElem?_map] at hx
      obtain ⟨t, ht, rfl⟩ := Option.map_eq_some_iff.mp hx
      have hi : i < cols.length := by rw [← lt]; exact (List.getElem?_eq_some_iff.mp ht).1
      have hci : cols[i]? = some cols[i] := by simp [hi]
      have := hR H1 (Same.refl _)
      rw [List.getD_eq_getElem?_getD, hci] at this
      exact ⟨t, _, rfl, SqT.of (s1 _ _ (ft i t _ ht hci)), rfl, _, _, rfl, _, _, rfl, rfl, rfl, _, rfl, this⟩
    · intro H1 s1 hD1
      rw [List.length_map, lt, range_mapD (fun c : Str × Str => V.str c.1)] at hD1
      exact ⟨D, _, rfl, .inl ⟨SqL.of hD1, fun q hq => k q _ (s1.trans (same_new hq)) upd_same⟩⟩
theorem sc_picked : FnScope ["columns", "values", "wanted", "column"] ["columns", "values", "wanted"] (defScope s_picked) := ⟨rfl, rfl, rfl, by decide +kernel, rfl, by decide +kernel, by decide +kernel⟩

set_option maxHeartbeats 8000000 in
theorem ok_picked {fa : Addr} {fd : FuncData} (T : Txt K mg a_BOUNDS a_BOUNDS_0 a_BOUNDS_1 a_BOUNDS_2 a_BOUNDS_3 a_BOUNDS_4 a_KINDS t_MOST_COLUMNS t_MOST_LETTERS t_MOST_NUMBER t_MOST_ROWS a_STORE_KINDS a_Heap a_Store a_Shape dA_Store___init__ kA_Store___init__ e_Store___init___key kA_Shape___init__) (D : Def K mg "picked" s_picked fa fd) : FnOk P w K mg base CX0 1 fa fd ["columns", "values", "wanted"] (sp_picked K) := by
  refine D.fn.ok sc_picked (fun vs H Q E h => ?_) (fun cdv A outer s H vs Q E hr h => ?_)
  · obtain ⟨c, r, p, names, row, ws, rfl, _⟩ := h
    rfl
  ·
    obtain ⟨c, r, p, names, row, ws, rfl, hc, hr', hp, hw, hl, hl2, k⟩ := h
    refine ⟨_, (pss_one (ps_ret (pe_callTy call_tuple_of (by rfl) T.z_tuple bt_tuple (pa_cons (pe_lc (own := [("column", 3)]) (g := gName 3) (by rfl) sc_picked.nd (pi_tup (pv 2)) (blkOk_by (own := [("column", 3)]) (N := ["columns", "values", "wanted", "column"]) (sc := defScope s_picked) (by decide +kernel))
        (fun _ _ _ _ _ => (pg_name (i := 3) sc_picked.nd rfl (by first | exact Or.inl rfl | exact Or.inr rfl))) (fun _ _ _ _ _ => pts_nil)
        (fun _ _ _ _ _ => (pe_ix (ix_tupK (K := K)) (pv 1) (pe_indexT (pv 0) (pv 3)) (fun _ _ => rfl)))) pa_nil)))), ?_⟩
    refine ⟨_, rfl, p, rfl, ⟨_, hp⟩, fun D hD => ?_⟩
    refine lc_tup_mapK hD (fun i => kV (valAt names row (ws.getD i ""))) hp (by rw [List.length_map]; exact lt_line (by omega)) ?_ ?_
    · intro i x H1 R F hx s1 hR
      rw [List.getElem?_map] at hx
      obtain ⟨w, hwi, rfl⟩ := Option.map_eq_some_iff.mp hx
      have hwn := hw w (List.mem_of_getElem? hwi)
      have hlt : names.idxOf w < row.length := by rw [← hl]; exact List.idxOf_lt_length_of_mem hwn
      have hc1 := s1 _ _ hc
      have ew : ws.getD i "" = w := by rw [List.getD_eq_getElem?_getD, hwi]; rfl
      have := hR H1 (Same.refl _)
      rw [ew] at this
      refine ⟨rfl, _, rfl, _, rfl, ⟨c, _, rfl, hc1⟩, _, rfl, c, _, names.idxOf w, _, rfl, hc1, rfl, by simp [flatV], idx_at hwn, by simp [eqV], fun m z' hm hz => idx_no hm hz, ?_⟩
      refine ⟨r, _, _, _, rfl, rfl, SqT.of (s1 _ _ hr'), atI_nat (j := names.idxOf w) (v := kV (valAt names row w)) ?_, this⟩
      rw [List.getElem?_map, List.getElem?_eq_getElem hlt]
      unfold valAt
      rw [List.getD_eq_getElem?_getD, List.getElem?_eq_getElem hlt]
      rfl
    · intro H1 s1 hD1
      rw [List.length_map, range_mapD (fun w => kV (valAt names row w))] at hD1
      refine ⟨D, _, rfl, .inl ⟨SqL.of hD1, fun q hq => k q _ (s1.trans (same_new hq)) ?_⟩⟩
      rw [upd_same, List.map_map]
      rfl
theorem sc_changed : FnScope ["columns", "values", "column", "value", "at"] ["columns", "values", "column", "value"] (defScope s_changed) := ⟨rfl, rfl, rfl, by decide +kernel, rfl, by decide +kernel, by decide +kernel⟩

set_option maxHeartbeats 8000000 in
theorem ok_changed {fa : Addr} {fd : FuncData} (T : Txt K mg a_BOUNDS a_BOUNDS_0 a_BOUNDS_1 a_BOUNDS_2 a_BOUNDS_3 a_BOUNDS_4 a_KINDS t_MOST_COLUMNS t_MOST_LETTERS t_MOST_NUMBER t_MOST_ROWS a_STORE_KINDS a_Heap a_Store a_Shape dA_Store___init__ kA_Store___init__ e_Store___init___key kA_Shape___init__) (D : Def K mg "changed" s_changed fa fd) : FnOk P w K mg base CX0 1 fa fd ["columns", "values", "column", "value"] sp_changed := by
  refine D.fn.ok sc_changed (fun vs H Q E h => ?_) (fun cdv A outer s H vs Q E hr h => ?_)
  · obtain ⟨c, r, v, names, row, w, rfl, _⟩ := h
    rfl
  ·
    obtain ⟨c, r, v, names, row, w, rfl, hc, hr', hw, hl, hl2, k⟩ := h
    refine ⟨_, (pss_cons (ps_asg (pe_indexT (pv 0) (pv 2)) (pg_name (i := 4) sc_changed.nd rfl (by first | exact Or.inl rfl | exact Or.inr rfl)))
    (pss_one (ps_ret (pe_op op_catS (pe_op op_catS (pe_slice sl_tupS (pv 1) po_none (po_some (pv 4))) (pe_tup (pa_cons (pv 3) pa_nil))) (pe_slice sl_tupS (pv 1) (po_some (pe_op op_add (pv 4) pe_int)) po_none))))), ?_⟩
    refine ⟨_, rfl, ⟨c, _, rfl, hc⟩, _, rfl, c, _, names.idxOf w, _, rfl, hc, rfl, by simp [flatV], idx_at hw, by simp [eqV], fun m z' hm hz => idx_no hm hz, ?_⟩
    have hlt : names.idxOf w < row.length := by rw [← hl]; exact List.idxOf_lt_length_of_mem hw
    refine ⟨_, rfl, _, rfl, _, rfl, r, _, rfl, hr', fun q1 H1 s1 hq1 => ?_⟩
    refine ⟨_, rfl, by show 1 ≤ sizeLine; decide, fun q2 hq2 => ?_⟩
    have s2 := s1.trans (same_new (o := HO.tup [kV v]) hq2)
    rw [cut_to, ← List.map_take] at hq1
    have hz := sizeLine_eq
    refine ⟨q1, q2, _, _, rfl, rfl, same_new hq2 _ _ hq1, upd_same, ?_, fun q3 H3 s3 hq3 => ?_⟩
    · simp only [List.length_map, List.length_take, List.length_cons, List.length_nil]; omega
    refine ⟨_, rfl, _, rfl, _, _, rfl, rfl, _, rfl, r, _, rfl, s3 _ _ (s2 _ _ hr'), fun q4 H4 s4 hq4 => ?_⟩
    rw [show ((names.idxOf w : Nat) : Int) + 1 = ((names.idxOf w + 1 : Nat) : Int) by omega, cut_from, ← List.map_drop] at hq4
    refine ⟨q3, q4, _, _, rfl, rfl, s4 _ _ hq3, hq4, ?_, fun q5 H5 s5 hq5 => ?_⟩
    · simp only [List.length_map, List.length_take, List.length_drop, List.length_append, List.length_cons, List.length_nil]; omega
    refine k q5 H5 (s2.trans (s3.trans (s4.trans s5))) ?_
    rw [hq5, List.set_eq_take_append_cons_drop, if_pos hlt]
    simp
theorem sc_Heap___init__ : FnScope ["self", "most"] ["self", "most"] (defScope s_Heap___init__) := ⟨rfl, rfl, rfl, by decide +kernel, rfl, by decide +kernel, by decide +kernel⟩

set_option maxHeartbeats 8000000 in
theorem ok_Heap___init__ {fa : Addr} {fd : FuncData} (T : Txt K mg a_BOUNDS a_BOUNDS_0 a_BOUNDS_1 a_BOUNDS_2 a_BOUNDS_3 a_BOUNDS_4 a_KINDS t_MOST_COLUMNS t_MOST_LETTERS t_MOST_NUMBER t_MOST_ROWS a_STORE_KINDS a_Heap a_Store a_Shape dA_Store___init__ kA_Store___init__ e_Store___init___key kA_Shape___init__) (D : MkDef K a_Heap "Heap.__init__" s_Heap___init__ fa fd) : FnOk P w K mg base CX0 1 fa fd ["self", "most"] (sp_Heap___init__ a_Heap) := by
  refine D.fn.ok sc_Heap___init__ (fun vs H Q E h => ?_) (fun cdv A outer s H vs Q E hr h => ?_)
  · obtain ⟨x, dx, m, rfl, _⟩ := h
    rfl
  ·
    obtain ⟨x, dx, m, rfl, hx, k⟩ := h
    refine ⟨_, (pss_cons (ps_fld (pv 0) (pv 1) rfl)
    (pss_one (ps_fld (pv 0) (pe_lst pa_nil) rfl))), ?_⟩
    refine ⟨_, rfl, _, rfl, x, a_Heap, dx, [], rfl, hx, T.cl_Heap, T.na_Heap_most, by show 0 < 1000; decide, ?_⟩
    refine ⟨by show 0 ≤ sizeLine; decide, fun l hl => ?_⟩
    have nx : l ≠ x := fun z => by subst z; rw [upd_same] at hl; cases hl
    have hl0 : H l = none := by rw [upd_ne nx] at hl; exact hl
    have hx1 : (upd (upd H x (.ins a_Heap dx (putF "most" (V.int m) []))) l (.lst [])) x = some (.ins a_Heap dx (putF "most" (V.int m) [])) := by rw [upd_ne nx.symm]; exact upd_same
    refine ⟨_, rfl, x, a_Heap, dx, _, rfl, hx1, T.cl_Heap, T.na_Heap_held, by show 1 < 1000; decide, ?_⟩
    refine k [x, l] _ ⟨dx, l, [l], by rw [upd_same, hfld_init], ?_, by simp [nx.symm], rfl⟩ (fun b o e nb => ?_) (fun y hy => ?_)
    · exact chOk.frm (Ch.new hl) (.upd hx1 (g := [x]) (by simp) (fun _ z => by cases z)) (fun y p q => by rw [List.mem_singleton.mp p] at q; exact nx (List.mem_singleton.mp q))
    · rw [upd_ne nb, upd_ne (ne_of_none e hl0), upd_ne nb]
      exact e
    · rcases List.mem_cons.mp hy with rfl | hy
      · exact .inl rfl
      · rw [List.mem_singleton.mp hy]; exact .inr hl0
theorem sc_Heap_put : FnScope ["self", "thing", "at"] ["self", "thing"] (defScope s_Heap_put) := ⟨rfl, rfl, rfl, by decide +kernel, rfl, by decide +kernel, by decide +kernel⟩

set_option maxHeartbeats 8000000 in
theorem ok_Heap_put {fa : Addr} {fd : FuncData} (T : Txt K mg a_BOUNDS a_BOUNDS_0 a_BOUNDS_1 a_BOUNDS_2 a_BOUNDS_3 a_BOUNDS_4 a_KINDS t_MOST_COLUMNS t_MOST_LETTERS t_MOST_NUMBER t_MOST_ROWS a_STORE_KINDS a_Heap a_Store a_Shape dA_Store___init__ kA_Store___init__ e_Store___init___key kA_Shape___init__) (D : MDef K a_Heap "put" "Heap.put" s_Heap_put fa fd) : FnOk P w K mg base CX0 2 fa fd ["self", "thing"] (sp_Heap_put a_Heap) := by
  obtain ⟨fa_first_with_room, fd_first_with_room, D_first_with_room⟩ := T.d_first_with_room
  have G_first_with_room := ok_first_with_room (P := P) (w := w) (base := base) T D_first_with_room
  have b_first_with_room := D_first_with_room.fn.binds (ps := ["pages", "most"]) fun _ _ _ _ _ _ us hl => match us, hl with | [_, _], _ => rfl
  refine D.fn.ok sc_Heap_put (fun vs H Q E h => ?_) (fun cdv A outer s H vs Q E hr h => ?_)
  · obtain ⟨x, v, t, m, ps, f, rfl, _⟩ := h
    rfl
  ·
    have r_first_with_room : Room 1 _ := hr.mono (by decide)
    obtain ⟨x, v, t, m, ps, f, rfl, hB, hok, hT, hto, m0, k⟩ := h
    refine ⟨_, (pss_cons (ps_asg (pe_call G_first_with_room r_first_with_room (by rfl) D_first_with_room.mg D_first_with_room.fn.kp b_first_with_room .nil pass0 (pa_cons (pe_fld (pv 0) rfl) (pa_cons (pe_fld (pv 0) rfl) pa_nil))) (pg_name (i := 2) sc_Heap_put.nd rfl (by first | exact Or.inl rfl | exact Or.inr rfl)))
    (pss_cons (ps_if (pt_cmpR op_eq (pv 2) (pe_callB call_len_seq (by rfl) T.z_len bt_len (pa_cons (pe_fld (pv 0) rfl) pa_nil)) (nomark _))
      (pss_one (ps_expr (pe_bm PySem.F.plainAttrs_list PySem.F.slot_list_append PySem.F.type_list_append mt_append.r (pe_fld (pv 0) rfl) (pa_cons (pe_lst pa_nil) pa_nil))))
      pss_nil)
    (pss_cons (ps_expr (pe_bm PySem.F.plainAttrs_list PySem.F.slot_list_append PySem.F.type_list_append mt_append.r (pe_ix ix_list (pe_fld (pv 0) rfl) (pv 2) (fun _ _ => rfl)) (pa_cons (pv 1) pa_nil)))
    (pss_one (ps_ret (pe_ifExp (pt_cmpR op_eq (pe_callB call_len_seq (by rfl) T.z_len bt_len (pa_cons (pe_ix ix_list (pe_fld (pv 0) rfl) (pv 2) (fun _ _ => rfl)) pa_nil)) pe_int (nomark _)) pe_int pe_int)))))), ?_⟩
    obtain ⟨dx, a, g, hx, hC, hxg, rfl⟩ := id hB
    have fld := fun {H' : Hp} (e : H' x = some (.ins a_Heap dx [("most", .int m), ("held", .ref a)])) => e
    refine ⟨_, rfl, x, a_Heap, dx, _, _, rfl, hx, T.cl_Heap, T.na_Heap_held, hfld_held _ _, _, rfl, x, a_Heap, dx, _, _, rfl, hx, T.cl_Heap, T.na_Heap_most, hfld_most _ _, ?_⟩
    refine ⟨a, m, ps, g, rfl, hC, m0, fun H1 s1 => ?_⟩
    have hle : roomAt m.toNat ps ≤ ps.length := List.findIdx_le_length
    dsimp only [gName]
    refine seqR (fun σ' H' => σ' = [some (.ref x), some v, some (.int ((roomAt m.toNat ps : Nat) : Int))] ∧ ∃ g', Ch H' a (if roomAt m.toNat ps < ps.length then ps else ps ++ [[]]) g' ∧ Frm g H H' ∧ Nw H g g' ∧ H' x = some (.ins a_Heap dx [("most", .int m), ("held", .ref a)])) ?_ ?_
    · rintro σ' H2 ⟨rfl, g2, hC2, F2, N2, hx2⟩
      have hlt : roomAt m.toNat ps < (if roomAt m.toNat ps < ps.length then ps else ps ++ [[]]).length := by
        split
        · assumption
        · rw [List.length_append]; simp; omega
      obtain ⟨cs', pg, d, xs, g0, g1, g2', g3, g4, g5, g6, g7⟩ := hC2.page hlt
      have hT2 := hT.frm F2
      have hdl : d.length < 10000 := by
        by_cases c : roomAt m.toNat ps < ps.length
        · rw [if_pos c] at g3
          have := (hok.at_ g3).1
          omega
        · rw [if_neg c, List.getElem?_append_right (by omega)] at g3
          have : d = [] := by
            have e : roomAt m.toNat ps - ps.length = 0 := by omega
            rw [e] at g3
            simpa using g3.symm
          rw [this]; decide
      refine ⟨_, rfl, x, a_Heap, dx, _, _, rfl, hx2, T.cl_Heap, T.na_Heap_held, hfld_held _ _, _, rfl, a, _, _, _, rfl, rfl, SqL.of g0, at_ref g2', .inl ⟨rfl, _, SqL.of g4⟩, _, rfl, ?_⟩
      obtain ⟨f', h1, h2, h3, h4⟩ := hC2.putOld (Same.refl _) (d' := d ++ [t]) (ys := xs ++ [v]) g0 g2' g3 (fun H2 F => Paired.app (g5.frm F) (.cons (hT2.frm F) .nil))
      refine ⟨pg, xs, _, rfl, rfl, g4, by rw [g5.length]; exact lt_line (by omega), ?_⟩
      have hxn : x ≠ pg := fun z => by rw [z, g4] at hx2; cases hx2
      have hx3 : (upd H2 pg (.lst (xs ++ [v]))) x = some (.ins a_Heap dx [("most", .int m), ("held", .ref a)]) := by rw [upd_ne hxn]; exact hx2
      have ha3 := h4.keep _ _ (by simp; exact fun z => g7 z.symm) g0
      refine ⟨_, rfl, x, a_Heap, dx, _, _, rfl, hx3, T.cl_Heap, T.na_Heap_held, hfld_held _ _, _, rfl, a, _, _, _, rfl, rfl, SqL.of ha3, at_ref g2', pg, _, rfl, .inl (SqL.of upd_same), rfl, _, rfl, ?_⟩
      have ed : ps.getD (roomAt m.toNat ps) [] = d ∧ (if roomAt m.toNat ps < ps.length then ps else ps ++ [[]]).set (roomAt m.toNat ps) (d ++ [t]) = hpPut m.toNat t ps := by
        by_cases c : roomAt m.toNat ps < ps.length
        · rw [if_pos c] at g3 ⊢
          refine ⟨getD_of g3, ?_⟩
          unfold hpPut
          rw [if_pos c, getD_of g3]
        · have e : roomAt m.toNat ps = ps.length := by omega
          rw [if_neg c, List.getElem?_append_right (by omega)] at g3
          have hd : d = [] := by
            have e : roomAt m.toNat ps - ps.length = 0 := by omega
            rw [e] at g3
            simpa using g3.symm
          refine ⟨by rw [hd, List.getD_eq_getElem?_getD, List.getElem?_eq_none (by omega)]; rfl, ?_⟩
          unfold hpPut
          rw [if_neg c, if_neg c, hd, e, set_end]
          rfl
      obtain ⟨ed1, ed2⟩ := ed
      rw [ed2] at h1
      obtain ⟨z1, z2, z3⟩ := HpAt.step hx hxg F2 N2 h2 h3 h1
      have := k _ _ z1 z2 z3
      unfold hpTo at this
      rw [ed1] at this
      have hxl := g5.length
      refine ite2 (fun cc => ?_) (fun cc => ?_)
      · have : d = [] := by
          have h := of_decide_eq_true cc
          injection h with h
          rw [List.length_append] at h
          simp at h
          exact List.length_eq_zero_iff.mp (by omega)
        rename_i h
        rw [if_pos this] at h
        exact h
      · have : d ≠ [] := fun z => cc (by rw [List.length_append, hxl, z]; rfl)
        rename_i h
        rw [if_neg this] at h
        exact h
    · intro nx hnx
      obtain ⟨as, hA, hlen⟩ := hC.lst
      have hx1 := s1 _ _ hx
      refine ⟨_, rfl, _, rfl, x, a_Heap, dx, _, _, rfl, hx1, T.cl_Heap, T.na_Heap_held, hfld_held _ _, a, _, rfl, .inl (SqL.of (s1 _ _ hA)), rfl, _, rfl, ?_⟩
      rw [List.length_map, hlen]
      refine ite2 (fun cc => ?_) (fun cc => ?_)
      · have er : roomAt m.toNat ps = ps.length := by
          have : ((roomAt m.toNat ps : Nat) : Int) = (ps.length : Nat) := by simpa using cc
          omega
        refine ⟨_, rfl, x, a_Heap, dx, _, _, rfl, hx1, T.cl_Heap, T.na_Heap_held, hfld_held _ _, .inl ⟨rfl, _, SqL.of (s1 _ _ hA)⟩, by show 0 ≤ sizeLine; decide, fun l hl => ?_⟩
        obtain ⟨as2, hA2, hlen2, hC2, hN2, hF2⟩ := LOf.push pgOk hC (b := l) (d := []) (f := [l]) (s1.trans (same_new (o := HO.lst []) hl)) ⟨rfl, [], upd_same, .nil⟩ (fun y hy => by rw [List.mem_singleton.mp hy]; exact s1.free hl)
        refine ⟨a, _, _, rfl, rfl, hA2, by rw [List.length_map, hlen2]; have := hok.len; exact lt_line (by omega), ?_⟩
        refine hnx _ _ ⟨rfl, _, by rw [if_neg (by omega)]; exact hC2, hF2, hN2, hF2.keep _ _ hxg hx⟩
      · have er : roomAt m.toNat ps < ps.length := by
          refine Nat.lt_of_le_of_ne hle fun z => cc ?_
          rw [z]; simp
        exact hnx _ _ ⟨rfl, g, by rw [if_pos er]; exact chOk.frm hC (.of_same s1 : Frm [] H H1) (fun _ _ z => nomatch z), .of_same s1, Nw.refl _ _, hx1⟩
theorem sc_Heap_drop : FnScope ["self", "thing"] ["self", "thing"] (defScope s_Heap_drop) := ⟨rfl, rfl, rfl, by decide +kernel, rfl, by decide +kernel, by decide +kernel⟩

set_option maxHeartbeats 8000000 in
theorem ok_Heap_drop {fa : Addr} {fd : FuncData} (T : Txt K mg a_BOUNDS a_BOUNDS_0 a_BOUNDS_1 a_BOUNDS_2 a_BOUNDS_3 a_BOUNDS_4 a_KINDS t_MOST_COLUMNS t_MOST_LETTERS t_MOST_NUMBER t_MOST_ROWS a_STORE_KINDS a_Heap a_Store a_Shape dA_Store___init__ kA_Store___init__ e_Store___init___key kA_Shape___init__) (D : MDef K a_Heap "drop" "Heap.drop" s_Heap_drop fa fd) : FnOk P w K mg base CX0 2 fa fd ["self", "thing"] (sp_Heap_drop a_Heap) := by
  obtain ⟨fa_page_with, fd_page_with, D_page_with⟩ := T.d_page_with
  have G_page_with := ok_page_with (P := P) (w := w) (base := base) T D_page_with
  have b_page_with := D_page_with.fn.binds (ps := ["pages", "thing"]) fun _ _ _ _ _ _ us hl => match us, hl with | [_, _], _ => rfl
  refine D.fn.ok sc_Heap_drop (fun vs H Q E h => ?_) (fun cdv A outer s H vs Q E hr h => ?_)
  · obtain ⟨x, v, t, m, ps, f, rfl, _⟩ := h
    rfl
  ·
    have hu80 := hr.u80
    have r_page_with : Room 1 _ := hr.mono (by decide)
    obtain ⟨x, v, t, m, ps, f, rfl, hB, hok, hT, hto, hin, k⟩ := h
    refine ⟨_, (pss_cons (ps_expr (pe_bm PySem.F.plainAttrs_list PySem.F.slot_list_remove PySem.F.type_list_remove (mt_removeD hu80) (pe_ix ix_list (pe_fld (pv 0) rfl) (pe_call G_page_with r_page_with (by rfl) D_page_with.mg D_page_with.fn.kp b_page_with .nil pass0 (pa_cons (pe_fld (pv 0) rfl) (pa_cons (pv 1) pa_nil))) (fun _ _ => rfl)) (pa_cons (pv 1) pa_nil)))
    (pss_one (ps_ret pe_int))), ?_⟩
    obtain ⟨dx, c, g, hx, hC, hxg, rfl⟩ := id hB
    refine ⟨_, rfl, x, a_Heap, dx, _, _, rfl, hx, T.cl_Heap, T.na_Heap_held, hfld_held _ _, _, rfl, x, a_Heap, dx, _, _, rfl, hx, T.cl_Heap, T.na_Heap_held, hfld_held _ _, _, rfl, c, _, t, ps, g, rfl, hC, hT, hto, hok, hin, fun H1 s1 => ?_⟩
    have er := page_lt hin
    obtain ⟨cs', pg, d, xs, g0, g1, g2, g3, g4, g5, g6, g7⟩ := hC.page er
    have htd : t ∈ d := by
      obtain ⟨y, hy, hpp⟩ := findIdx_spec (fun p => memB p t) ps er
      have : ps[pageAt t ps]? = some y := hy
      rw [g3] at this
      cases this
      exact memB_iff.mp hpp
    have hj := idx_lt htd
    have F1 : Frm [] H H1 := .of_same s1
    obtain ⟨f', h1, h2, h3, h4⟩ := hC.putOld s1 (d' := d.eraseIdx (idxTh t d)) (ys := xs.eraseIdx (idxTh t d)) g0 g2 g3 (fun H2 F => Paired.eraseP _ (g5.frm F))
    refine ⟨c, _, _, _, rfl, rfl, SqL.of (s1 _ _ g0), at_ref g2, .inl ⟨rfl, _, SqL.of (s1 _ _ g4)⟩, _, rfl, ?_⟩
    obtain ⟨y, hy, hyt⟩ := findIdx_spec (fun s : Th => decide (s = t)) d hj
    refine ⟨pg, xs, d.map thD, _, thD t, idxTh t d, thD y, rfl, rfl, s1 _ _ g4, (g5.frm F1).dt, (hT.frm F1).dt, mem_shaped (hok.at_ g3).2, shaped_th hto, by rw [List.getElem?_map]; show Option.map thD d[idxTh t d]? = _; rw [show d[idxTh t d]? = some y from hy]; rfl, by rw [eqv_th]; exact hyt, ?_, ?_⟩
    · intro i e' hlt he'
      rw [List.getElem?_map] at he'
      have hil : i < d.length := Nat.lt_trans hlt hj
      rw [List.getElem?_eq_getElem hil] at he'
      cases he'
      rw [eqv_th]
      exact findIdx_no _ d hlt (List.getElem?_eq_getElem hil)
    obtain ⟨z1, z2, z3⟩ := HpAt.step hx hxg (.refl g H) (Nw.refl _ _) h2 h3 h1
    have ed : ps.getD (pageAt t ps) [] = d := getD_of g3
    refine k _ _ ?_ z2 z3
    unfold hpDrop
    rw [ed]
    exact z1
theorem sc_Heap_pages : FnScope ["self"] ["self"] (defScope s_Heap_pages) := ⟨rfl, rfl, rfl, by decide +kernel, rfl, by decide +kernel, by decide +kernel⟩

set_option maxHeartbeats 8000000 in
theorem ok_Heap_pages {fa : Addr} {fd : FuncData} (T : Txt K mg a_BOUNDS a_BOUNDS_0 a_BOUNDS_1 a_BOUNDS_2 a_BOUNDS_3 a_BOUNDS_4 a_KINDS t_MOST_COLUMNS t_MOST_LETTERS t_MOST_NUMBER t_MOST_ROWS a_STORE_KINDS a_Heap a_Store a_Shape dA_Store___init__ kA_Store___init__ e_Store___init___key kA_Shape___init__) (D : MDef K a_Heap "pages" "Heap.pages" s_Heap_pages fa fd) : FnOk P w K mg base CX0 2 fa fd ["self"] (sp_Heap_pages a_Heap) := by
  obtain ⟨fa_copied, fd_copied, D_copied⟩ := T.d_copied
  have G_copied := ok_copied (P := P) (w := w) (base := base) T D_copied
  have b_copied := D_copied.fn.binds (ps := ["pages"]) fun _ _ _ _ _ _ us hl => match us, hl with | [_], _ => rfl
  refine D.fn.ok sc_Heap_pages (fun vs H Q E h => ?_) (fun cdv A outer s H vs Q E hr h => ?_)
  · obtain ⟨x, m, ps, f, rfl, _⟩ := h
    rfl
  ·
    have r_copied : Room 1 _ := hr.mono (by decide)
    obtain ⟨x, m, ps, f, rfl, ⟨dx, a, g, hx, hC, hxg, rfl⟩, hl, k⟩ := h
    refine ⟨_, (pss_one (ps_ret (pe_call G_copied r_copied (by rfl) D_copied.mg D_copied.fn.kp b_copied .nil pass0 (pa_cons (pe_fld (pv 0) rfl) pa_nil)))), ?_⟩
    exact ⟨_, rfl, x, a_Heap, dx, _, _, rfl, hx, T.cl_Heap, T.na_Heap_held, hfld_held _ _, a, ps, g, rfl, hC, hl, k⟩
theorem sc_is_key : FnScope ["form", "kind", "thing"] ["form", "kind", "thing"] (defScope s_is_key) := ⟨rfl, rfl, rfl, by decide +kernel, rfl, by decide +kernel, by decide +kernel⟩

set_option maxHeartbeats 8000000 in
theorem ok_is_key {fa : Addr} {fd : FuncData} (T : Txt K mg a_BOUNDS a_BOUNDS_0 a_BOUNDS_1 a_BOUNDS_2 a_BOUNDS_3 a_BOUNDS_4 a_KINDS t_MOST_COLUMNS t_MOST_LETTERS t_MOST_NUMBER t_MOST_ROWS a_STORE_KINDS a_Heap a_Store a_Shape dA_Store___init__ kA_Store___init__ e_Store___init___key kA_Shape___init__) (D : Def K mg "is_key" s_is_key fa fd) : FnOk P w K mg base CX0 1 fa fd ["form", "kind", "thing"] (sp_is_key K) := by
  refine D.fn.ok sc_is_key (fun vs H Q E h => ?_) (fun cdv A outer s H vs Q E hr h => ?_)
  · obtain ⟨a, p, rfl, _⟩ := h
    rfl
  ·
    obtain ⟨a, p, rfl, hp, k⟩ := h
    refine ⟨_, (pss_cons (ps_if (pt_cmpR op_eq (pv 1) pe_str (nomark _))
      (pss_one (ps_ret (pe_cmpR (op_eqDK (K := K) hr.units) (pv 2) (pe_tup pa_nil) (nomark _))))
      pss_nil)
    (pss_one (ps_ret pe_never))), ?_⟩
    refine ⟨_, rfl, rfl, _, rfl, ?_⟩
    refine iteT ?_
    refine ⟨_, rfl, by show 0 ≤ sizeLine; decide, fun q hq => ?_⟩
    have s1 := same_new (o := HO.tup []) hq
    refine ⟨.tuple [], .tuple [], .tup (SqT.sames hp s1) .nil, .tup (SqT.of upd_same) .nil, rfl, rfl, ?_⟩
    exact k _ s1
theorem sc_wrong_part : FnScope ["form", "kind", "key"] ["form", "kind", "key"] (defScope s_wrong_part) := ⟨rfl, rfl, rfl, by decide +kernel, rfl, by decide +kernel, by decide +kernel⟩

set_option maxHeartbeats 8000000 in
theorem ok_wrong_part {fa : Addr} {fd : FuncData} (T : Txt K mg a_BOUNDS a_BOUNDS_0 a_BOUNDS_1 a_BOUNDS_2 a_BOUNDS_3 a_BOUNDS_4 a_KINDS t_MOST_COLUMNS t_MOST_LETTERS t_MOST_NUMBER t_MOST_ROWS a_STORE_KINDS a_Heap a_Store a_Shape dA_Store___init__ kA_Store___init__ e_Store___init___key kA_Shape___init__) (D : Def K mg "wrong_part" s_wrong_part fa fd) : FnOk P w K mg base CX0 4 fa fd ["form", "kind", "key"] (sp_wrong_part K) := by
  obtain ⟨fa_is_form, fd_is_form, D_is_form⟩ := T.d_is_form
  have G_is_form := ok_is_form (P := P) (w := w) (base := base) T D_is_form
  have b_is_form := D_is_form.fn.binds (ps := ["thing"]) fun _ _ _ _ _ _ us hl => match us, hl with | [_], _ => rfl
  obtain ⟨fa_is_key, fd_is_key, D_is_key⟩ := T.d_is_key
  have G_is_key := ok_is_key (P := P) (w := w) (base := base) T D_is_key
  have b_is_key := D_is_key.fn.binds (ps := ["form", "kind", "thing"]) fun _ _ _ _ _ _ us hl => match us, hl with | [_, _, _], _ => rfl
  refine D.fn.ok sc_wrong_part (fun vs H Q E h => ?_) (fun cdv A outer s H vs Q E hr h => ?_)
  · obtain ⟨a, p, cols, rfl, _⟩ := h
    rfl
  ·
    have r_is_form : Room 3 _ := hr.mono (by decide)
    have r_is_key : Room 1 _ := hr.mono (by decide)
    obtain ⟨a, p, cols, rfl, hf, c1, c6, hk, hn, hp, k⟩ := h
    refine ⟨_, (pss_cons (ps_if (pt_not (pt_val (pe_call G_is_form r_is_form (by rfl) D_is_form.mg D_is_form.fn.kp b_is_form .nil pass0 (pa_cons (pv 0) pa_nil))))
      (pss_one (ps_ret pe_str))
      pss_nil)
    (pss_cons (ps_if (pt_cmpR op_notIn_seq (pv 1) (pe_glob (v := V.ref a_STORE_KINDS) (by rfl) T.g_STORE_KINDS rfl) (by rfl))
      (pss_one (ps_ret pe_str))
      pss_nil)
    (pss_cons (ps_if (pt_not (pt_val (pe_call G_is_key r_is_key (by rfl) D_is_key.mg D_is_key.fn.kp b_is_key .nil pass0 (pa_cons (pv 0) (pa_cons (pv 1) (pa_cons (pv 2) pa_nil))))))
      (pss_one (ps_ret pe_str))
      pss_nil)
    (pss_one (ps_ret pe_non))))), ?_⟩
    refine ⟨_, rfl, .ref a, _, rfl, hf.dt, (g2_str (form_g2 c6 hk hn) (by decide) (by decide)).2.2.2.2, fun H1 s1 => ?_⟩
    rw [form_true c1 c6 hk hn]
    refine ⟨_, rfl, iteF (nextK ?_)⟩
    refine ⟨_, rfl, a_STORE_KINDS, _, rfl, .inr (.inr T.q_STORE_KINDS), rfl, rfl, _, rfl, ?_⟩
    refine ite2 (fun cc => absurd cc (by decide +kernel)) (fun _ => nextK ?_)
    exact ⟨_, rfl, _, rfl, _, rfl, a, p, rfl, SqT.sames hp s1, fun H2 s2 => ⟨_, rfl, iteF (nextK (k H2 (s1.trans s2)))⟩⟩
theorem sc_Shape_rows : FnScope ["self"] ["self"] (defScope s_Shape_rows) := ⟨rfl, rfl, rfl, by decide +kernel, rfl, by decide +kernel, by decide +kernel⟩

set_option maxHeartbeats 8000000 in
theorem ok_Shape_rows {fa : Addr} {fd : FuncData} (T : Txt K mg a_BOUNDS a_BOUNDS_0 a_BOUNDS_1 a_BOUNDS_2 a_BOUNDS_3 a_BOUNDS_4 a_KINDS t_MOST_COLUMNS t_MOST_LETTERS t_MOST_NUMBER t_MOST_ROWS a_STORE_KINDS a_Heap a_Store a_Shape dA_Store___init__ kA_Store___init__ e_Store___init___key kA_Shape___init__) (D : PDef K a_Shape "rows" "Shape.rows" s_Shape_rows fa fd) : FnOk P w K mg base CX0 1 fa fd ["self"] (sp_Shape_of a_Shape (·.r)) := by
  refine D.fn.ok sc_Shape_rows (fun vs H Q E h => ?_) (fun cdv A outer s H vs Q E hr h => ?_)
  · obtain ⟨x, hh, rfl, _⟩ := h
    rfl
  ·
    obtain ⟨x, hh, rfl, ⟨dx, t, hx, ht⟩, k⟩ := h
    refine ⟨_, (pss_one (ps_ret (pe_ix ix_tup (pe_fld (pv 0) rfl) pe_int (fun _ _ => rfl)))), ?_⟩
    exact ⟨_, rfl, x, a_Shape, dx, _, _, rfl, hx, T.cl_Shape, T.na_Shape_measures, sfld_m _, t, _, _, _, rfl, rfl, SqT.of ht, atI_nat (j := 0) rfl, k⟩
theorem sc_empty_holder : FnScope ["shape", "kind"] ["shape", "kind"] (defScope s_empty_holder) := ⟨rfl, rfl, rfl, by decide +kernel, rfl, by decide +kernel, by decide +kernel⟩

set_option maxHeartbeats 8000000 in
theorem ok_empty_holder {fa : Addr} {fd : FuncData} (T : Txt K mg a_BOUNDS a_BOUNDS_0 a_BOUNDS_1 a_BOUNDS_2 a_BOUNDS_3 a_BOUNDS_4 a_KINDS t_MOST_COLUMNS t_MOST_LETTERS t_MOST_NUMBER t_MOST_ROWS a_STORE_KINDS a_Heap a_Store a_Shape dA_Store___init__ kA_Store___init__ e_Store___init___key kA_Shape___init__) (D : Def K mg "empty_holder" s_empty_holder fa fd) : FnOk P w K mg base CX0 3 fa fd ["shape", "kind"] (sp_empty_holder a_Shape a_Heap) := by
  obtain ⟨fa_Heap___init__, fd_Heap___init__, D_Heap___init__⟩ := T.d_Heap___init__
  have G_Heap___init__ := ok_Heap___init__ (P := P) (w := w) (base := base) T D_Heap___init__
  have b_Heap___init__ := D_Heap___init__.fn.binds (ps := ["self", "most"]) fun _ _ _ _ _ _ us hl => match us, hl with | [_, _], _ => rfl
  obtain ⟨fa_Shape_rows, fd_Shape_rows, D_Shape_rows⟩ := T.d_Shape_rows
  have G_Shape_rows := ok_Shape_rows (P := P) (w := w) (base := base) T D_Shape_rows
  have b_Shape_rows := D_Shape_rows.fn.binds (ps := ["self"]) fun _ _ _ _ _ _ us hl => match us, hl with | [_], _ => rfl
  refine D.fn.ok sc_empty_holder (fun vs H Q E h => ?_) (fun cdv A outer s H vs Q E hr h => ?_)
  · obtain ⟨x, hh, rfl, _⟩ := h
    rfl
  ·
    have r_Heap___init__ : Room 1 _ := hr.mono (by decide)
    have rm_Heap___init__ : Room (1 + 1) _ := hr.mono (by decide)
    have r_Shape_rows : Room 1 _ := hr.mono (by decide)
    have rm_Shape_rows : Room (1 + 1) _ := hr.mono (by decide)
    obtain ⟨x, hh, rfl, hs, ok, k⟩ := h
    refine ⟨_, (pss_cons (ps_if (pt_cmpR op_eq (pv 1) pe_str (nomark _))
      (pss_one (ps_ret (pe_make D_Heap___init__.mkc G_Heap___init__ rm_Heap___init__ (by rfl) T.mg_Heap b_Heap___init__ .nil pass0 (pa_cons (pe_propE (pv 0) T.cl_Shape D_Shape_rows.prp G_Shape_rows rm_Shape_rows b_Shape_rows) pa_nil))))
      pss_nil)
    (pss_cons (ps_if (pt_cmpR op_eq (pv 1) pe_str (nomark _))
      (pss_one (ps_ret pe_never))
      pss_nil)
    (pss_one (ps_ret pe_never)))), ?_⟩
    obtain ⟨dx, t, hx, ht⟩ := id hs
    refine ⟨_, rfl, rfl, _, rfl, ?_⟩
    refine iteT ?_
    refine ⟨_, rfl, x, dx, _, rfl, hx, x, hh, rfl, hs, fun y dy hy hdy nyd => ?_⟩
    have s1 : Same H (upd (upd H dy (.own y)) y (.ins a_Heap dy [])) := same_made hy hdy
    refine ⟨y, dy, hh.r, rfl, upd_same, fun f H' hH kk hf => ⟨rfl, k y f H' (fun b o e => kk b o (s1 b o e) (ne_of_none e hy)) hH fun z hz => ?_⟩⟩
    rcases hf z hz with rfl | q
    · exact hy
    · exact s1.free q
theorem sc_pages_of_things : FnScope ["kind", "holder", "bucket", "page"] ["kind", "holder"] (defScope s_pages_of_things) := ⟨rfl, rfl, rfl, by decide +kernel, rfl, by decide +kernel, by decide +kernel⟩

set_option maxHeartbeats 8000000 in
theorem ok_pages_of_things {fa : Addr} {fd : FuncData} (T : Txt K mg a_BOUNDS a_BOUNDS_0 a_BOUNDS_1 a_BOUNDS_2 a_BOUNDS_3 a_BOUNDS_4 a_KINDS t_MOST_COLUMNS t_MOST_LETTERS t_MOST_NUMBER t_MOST_ROWS a_STORE_KINDS a_Heap a_Store a_Shape dA_Store___init__ kA_Store___init__ e_Store___init___key kA_Shape___init__) (D : Def K mg "pages_of_things" s_pages_of_things fa fd) : FnOk P w K mg base CX0 3 fa fd ["kind", "holder"] (sp_pages_of_things ⟨a_Shape, a_Heap, a_Heap, a_Heap, a_Store⟩ HdHeap) := by
  obtain ⟨fa_Heap_pages, fd_Heap_pages, D_Heap_pages⟩ := T.d_Heap_pages
  have G_Heap_pages := ok_Heap_pages (P := P) (w := w) (base := base) T D_Heap_pages
  have b_Heap_pages := D_Heap_pages.fn.binds (ps := ["self"]) fun _ _ _ _ _ _ us hl => match us, hl with | [_], _ => rfl
  refine D.fn.ok sc_pages_of_things (fun vs H Q E h => ?_) (fun cdv A outer s H vs Q E hr h => ?_)
  · obtain ⟨y, hh, hd, ks, f, rfl, _⟩ := h
    rfl
  ·
    have r_Heap_pages : Room 2 _ := hr.mono (by decide)
    obtain ⟨y, hh, hd, ks, f, rfl, hP, hH, hok, k⟩ := h
    refine ⟨_, (pss_cons (ps_if (pt_cmpR op_eq (pv 0) pe_str (nomark _))
      (pss_one (ps_ret (pe_meth0 (pv 1) T.cl_Heap D_Heap_pages.meth G_Heap_pages r_Heap_pages b_Heap_pages .nil pass0)))
      pss_nil)
    (pss_cons (ps_if (pt_cmpR op_eq (pv 0) pe_str (nomark _))
      (pss_one (ps_ret pe_never))
      pss_nil)
    (pss_one (ps_ret pe_never)))), ?_⟩
    refine ⟨_, rfl, rfl, _, rfl, ?_⟩
    cases hd with
    | heap ps =>
      refine iteT ?_
      have hH : HpAt a_Heap H y hh.r ps f := hH
      obtain ⟨dy, a, gg, hy, _⟩ := id hH
      refine ⟨_, rfl, y, dy, _, rfl, hy, hfld_no _ _ (by decide +kernel) (by decide +kernel), ?_⟩
      exact ⟨y, hh.r, ps, f, rfl, hH, by have := PgsOk.len hok; omega, k⟩
    | run ls =>
      exact False.elim hP
    | bk bs =>
      exact False.elim hP
theorem sc_Store___init__ : FnScope ["self", "shape", "form", "kind", "key", "wrong"] ["self", "shape", "form", "kind", "key"] (defScope s_Store___init__) := ⟨rfl, rfl, rfl, by decide +kernel, rfl, by decide +kernel, by decide +kernel⟩
def sp_Store_init15 (K : PySem.W.Frag) (c : Cz) : Sp := fun vs H Q _ => ∃ (x dx sh fo kp : Addr) (h : Sh) (cols : Cols), vs = [.ref x, .ref sh, .ref fo, .str "heap", .ref kp] ∧ H x = some (.ins c.st dx []) ∧ ShAt c.sh H sh h ∧ ShOk h ∧ FormAt H fo cols ∧ SqK K H kp [] ∧ RsOk cols [] [] 0 ∧
  ∀ f H', StAt K c H' x sh h cols [] (.heap []) [] 0 f → (∀ b o, H b = some o → b ≠ x → H' b = some o) → (∀ y ∈ f, y = x ∨ H y = none) → Q .non H'
set_option maxHeartbeats 8000000 in
theorem ok_Store___init__ {fa : Addr} {fd : FuncData} (T : Txt K mg a_BOUNDS a_BOUNDS_0 a_BOUNDS_1 a_BOUNDS_2 a_BOUNDS_3 a_BOUNDS_4 a_KINDS t_MOST_COLUMNS t_MOST_LETTERS t_MOST_NUMBER t_MOST_ROWS a_STORE_KINDS a_Heap a_Store a_Shape dA_Store___init__ kA_Store___init__ e_Store___init___key kA_Shape___init__) (D : MkDefD K a_Store "Store.__init__" s_Store___init__ (.ref dA_Store___init__) (.ref kA_Store___init__) fa fd) : FnOk P w K mg base CX0 5 fa fd ["self", "shape", "form", "kind", "key"] (sp_Store_init15 K ⟨a_Shape, a_Heap, a_Heap, a_Heap, a_Store⟩) := by
  obtain ⟨fa_wrong_part, fd_wrong_part, D_wrong_part⟩ := T.d_wrong_part
  have G_wrong_part := ok_wrong_part (P := P) (w := w) (base := base) T D_wrong_part
  have b_wrong_part := D_wrong_part.fn.binds (ps := ["form", "kind", "key"]) fun _ _ _ _ _ _ us hl => match us, hl with | [_, _, _], _ => rfl
  obtain ⟨fa_empty_holder, fd_empty_holder, D_empty_holder⟩ := T.d_empty_holder
  have G_empty_holder := ok_empty_holder (P := P) (w := w) (base := base) T D_empty_holder
  have b_empty_holder := D_empty_holder.fn.binds (ps := ["shape", "kind"]) fun _ _ _ _ _ _ us hl => match us, hl with | [_, _], _ => rfl
  refine D.fn.ok sc_Store___init__ (fun vs H Q E h => ?_) (fun cdv A outer s H vs Q E hr h => ?_)
  · obtain ⟨x, dx, sh, fo, kp, hh, cols, rfl, _⟩ := h
    rfl
  ·
    have r_wrong_part : Room 4 _ := hr.mono (by decide)
    have r_empty_holder : Room 3 _ := hr.mono (by decide)
    obtain ⟨x, dx, sh, fo, kp, hh, cols, rfl, hx, hsh, hok, hf, hkp, hrs, k⟩ := h
    refine ⟨_, (pss_cons (ps_asg (pe_call G_wrong_part r_wrong_part (by rfl) D_wrong_part.mg D_wrong_part.fn.kp b_wrong_part .nil pass0 (pa_cons (pv 2) (pa_cons (pv 3) (pa_cons (pv 4) pa_nil)))) (pg_name (i := 5) sc_Store___init__.nd rfl (by first | exact Or.inl rfl | exact Or.inr rfl)))
    (pss_cons (ps_if (pt_cmpR op_notN (pv 5) pe_non (nomark _))
      (pss_one ps_never)
      pss_nil)
    (pss_cons (ps_fld (pv 0) (pv 1) rfl)
    (pss_cons (ps_fld (pv 0) (pv 2) rfl)
    (pss_cons (ps_fld (pv 0) (pv 3) rfl)
    (pss_cons (ps_fld (pv 0) (pv 4) rfl)
    (pss_cons (ps_fld (pv 0) (pe_call G_empty_holder r_empty_holder (by rfl) D_empty_holder.mg D_empty_holder.fn.kp b_empty_holder .nil pass0 (pa_cons (pv 1) (pa_cons (pv 3) pa_nil))) rfl)
    (pss_cons (ps_fld (pv 0) pe_dnewK rfl)
    (pss_one (ps_fld (pv 0) pe_int rfl)))))))))), ?_⟩
    refine ⟨_, rfl, _, rfl, _, rfl, fo, kp, cols, rfl, hf, hrs.c1, hrs.c6, hrs.kd, hrs.nm, hkp.t, fun H1 s1 => ?_⟩
    refine ⟨_, rfl, rfl, _, rfl, iteF (nextK ?_)⟩
    have F1 : Frm [x] H H1 := .of_same s1
    have hx1 := s1 _ _ hx
    refine ⟨_, rfl, _, rfl, x, a_Store, dx, _, rfl, hx1, T.cl_Store, T.na_Store_shape, by show 0 < 1000; decide, ?_⟩
    have F2 := F1.trans (.upd hx1 (by simp) (fun _ z => by cases z) : Frm [x] H1 (upd H1 x (.ins a_Store dx (putF "shape" (V.ref sh) ([])))))
    have hx2 : (upd H1 x (.ins a_Store dx (putF "shape" (V.ref sh) ([])))) x = some (.ins a_Store dx (putF "shape" (V.ref sh) ([]))) := upd_same
    generalize upd H1 x (.ins a_Store dx (putF "shape" (V.ref sh) ([]))) = H2 at F2 hx2 ⊢
    refine ⟨_, rfl, _, rfl, x, a_Store, dx, _, rfl, hx2, T.cl_Store, T.na_Store_form, by show 1 < 1000; decide, ?_⟩
    have F3 := F2.trans (.upd hx2 (by simp) (fun _ z => by cases z) : Frm [x] H2 (upd H2 x (.ins a_Store dx (putF "form" (V.ref fo) (putF "shape" (V.ref sh) ([]))))))
    have hx3 : (upd H2 x (.ins a_Store dx (putF "form" (V.ref fo) (putF "shape" (V.ref sh) ([]))))) x = some (.ins a_Store dx (putF "form" (V.ref fo) (putF "shape" (V.ref sh) ([])))) := upd_same
    generalize upd H2 x (.ins a_Store dx (putF "form" (V.ref fo) (putF "shape" (V.ref sh) ([])))) = H3 at F3 hx3 ⊢
    refine ⟨_, rfl, _, rfl, x, a_Store, dx, _, rfl, hx3, T.cl_Store, T.na_Store_kind, by show 2 < 1000; decide, ?_⟩
    have F4 := F3.trans (.upd hx3 (by simp) (fun _ z => by cases z) : Frm [x] H3 (upd H3 x (.ins a_Store dx (putF "kind" (V.str "heap") (putF "form" (V.ref fo) (putF "shape" (V.ref sh) ([])))))))
    have hx4 : (upd H3 x (.ins a_Store dx (putF "kind" (V.str "heap") (putF "form" (V.ref fo) (putF "shape" (V.ref sh) ([])))))) x = some (.ins a_Store dx (putF "kind" (V.str "heap") (putF "form" (V.ref fo) (putF "shape" (V.ref sh) ([]))))) := upd_same
    generalize upd H3 x (.ins a_Store dx (putF "kind" (V.str "heap") (putF "form" (V.ref fo) (putF "shape" (V.ref sh) ([]))))) = H4 at F4 hx4 ⊢
    refine ⟨_, rfl, _, rfl, x, a_Store, dx, _, rfl, hx4, T.cl_Store, T.na_Store_key, by show 3 < 1000; decide, ?_⟩
    have F5 := F4.trans (.upd hx4 (by simp) (fun _ z => by cases z) : Frm [x] H4 (upd H4 x (.ins a_Store dx (putF "key" (V.ref kp) (putF "kind" (V.str "heap") (putF "form" (V.ref fo) (putF "shape" (V.ref sh) ([]))))))))
    have hx5 : (upd H4 x (.ins a_Store dx (putF "key" (V.ref kp) (putF "kind" (V.str "heap") (putF "form" (V.ref fo) (putF "shape" (V.ref sh) ([]))))))) x = some (.ins a_Store dx (putF "key" (V.ref kp) (putF "kind" (V.str "heap") (putF "form" (V.ref fo) (putF "shape" (V.ref sh) ([])))))) := upd_same
    generalize upd H4 x (.ins a_Store dx (putF "key" (V.ref kp) (putF "kind" (V.str "heap") (putF "form" (V.ref fo) (putF "shape" (V.ref sh) ([])))))) = H5 at F5 hx5 ⊢
    have nsh : sh ∉ [x] := fun z => by
      rw [List.mem_singleton.mp z] at hsh
      obtain ⟨d', t', q1, _⟩ := hsh
      rw [hx] at q1
      cases q1
    have sh5 := hsh.frm F5 nsh
    refine ⟨_, rfl, _, rfl, sh, hh, rfl, sh5, hok, fun hp fh H6 s6 hH6 hn6 => ?_⟩
    have hx6 := s6 _ _ hx5
    refine ⟨_, rfl, x, a_Store, dx, _, rfl, hx6, T.cl_Store, T.na_Store_holder, by show 4 < 1000; decide, ?_⟩
    have F6 := F5.trans (.of_same s6)
    have xf : x ∉ fh := fun z => by rw [hn6 x z] at hx5; cases hx5
    have Fa : Frm [x] H6 (upd H6 x (.ins a_Store dx (putF "holder" (V.ref hp) (putF "key" (V.ref kp) (putF "kind" (V.str "heap") (putF "form" (V.ref fo) (putF "shape" (V.ref sh) ([])))))))) := .upd hx6 (by simp) (fun _ z => by cases z)
    have F7 := F6.trans Fa
    have hH7 := HdAt.frm (c := ⟨a_Shape, a_Heap, a_Heap, a_Heap, a_Store⟩) (hd := .heap []) (h := hh) hH6 Fa (fun y p q => xf (by rw [← List.mem_singleton.mp q]; exact p))
    have hx7 : (upd H6 x (.ins a_Store dx (putF "holder" (V.ref hp) (putF "key" (V.ref kp) (putF "kind" (V.str "heap") (putF "form" (V.ref fo) (putF "shape" (V.ref sh) ([])))))))) x = _ := upd_same
    generalize upd H6 x (.ins a_Store dx (putF "holder" (V.ref hp) (putF "key" (V.ref kp) (putF "kind" (V.str "heap") (putF "form" (V.ref fo) (putF "shape" (V.ref sh) ([]))))))) = H7 at F7 hH7 hx7 ⊢
    refine fun d hd0 => ?_
    have s8 := same_new (o := HO.dK []) hd0
    have F8 := F7.trans (.of_same s8 : Frm [x] _ _)
    have hx8 := s8 _ _ hx7
    have hH8 := hH7.frm (.of_same s8 : Frm [] _ _) (fun _ _ z => nomatch z)
    have hd8 : (upd H7 d (.dK [])) d = some (.dK []) := upd_same
    have hd00 : H d = none := by
      cases e : H d with
      | none => rfl
      | some o => obtain ⟨o', e'⟩ := F7.live _ _ e; rw [hd0] at e'; cases e'
    have dfh : d ∉ fh := fun z => by obtain ⟨o, e⟩ := hH7.liv d z; rw [hd0] at e; cases e
    have nxd : x ≠ d := fun z => by rw [← z, hx7] at hd0; cases hd0
    generalize upd H7 d (.dK []) = H8 at F8 hx8 hH8 hd8 ⊢
    refine ⟨_, rfl, x, a_Store, dx, _, rfl, hx8, T.cl_Store, T.na_Store_by_number, by show 5 < 1000; decide, ?_⟩
    have Fb : Frm [x] H8 (upd H8 x (.ins a_Store dx (putF "by_number" (V.ref d) (putF "holder" (V.ref hp) (putF "key" (V.ref kp) (putF "kind" (V.str "heap") (putF "form" (V.ref fo) (putF "shape" (V.ref sh) ([]))))))))) := .upd hx8 (by simp) (fun _ z => by cases z)
    have F9 := F8.trans Fb
    have hH9 := hH8.frm Fb (fun y p q => xf (by rw [← List.mem_singleton.mp q]; exact p))
    have hx9 : (upd H8 x (.ins a_Store dx (putF "by_number" (V.ref d) (putF "holder" (V.ref hp) (putF "key" (V.ref kp) (putF "kind" (V.str "heap") (putF "form" (V.ref fo) (putF "shape" (V.ref sh) ([]))))))))) x = _ := upd_same
    have hd9 := Fb.keep _ _ (fun z => nxd (List.mem_singleton.mp z).symm) hd8
    generalize upd H8 x (.ins a_Store dx (putF "by_number" (V.ref d) (putF "holder" (V.ref hp) (putF "key" (V.ref kp) (putF "kind" (V.str "heap") (putF "form" (V.ref fo) (putF "shape" (V.ref sh) ([])))))))) = H9 at F9 hH9 hx9 hd9 ⊢
    refine ⟨_, rfl, x, a_Store, dx, _, rfl, hx9, T.cl_Store, T.na_Store_given, by show 6 < 1000; decide, ?_⟩
    have Fc : Frm [x] H9 (upd H9 x (.ins a_Store dx (putF "given" (V.int 0) (putF "by_number" (V.ref d) (putF "holder" (V.ref hp) (putF "key" (V.ref kp) (putF "kind" (V.str "heap") (putF "form" (V.ref fo) (putF "shape" (V.ref sh) ([])))))))))) := .upd hx9 (by simp) (fun _ z => by cases z)
    have FF := F9.trans Fc
    have hHH := hH9.frm Fc (fun y p q => xf (by rw [← List.mem_singleton.mp q]; exact p))
    have hdd := Fc.keep _ _ (fun z => nxd (List.mem_singleton.mp z).symm) hd9
    have dead : ∀ y, y ∈ fh → H y = none := fun y hy => by
      cases e : H y with
      | none => rfl
      | some o => obtain ⟨o', e'⟩ := F5.live _ _ e; rw [hn6 y hy] at e'; cases e'
    refine k (x :: d :: fh) _ ⟨⟨dx, fo, kp, hp, d, [], fh, upd_same, hf.frm FF, hkp.frm FF, hHH, hdd, .nil, nxd, xf, dfh, rfl⟩, hsh.frm FF nsh, hok, fun z => ?_, hrs⟩ (fun b o e nb => FF.keep _ _ (fun z => nb (List.mem_singleton.mp z)) e) (fun y hy => ?_)
    · obtain ⟨d', t', q1, _⟩ := id hsh
      rcases List.mem_cons.mp z with z | z
      · exact nsh (List.mem_singleton.mpr z)
      · rcases List.mem_cons.mp z with z | z
        · rw [z, hd00] at q1; cases q1
        · rw [dead _ z] at q1; cases q1
    · rcases List.mem_cons.mp hy with z | z
      · exact .inl z
      · rcases List.mem_cons.mp z with z | z
        · rw [z]; exact .inr hd00
        · exact .inr (dead y z)
theorem sc_Store_thing_of : FnScope ["self", "number"] ["self", "number"] (defScope s_Store_thing_of) := ⟨rfl, rfl, rfl, by decide +kernel, rfl, by decide +kernel, by decide +kernel⟩

set_option maxHeartbeats 8000000 in
theorem ok_Store_thing_of {fa : Addr} {fd : FuncData} (T : Txt K mg a_BOUNDS a_BOUNDS_0 a_BOUNDS_1 a_BOUNDS_2 a_BOUNDS_3 a_BOUNDS_4 a_KINDS t_MOST_COLUMNS t_MOST_LETTERS t_MOST_NUMBER t_MOST_ROWS a_STORE_KINDS a_Heap a_Store a_Shape dA_Store___init__ kA_Store___init__ e_Store___init___key kA_Shape___init__) (D : MDef K a_Store "thing_of" "Store.thing_of" s_Store_thing_of fa fd) : FnOk P w K mg base CX0 2 fa fd ["self", "number"] (sp_Store_thing_of K ⟨a_Shape, a_Heap, a_Heap, a_Heap, a_Store⟩) := by
  obtain ⟨fa_picked, fd_picked, D_picked⟩ := T.d_picked
  have G_picked := ok_picked (P := P) (w := w) (base := base) T D_picked
  have b_picked := D_picked.fn.binds (ps := ["columns", "values", "wanted"]) fun _ _ _ _ _ _ us hl => match us, hl with | [_, _, _], _ => rfl
  obtain ⟨fa_column_names, fd_column_names, D_column_names⟩ := T.d_column_names
  have G_column_names := ok_column_names (P := P) (w := w) (base := base) T D_column_names
  have b_column_names := D_column_names.fn.binds (ps := ["form"]) fun _ _ _ _ _ _ us hl => match us, hl with | [_], _ => rfl
  refine D.fn.ok sc_Store_thing_of (fun vs H Q E h => ?_) (fun cdv A outer s H vs Q E hr h => ?_)
  · obtain ⟨x, sh, hh, cols, ws, hd, rs, g, f, n, row, rfl, _⟩ := h
    rfl
  ·
    have r_picked : Room 1 _ := hr.mono (by decide)
    have r_column_names : Room 1 _ := hr.mono (by decide)
    obtain ⟨x, sh, hh, cols, ws, hd, rs, g, f, n, row, rfl, S, hrow, k⟩ := h
    refine ⟨_, (pss_one (ps_ret (pe_tup (pa_cons (pe_call G_picked r_picked (by rfl) D_picked.mg D_picked.fn.kp b_picked .nil pass0 (pa_cons (pe_call G_column_names r_column_names (by rfl) D_column_names.mg D_column_names.fn.kp b_column_names .nil pass0 (pa_cons (pe_fld (pv 0) rfl) pa_nil)) (pa_cons (pe_dget (u1 hr.units) (pe_fld (pv 0) rfl) (pv 1) (fun _ _ => rfl)) (pa_cons (pe_fld (pv 0) rfl) pa_nil)))) (pa_cons (pv 1) pa_nil))))), ?_⟩
    obtain ⟨dx, fo, kp, hp, d, kvs, fh, hx, hf, hkp, hH, hd', hR, n1, n2, n3, rfl⟩ := id S.ex
    obtain ⟨v, hv, hvr⟩ := hR.get hrow
    have rk := S.rs.row _ (rsAt_mem hrow)
    have c6 := S.rs.c6
    have w3 := S.rs.w3
    obtain ⟨r, rfl, hr'⟩ := hvr
    refine ⟨_, rfl, x, a_Store, dx, _, _, rfl, hx, T.cl_Store, T.na_Store_form, sf_form _ _ _ _ _ _ _, fo, cols, rfl, hf, by omega, fun p1 H1 s1 hp1 => ?_⟩
    have hx1 := s1 _ _ hx
    have hg : DGet H1 d (.int n) (some (.ref r)) := by have := DGet.k (k := .inl n) (s1 _ _ hd'); rw [hv] at this; exact this
    refine ⟨_, rfl, x, a_Store, dx, _, _, rfl, hx1, T.cl_Store, T.na_Store_by_number, sf_by _ _ _ _ _ _ _, _, rfl, d, _, rfl, hg, ?_⟩
    refine ⟨_, rfl, x, a_Store, dx, _, _, rfl, hx1, T.cl_Store, T.na_Store_key, sf_key _ _ _ _ _ _ _, ?_⟩
    refine ⟨p1, r, kp, cols.map (·.1), row, ws, rfl, by rw [hp1, List.map_map]; rfl, s1 _ _ hr', SqT.sames hkp.t s1, S.rs.wn, by rw [List.length_map, rk.len], by omega, fun q H2 s2 hq => ?_⟩
    refine ⟨_, rfl, by show 2 ≤ sizeLine; decide, fun p3 hp3 => ?_⟩
    exact k _ _ ((s1.trans s2).trans (same_new hp3)) ⟨p3, q, rfl, upd_same, same_new hp3 _ _ hq⟩
theorem sc_Store_check : FnScope ["self", "row"] ["self", "row"] (defScope s_Store_check) := ⟨rfl, rfl, rfl, by decide +kernel, rfl, by decide +kernel, by decide +kernel⟩

set_option maxHeartbeats 8000000 in
theorem ok_Store_check {fa : Addr} {fd : FuncData} (T : Txt K mg a_BOUNDS a_BOUNDS_0 a_BOUNDS_1 a_BOUNDS_2 a_BOUNDS_3 a_BOUNDS_4 a_KINDS t_MOST_COLUMNS t_MOST_LETTERS t_MOST_NUMBER t_MOST_ROWS a_STORE_KINDS a_Heap a_Store a_Shape dA_Store___init__ kA_Store___init__ e_Store___init___key kA_Shape___init__) (D : MDef K a_Store "check" "Store.check" s_Store_check fa fd) : FnOk P w K mg base CX0 4 fa fd ["self", "row"] (sp_Store_check K ⟨a_Shape, a_Heap, a_Heap, a_Heap, a_Store⟩) := by
  obtain ⟨fa_is_row, fd_is_row, D_is_row⟩ := T.d_is_row
  have G_is_row := ok_is_row (P := P) (w := w) (base := base) T D_is_row
  have b_is_row := D_is_row.fn.binds (ps := ["form", "thing"]) fun _ _ _ _ _ _ us hl => match us, hl with | [_, _], _ => rfl
  refine D.fn.ok sc_Store_check (fun vs H Q E h => ?_) (fun cdv A outer s H vs Q E hr h => ?_)
  · obtain ⟨x, sh, hh, cols, ws, hd, rs, g, f, v, row, rfl, _⟩ := h
    rfl
  ·
    have r_is_row : Room 3 _ := hr.mono (by decide)
    obtain ⟨x, sh, hh, cols, ws, hd, rs, g, f, v, row, rfl, S, hrow, rk, hg, k⟩ := h
    refine ⟨_, (pss_cons (ps_if (pt_not (pt_val (pe_call G_is_row r_is_row (by rfl) D_is_row.mg D_is_row.fn.kp b_is_row .nil pass0 (pa_cons (pe_fld (pv 0) rfl) (pa_cons (pv 1) pa_nil)))))
      (pss_one ps_never)
      pss_nil)
    (pss_one (ps_if (pt_cmpR op_ge (pe_fld (pv 0) rfl) (pe_glob (v := V.int 60) (by rfl) T.g_MOST_ROWS ⟨_, rfl⟩) (nomark _))
      (pss_one ps_never)
      pss_nil))), ?_⟩
    obtain ⟨dx, fo, kp, hp, d, kvs, fh, hx, hf, hkp, hH, hd', hR, n1, n2, n3, rfl⟩ := id S.ex
    have c6 := S.rs.c6
    refine ⟨_, rfl, x, a_Store, dx, _, _, rfl, hx, T.cl_Store, T.na_Store_form, sf_form _ _ _ _ _ _ _, _, rfl, fo, cols, v, row.length, rfl, hf, by omega, S.rs.kd, row_tyd hrow rk, by have := rk.len; omega, fun H1 s1 => ?_⟩
    rw [row_is hrow rk S.rs.kd]
    refine ⟨_, rfl, iteF (nextK ?_)⟩
    refine ⟨_, rfl, x, a_Store, dx, _, _, rfl, s1 _ _ hx, T.cl_Store, T.na_Store_given, sf_given _ _ _ _ _ _ _, _, _, rfl, rfl, _, rfl, ?_⟩
    refine ite2 (fun cc => ?_) (fun _ => nextK (k H1 s1))
    have := of_decide_eq_true cc
    omega
theorem sc_Store_lay : FnScope ["self", "row"] ["self", "row"] (defScope s_Store_lay) := ⟨rfl, rfl, rfl, by decide +kernel, rfl, by decide +kernel, by decide +kernel⟩

set_option maxHeartbeats 8000000 in
theorem ok_Store_lay {fa : Addr} {fd : FuncData} (T : Txt K mg a_BOUNDS a_BOUNDS_0 a_BOUNDS_1 a_BOUNDS_2 a_BOUNDS_3 a_BOUNDS_4 a_KINDS t_MOST_COLUMNS t_MOST_LETTERS t_MOST_NUMBER t_MOST_ROWS a_STORE_KINDS a_Heap a_Store a_Shape dA_Store___init__ kA_Store___init__ e_Store___init___key kA_Shape___init__) (D : MDef K a_Store "lay" "Store.lay" s_Store_lay fa fd) : FnOk P w K mg base CX0 3 fa fd ["self", "row"] (sp_Store_lay K ⟨a_Shape, a_Heap, a_Heap, a_Heap, a_Store⟩ HdHeap) := by
  obtain ⟨fa_Heap_put, fd_Heap_put, D_Heap_put⟩ := T.d_Heap_put
  have G_Heap_put := ok_Heap_put (P := P) (w := w) (base := base) T D_Heap_put
  have b_Heap_put := D_Heap_put.fn.binds (ps := ["self", "thing"]) fun _ _ _ _ _ _ us hl => match us, hl with | [_, _], _ => rfl
  obtain ⟨fa_Store_thing_of, fd_Store_thing_of, D_Store_thing_of⟩ := T.d_Store_thing_of
  have G_Store_thing_of := ok_Store_thing_of (P := P) (w := w) (base := base) T D_Store_thing_of
  have b_Store_thing_of := D_Store_thing_of.fn.binds (ps := ["self", "number"]) fun _ _ _ _ _ _ us hl => match us, hl with | [_, _], _ => rfl
  refine D.fn.ok sc_Store_lay (fun vs H Q E h => ?_) (fun cdv A outer s H vs Q E hr h => ?_)
  · obtain ⟨x, sh, hh, cols, ws, hd, rs, g, f, v, row, rfl, _⟩ := h
    rfl
  ·
    have r_Heap_put : Room 2 _ := hr.mono (by decide)
    have r_Store_thing_of : Room 2 _ := hr.mono (by decide)
    obtain ⟨x, sh, hh, cols, ws, hd, rs, g, f, v, row, rfl, hP, S, hrow, rk, hg, hok, k⟩ := h
    refine ⟨_, (pss_cons (ps_fldaug (pv 0) pe_int in_add)
    (pss_cons (ps_dput (u1 hr.units) (pe_fld (pv 0) rfl) (pe_fld (pv 0) rfl) (pv 1) (by rfl))
    (pss_one (ps_ret (pe_tup (pa_cons (pe_fld (pv 0) rfl) (pa_cons (pe_meth (pe_fld (pv 0) rfl) T.cl_Heap D_Heap_put.meth G_Heap_put r_Heap_put b_Heap_put .nil pass0 (pa_cons (pe_meth (pv 0) T.cl_Store D_Store_thing_of.meth G_Store_thing_of r_Store_thing_of b_Store_thing_of .nil pass0 (pa_cons (pe_fld (pv 0) rfl) pa_nil)) pa_nil)) pa_nil))))))), ?_⟩
    obtain ⟨dx, fo, kp, hp, d, kvs, fh, rfl, X⟩ := S.xs
    refine ⟨_, rfl, x, a_Store, dx, _, _, rfl, X.hx, T.cl_Store, T.na_Store_given, sf_given _ _ _ _ _ _ _, _, _, rfl, rfl, dx, _, X.hx, by show 7 < 1000; decide, ?_⟩
    obtain ⟨X1, F1⟩ := X.gave hg
    rw [sf_up]
    generalize upd H x _ = H1 at X1 F1 ⊢
    have ec : ((g + 1 : Nat) : Int) = (g : Int) + 1 := by omega
    have hx1 := X1.hx
    rw [ec] at hx1
    refine ⟨_, rfl, _, rfl, x, a_Store, dx, _, _, rfl, X1.hx, T.cl_Store, T.na_Store_by_number, sf_by _ _ _ _ _ _ _, _, rfl, x, a_Store, dx, _, _, rfl, hx1, T.cl_Store, T.na_Store_given, sf_given _ _ _ _ _ _ _, d, _, rfl, DPut.k (k := .inl ((g : Int) + 1)) X1.hd (by rw [X1.hr.len]; have := X.rs.len; exact lt_line (by omega)), ?_⟩
    have hn : ∀ p ∈ rs, p.1 ≠ (g : Int) + 1 := fun p hp => by have := X.rs.num p hp; omega
    obtain ⟨X2, F2⟩ := X1.dict (X1.hr.new hn (hrow.frm F1)) (X.rs.put rk hg)
    generalize upd H1 d _ = H2 at X2 F2 ⊢
    have at2 := rsAt_new (row := row) hn
    have tk := X2.rs.thk (rsAt_mem at2)
    have F12 := F1.trans F2
    have hx2 := X2.hx
    rw [ec] at hx2
    have e7 : ∀ z : Addr, (stF hd.kind sh fo kp hp d ((g : Int) + 1)).lookup ("thing_of" : Str) = none := fun _ => sf_no _ _ _ _ _ _ _ (by decide +kernel) (by decide +kernel) (by decide +kernel) (by decide +kernel) (by decide +kernel) (by decide +kernel) (by decide +kernel)
    have fin : ∀ (H3 H4 : Hp) (f' : List Addr), Same H2 H3 → HdAt ⟨a_Shape, a_Heap, a_Heap, a_Heap, a_Store⟩ H4 hp hh (hdPut hh (thOf cols ws ((g : Int) + 1, row)) hd) f' → Frm fh H3 H4 → Nw H3 fh f' → ∀ p, H4 p = none → Q (.ref p) (upd H4 p (.tup [.int ((g : Int) + 1), .int (hdPutT hh (thOf cols ws ((g : Int) + 1, row)) hd)])) := by
      intro H3 H4 f' s3 hH4 F4 N4 p hp4
      obtain ⟨X4, F4', N4'⟩ := (X2.same s3).held (hdPut_kind _ _ _) hH4 F4 N4
      have F03 : Frm (x :: d :: fh) H H3 := F12.trans (.of_same s3)
      have F04 := F03.trans F4'
      have hp0 : H p = none := by
        cases e : H p with
        | none => rfl
        | some o => obtain ⟨o', e'⟩ := F04.live _ _ e; rw [hp4] at e'; cases e'
      have s5 := same_new (o := HO.tup [.int ((g : Int) + 1), .int (hdPutT hh (thOf cols ws ((g : Int) + 1, row)) hd)]) hp4
      exact k p _ _ ((X4.same s5).st) (F04.trans (.of_same s5)) ((Nw.refl _ _).trans N4' F03.live) hp0 upd_same
    refine ⟨_, rfl, x, a_Store, dx, _, _, rfl, hx2, T.cl_Store, T.na_Store_given, sf_given _ _ _ _ _ _ _, ?_⟩
    have hH2 := X2.hh
    have r8 := X2.ok.r
    have f8 := X2.ok.f
    cases hd with
    | heap ps =>
      obtain ⟨dy, a, gg, hy, _⟩ := id (show HpAt a_Heap H2 hp hh.r ps fh from hH2)
      refine ⟨_, rfl, x, a_Store, dx, _, _, rfl, hx2, T.cl_Store, T.na_Store_holder, sf_holder _ _ _ _ _ _ _, hp, dy, _, rfl, hy, hfld_no _ _ (by decide +kernel) (by decide +kernel), _, rfl, x, dx, _, rfl, hx2, e7 x, _, rfl, x, a_Store, dx, _, _, rfl, hx2, T.cl_Store, T.na_Store_given, sf_given _ _ _ _ _ _ _, ?_⟩
      refine ⟨x, sh, hh, cols, ws, _, _, _, _, _, row, rfl, X2.st, at2, fun v3 H3 s3 hT3 => ?_⟩
      refine ⟨hp, v3, _, hh.r, ps, fh, rfl, HpAt.frm (show HpAt a_Heap H2 hp hh.r ps fh from hH2) (.of_same s3 : Frm [] H2 H3) (fun _ _ z => nomatch z), hok, hT3, tk.ok, by omega, fun f' H4 hH4 F4 N4 => ?_⟩
      exact ⟨by show 2 ≤ sizeLine; decide, fin H3 H4 f' s3 hH4 F4 N4⟩
    | run ls =>
      exact False.elim hP
    | bk bs =>
      exact False.elim hP
theorem sc_Store_put : FnScope ["self", "row"] ["self", "row"] (defScope s_Store_put) := ⟨rfl, rfl, rfl, by decide +kernel, rfl, by decide +kernel, by decide +kernel⟩

set_option maxHeartbeats 8000000 in
theorem ok_Store_put {fa : Addr} {fd : FuncData} (T : Txt K mg a_BOUNDS a_BOUNDS_0 a_BOUNDS_1 a_BOUNDS_2 a_BOUNDS_3 a_BOUNDS_4 a_KINDS t_MOST_COLUMNS t_MOST_LETTERS t_MOST_NUMBER t_MOST_ROWS a_STORE_KINDS a_Heap a_Store a_Shape dA_Store___init__ kA_Store___init__ e_Store___init___key kA_Shape___init__) (D : MDef K a_Store "put" "Store.put" s_Store_put fa fd) : FnOk P w K mg base CX0 5 fa fd ["self", "row"] (sp_Store_put K ⟨a_Shape, a_Heap, a_Heap, a_Heap, a_Store⟩ HdHeap) := by
  obtain ⟨fa_Store_check, fd_Store_check, D_Store_check⟩ := T.d_Store_check
  have G_Store_check := ok_Store_check (P := P) (w := w) (base := base) T D_Store_check
  have b_Store_check := D_Store_check.fn.binds (ps := ["self", "row"]) fun _ _ _ _ _ _ us hl => match us, hl with | [_, _], _ => rfl
  obtain ⟨fa_Store_lay, fd_Store_lay, D_Store_lay⟩ := T.d_Store_lay
  have G_Store_lay := ok_Store_lay (P := P) (w := w) (base := base) T D_Store_lay
  have b_Store_lay := D_Store_lay.fn.binds (ps := ["self", "row"]) fun _ _ _ _ _ _ us hl => match us, hl with | [_, _], _ => rfl
  refine D.fn.ok sc_Store_put (fun vs H Q E h => ?_) (fun cdv A outer s H vs Q E hr h => ?_)
  · obtain ⟨x, sh, hh, cols, ws, hd, rs, g, f, v, row, rfl, _⟩ := h
    rfl
  ·
    have r_Store_check : Room 4 _ := hr.mono (by decide)
    have r_Store_lay : Room 3 _ := hr.mono (by decide)
    obtain ⟨x, sh, hh, cols, ws, hd, rs, g, f, v, row, rfl, hP, S, hrow, rk, hg, hok, k⟩ := h
    refine ⟨_, (pss_cons (ps_expr (pe_meth (pv 0) T.cl_Store D_Store_check.meth G_Store_check r_Store_check b_Store_check .nil pass0 (pa_cons (pv 1) pa_nil)))
    (pss_one (ps_ret (pe_meth (pv 0) T.cl_Store D_Store_lay.meth G_Store_lay r_Store_lay b_Store_lay .nil pass0 (pa_cons (pv 1) pa_nil))))), ?_⟩
    obtain ⟨dx, fo, kp, hp, d, kvs, fh, rfl, X⟩ := S.xs
    have no : ∀ m : Str, m ≠ "shape" → m ≠ "form" → m ≠ "kind" → m ≠ "key" → m ≠ "holder" → m ≠ "by_number" → m ≠ "given" → (stF hd.kind sh fo kp hp d (g : Int)).lookup m = none := fun m h1 h2 h3 h4 h5 h6 h7 => sf_no _ _ _ _ _ _ _ h1 h2 h3 h4 h5 h6 h7
    refine ⟨_, rfl, x, dx, _, rfl, X.hx, no _ (by decide +kernel) (by decide +kernel) (by decide +kernel) (by decide +kernel) (by decide +kernel) (by decide +kernel) (by decide +kernel), _, rfl, x, sh, hh, cols, ws, hd, rs, g, _, v, row, rfl, S, hrow, rk, hg, fun H1 s1 => ?_⟩
    refine ⟨_, rfl, x, dx, _, rfl, s1 _ _ X.hx, no _ (by decide +kernel) (by decide +kernel) (by decide +kernel) (by decide +kernel) (by decide +kernel) (by decide +kernel) (by decide +kernel), _, rfl, x, sh, hh, cols, ws, hd, rs, g, _, v, row, rfl, hP, S.same s1, hrow.same s1, rk, by omega, hok, fun p f' H2 S2 F2 N2 hp1 hp2 => ?_⟩
    exact k p f' H2 S2 ((Frm.of_same s1).trans F2) ((Nw.refl _ _).trans N2 (fun c o e => ⟨o, s1 c o e⟩)) (s1.free hp1) hp2
theorem sc_Store_row : FnScope ["self", "number"] ["self", "number"] (defScope s_Store_row) := ⟨rfl, rfl, rfl, by decide +kernel, rfl, by decide +kernel, by decide +kernel⟩

set_option maxHeartbeats 8000000 in
theorem ok_Store_row {fa : Addr} {fd : FuncData} (T : Txt K mg a_BOUNDS a_BOUNDS_0 a_BOUNDS_1 a_BOUNDS_2 a_BOUNDS_3 a_BOUNDS_4 a_KINDS t_MOST_COLUMNS t_MOST_LETTERS t_MOST_NUMBER t_MOST_ROWS a_STORE_KINDS a_Heap a_Store a_Shape dA_Store___init__ kA_Store___init__ e_Store___init___key kA_Shape___init__) (D : MDef K a_Store "row" "Store.row" s_Store_row fa fd) : FnOk P w K mg base CX0 2 fa fd ["self", "number"] (sp_Store_row K ⟨a_Shape, a_Heap, a_Heap, a_Heap, a_Store⟩) := by
  obtain ⟨fa_is_whole, fd_is_whole, D_is_whole⟩ := T.d_is_whole
  have G_is_whole := ok_is_whole (P := P) (w := w) (base := base) T D_is_whole
  have b_is_whole := D_is_whole.fn.binds (ps := ["thing"]) fun _ _ _ _ _ _ us hl => match us, hl with | [_], _ => rfl
  refine D.fn.ok sc_Store_row (fun vs H Q E h => ?_) (fun cdv A outer s H vs Q E hr h => ?_)
  · obtain ⟨x, sh, hh, cols, ws, hd, rs, g, f, n, row, rfl, _⟩ := h
    rfl
  ·
    have r_is_whole : Room 1 _ := hr.mono (by decide)
    obtain ⟨x, sh, hh, cols, ws, hd, rs, g, f, n, row, rfl, S, hrow, k⟩ := h
    refine ⟨_, (pss_cons (ps_if (PW.pt (pw_or (pt_not (pt_val (pe_call G_is_whole r_is_whole (by rfl) D_is_whole.mg D_is_whole.fn.kp b_is_whole .nil pass0 (pa_cons (pv 1) pa_nil)))) (pw_or1 (pt_cmp (pc_dnotin (u1 hr.units) (pv 1) (pe_fld (pv 0) rfl)) (by rfl)))))
      (pss_one ps_never)
      pss_nil)
    (pss_one (ps_ret (pe_dget (u1 hr.units) (pe_fld (pv 0) rfl) (pv 1) (fun _ _ => rfl))))), ?_⟩
    obtain ⟨dx, fo, kp, hp, d, kvs, fh, hx, hf, hkp, hH, hd', hR, n1, n2, n3, rfl⟩ := id S.ex
    obtain ⟨v, hv, hvr⟩ := hR.get hrow
    have hg : DGet H d (.int n) (some v) := by have := DGet.k (k := .inl n) hd'; rw [hv] at this; exact this
    refine ⟨_, rfl, _, rfl, trivial, _, rfl, ?_⟩
    refine iteF ?_
    refine ⟨_, rfl, _, rfl, x, a_Store, dx, _, _, rfl, hx, T.cl_Store, T.na_Store_by_number, sf_by _ _ _ _ _ _ _, d, _, rfl, hg, _, rfl, iteF (nextK ?_)⟩
    exact ⟨_, rfl, x, a_Store, dx, _, _, rfl, hx, T.cl_Store, T.na_Store_by_number, sf_by _ _ _ _ _ _ _, _, rfl, d, v, rfl, hg, k v hvr⟩
theorem sc_Store_drop : FnScope ["self", "number", "touched"] ["self", "number"] (defScope s_Store_drop) := ⟨rfl, rfl, rfl, by decide +kernel, rfl, by decide +kernel, by decide +kernel⟩

set_option maxHeartbeats 8000000 in
theorem ok_Store_drop {fa : Addr} {fd : FuncData} (T : Txt K mg a_BOUNDS a_BOUNDS_0 a_BOUNDS_1 a_BOUNDS_2 a_BOUNDS_3 a_BOUNDS_4 a_KINDS t_MOST_COLUMNS t_MOST_LETTERS t_MOST_NUMBER t_MOST_ROWS a_STORE_KINDS a_Heap a_Store a_Shape dA_Store___init__ kA_Store___init__ e_Store___init___key kA_Shape___init__) (D : MDef K a_Store "drop" "Store.drop" s_Store_drop fa fd) : FnOk P w K mg base CX0 3 fa fd ["self", "number"] (sp_Store_drop K ⟨a_Shape, a_Heap, a_Heap, a_Heap, a_Store⟩ HdHeap) := by
  obtain ⟨fa_Store_row, fd_Store_row, D_Store_row⟩ := T.d_Store_row
  have G_Store_row := ok_Store_row (P := P) (w := w) (base := base) T D_Store_row
  have b_Store_row := D_Store_row.fn.binds (ps := ["self", "number"]) fun _ _ _ _ _ _ us hl => match us, hl with | [_, _], _ => rfl
  obtain ⟨fa_Heap_drop, fd_Heap_drop, D_Heap_drop⟩ := T.d_Heap_drop
  have G_Heap_drop := ok_Heap_drop (P := P) (w := w) (base := base) T D_Heap_drop
  have b_Heap_drop := D_Heap_drop.fn.binds (ps := ["self", "thing"]) fun _ _ _ _ _ _ us hl => match us, hl with | [_, _], _ => rfl
  obtain ⟨fa_Store_thing_of, fd_Store_thing_of, D_Store_thing_of⟩ := T.d_Store_thing_of
  have G_Store_thing_of := ok_Store_thing_of (P := P) (w := w) (base := base) T D_Store_thing_of
  have b_Store_thing_of := D_Store_thing_of.fn.binds (ps := ["self", "number"]) fun _ _ _ _ _ _ us hl => match us, hl with | [_, _], _ => rfl
  refine D.fn.ok sc_Store_drop (fun vs H Q E h => ?_) (fun cdv A outer s H vs Q E hr h => ?_)
  · obtain ⟨x, sh, hh, cols, ws, hd, rs, g, f, n, row, rfl, _⟩ := h
    rfl
  ·
    have r_Store_row : Room 2 _ := hr.mono (by decide)
    have r_Heap_drop : Room 2 _ := hr.mono (by decide)
    have r_Store_thing_of : Room 2 _ := hr.mono (by decide)
    obtain ⟨x, sh, hh, cols, ws, hd, rs, g, f, n, row, rfl, hP, S, hrow, hok, hhas, k⟩ := h
    refine ⟨_, (pss_cons (ps_expr (pe_meth (pv 0) T.cl_Store D_Store_row.meth G_Store_row r_Store_row b_Store_row .nil pass0 (pa_cons (pv 1) pa_nil)))
    (pss_cons (ps_asg (pe_meth (pe_fld (pv 0) rfl) T.cl_Heap D_Heap_drop.meth G_Heap_drop r_Heap_drop b_Heap_drop .nil pass0 (pa_cons (pe_meth (pv 0) T.cl_Store D_Store_thing_of.meth G_Store_thing_of r_Store_thing_of b_Store_thing_of .nil pass0 (pa_cons (pv 1) pa_nil)) pa_nil)) (pg_name (i := 2) sc_Store_drop.nd rfl (by first | exact Or.inl rfl | exact Or.inr rfl)))
    (pss_cons (ps_ddel (pe_fld (pv 0) rfl) (pv 1))
    (pss_one (ps_ret (pv 2)))))), ?_⟩
    obtain ⟨dx, fo, kp, hp, d, kvs, fh, rfl, X⟩ := S.xs
    have no : ∀ m : Str, m ≠ "shape" → m ≠ "form" → m ≠ "kind" → m ≠ "key" → m ≠ "holder" → m ≠ "by_number" → m ≠ "given" → (stF hd.kind sh fo kp hp d (g : Int)).lookup m = none := fun m h1 h2 h3 h4 h5 h6 h7 => sf_no _ _ _ _ _ _ _ h1 h2 h3 h4 h5 h6 h7
    refine ⟨_, rfl, x, dx, _, rfl, X.hx, no _ (by decide +kernel) (by decide +kernel) (by decide +kernel) (by decide +kernel) (by decide +kernel) (by decide +kernel) (by decide +kernel), _, rfl, x, sh, hh, cols, ws, hd, rs, g, _, n, row, rfl, S, hrow, fun _ _ => ?_⟩
    have e7 := no "thing_of" (by decide +kernel) (by decide +kernel) (by decide +kernel) (by decide +kernel) (by decide +kernel) (by decide +kernel) (by decide +kernel)
    have tk := X.rs.thk (rsAt_mem hrow)
    obtain ⟨v, hv, _⟩ := X.hr.get hrow
    have fin : ∀ (H3 H4 : Hp) (f' : List Addr), Same H H3 → HdAt ⟨a_Shape, a_Heap, a_Heap, a_Heap, a_Store⟩ H4 hp hh (hdDrop (thOf cols ws (n, row)) hd) f' → Frm fh H3 H4 → Nw H3 fh f' → H4 d = some (.dK kvs) ∧ H4 x = some (.ins a_Store dx (stF hd.kind sh fo kp hp d g)) ∧ Q (.int (hdDropT hh (thOf cols ws (n, row)) hd)) (upd H4 d (.dK (dropK kvs (.inl n)))) := by
      intro H3 H4 f' s3 hH4 F4 N4
      obtain ⟨X4, F4', N4'⟩ := (X.same s3).held (hdDrop_kind _ _) hH4 F4 N4
      obtain ⟨X5, F5⟩ := X4.dict (X4.hr.del n) (X4.rs.drop n)
      have F03 : Frm (x :: d :: fh) H H3 := .of_same s3
      refine ⟨X4.hd, by have := X4.hx; rw [hdDrop_kind] at this; exact this, k _ _ X5.st ((F03.trans F4').trans' F5 ?_) ((Nw.refl _ _).trans N4' F03.live)⟩
      exact (Nw.refl _ _).trans N4' F03.live
    have hH2 := X.hh
    have r8 := X.ok.r
    have f8 := X.ok.f
    cases hd with
    | heap ps =>
      obtain ⟨dy, a, gg, hy, _⟩ := id (show HpAt a_Heap H hp hh.r ps fh from hH2)
      refine ⟨_, rfl, x, a_Store, dx, _, _, rfl, X.hx, T.cl_Store, T.na_Store_holder, sf_holder _ _ _ _ _ _ _, hp, dy, _, rfl, hy, hfld_no _ _ (by decide +kernel) (by decide +kernel), _, rfl, x, dx, _, rfl, X.hx, e7, _, rfl, ?_⟩
      refine ⟨x, sh, hh, cols, ws, _, _, _, _, _, row, rfl, X.st, hrow, fun v3 H3 s3 hT3 => ?_⟩
      refine ⟨hp, v3, _, hh.r, ps, fh, rfl, HpAt.frm (show HpAt a_Heap H hp hh.r ps fh from hH2) (.of_same s3 : Frm [] H H3) (fun _ _ z => nomatch z), hok, hT3, tk.ok, hhas, fun f' H4 hH4 F4 N4 => ?_⟩
      obtain ⟨q1, q2, q3⟩ := fin H3 H4 f' s3 hH4 F4 N4
      exact ⟨_, rfl, x, a_Store, dx, _, _, rfl, q2, T.cl_Store, T.na_Store_by_number, sf_by _ _ _ _ _ _ _, _, rfl, d, kvs, .inl n, rfl, q1, rfl, by rw [hv]; rfl, _, rfl, q3⟩
    | run ls =>
      exact False.elim hP
    | bk bs =>
      exact False.elim hP
theorem sc_Store_change : FnScope ["self", "number", "column", "value", "row", "new_row", "touched"] ["self", "number", "column", "value"] (defScope s_Store_change) := ⟨rfl, rfl, rfl, by decide +kernel, rfl, by decide +kernel, by decide +kernel⟩

set_option maxHeartbeats 8000000 in
theorem ok_Store_change {fa : Addr} {fd : FuncData} (T : Txt K mg a_BOUNDS a_BOUNDS_0 a_BOUNDS_1 a_BOUNDS_2 a_BOUNDS_3 a_BOUNDS_4 a_KINDS t_MOST_COLUMNS t_MOST_LETTERS t_MOST_NUMBER t_MOST_ROWS a_STORE_KINDS a_Heap a_Store a_Shape dA_Store___init__ kA_Store___init__ e_Store___init___key kA_Shape___init__) (D : MDef K a_Store "change" "Store.change" s_Store_change fa fd) : FnOk P w K mg base CX0 3 fa fd ["self", "number", "column", "value"] (sp_Store_change K ⟨a_Shape, a_Heap, a_Heap, a_Heap, a_Store⟩ HdHeap) := by
  obtain ⟨fa_Store_row, fd_Store_row, D_Store_row⟩ := T.d_Store_row
  have G_Store_row := ok_Store_row (P := P) (w := w) (base := base) T D_Store_row
  have b_Store_row := D_Store_row.fn.binds (ps := ["self", "number"]) fun _ _ _ _ _ _ us hl => match us, hl with | [_, _], _ => rfl
  obtain ⟨fa_changed, fd_changed, D_changed⟩ := T.d_changed
  have G_changed := ok_changed (P := P) (w := w) (base := base) T D_changed
  have b_changed := D_changed.fn.binds (ps := ["columns", "values", "column", "value"]) fun _ _ _ _ _ _ us hl => match us, hl with | [_, _, _, _], _ => rfl
  obtain ⟨fa_column_names, fd_column_names, D_column_names⟩ := T.d_column_names
  have G_column_names := ok_column_names (P := P) (w := w) (base := base) T D_column_names
  have b_column_names := D_column_names.fn.binds (ps := ["form"]) fun _ _ _ _ _ _ us hl => match us, hl with | [_], _ => rfl
  obtain ⟨fa_Heap_drop, fd_Heap_drop, D_Heap_drop⟩ := T.d_Heap_drop
  have G_Heap_drop := ok_Heap_drop (P := P) (w := w) (base := base) T D_Heap_drop
  have b_Heap_drop := D_Heap_drop.fn.binds (ps := ["self", "thing"]) fun _ _ _ _ _ _ us hl => match us, hl with | [_, _], _ => rfl
  obtain ⟨fa_Store_thing_of, fd_Store_thing_of, D_Store_thing_of⟩ := T.d_Store_thing_of
  have G_Store_thing_of := ok_Store_thing_of (P := P) (w := w) (base := base) T D_Store_thing_of
  have b_Store_thing_of := D_Store_thing_of.fn.binds (ps := ["self", "number"]) fun _ _ _ _ _ _ us hl => match us, hl with | [_, _], _ => rfl
  obtain ⟨fa_Heap_put, fd_Heap_put, D_Heap_put⟩ := T.d_Heap_put
  have G_Heap_put := ok_Heap_put (P := P) (w := w) (base := base) T D_Heap_put
  have b_Heap_put := D_Heap_put.fn.binds (ps := ["self", "thing"]) fun _ _ _ _ _ _ us hl => match us, hl with | [_, _], _ => rfl
  refine D.fn.ok sc_Store_change (fun vs H Q E h => ?_) (fun cdv A outer s H vs Q E hr h => ?_)
  · obtain ⟨x, sh, hh, cols, ws, hd, rs, g, f, n, row, wd, v, rfl, _⟩ := h
    rfl
  ·
    have r_Store_row : Room 2 _ := hr.mono (by decide)
    have r_changed : Room 1 _ := hr.mono (by decide)
    have r_column_names : Room 1 _ := hr.mono (by decide)
    have r_Heap_drop : Room 2 _ := hr.mono (by decide)
    have r_Store_thing_of : Room 2 _ := hr.mono (by decide)
    have r_Heap_put : Room 2 _ := hr.mono (by decide)
    obtain ⟨x, sh, hh, cols, ws, hd, rs, g, f, n, row, wd, v, rfl, hP, S, hrow, hw, rk', hco, k⟩ := h
    refine ⟨_, (pss_cons (ps_asg (pe_meth (pv 0) T.cl_Store D_Store_row.meth G_Store_row r_Store_row b_Store_row .nil pass0 (pa_cons (pv 1) pa_nil)) (pg_name (i := 4) sc_Store_change.nd rfl (by first | exact Or.inl rfl | exact Or.inr rfl)))
    (pss_cons (ps_asg (pe_call G_changed r_changed (by rfl) D_changed.mg D_changed.fn.kp b_changed .nil pass0 (pa_cons (pe_call G_column_names r_column_names (by rfl) D_column_names.mg D_column_names.fn.kp b_column_names .nil pass0 (pa_cons (pe_fld (pv 0) rfl) pa_nil)) (pa_cons (pv 4) (pa_cons (pv 2) (pa_cons (pv 3) pa_nil))))) (pg_name (i := 5) sc_Store_change.nd rfl (by first | exact Or.inl rfl | exact Or.inr rfl)))
    (pss_cons (ps_if (pt_cmpR (op_eqDK (K := K) hr.units) (pv 5) (pv 4) (nomark _))
      (pss_one (ps_ret pe_int))
      pss_nil)
    (pss_cons (ps_if (pt_cmpR op_notIn_seq (pv 2) (pe_fld (pv 0) rfl) (by rfl))
      (pss_cons (ps_dput (u1 hr.units) (pe_fld (pv 0) rfl) (pv 1) (pv 5) (by rfl))
    (pss_one (ps_ret pe_int)))
      pss_nil)
    (pss_cons (ps_asg (pe_meth (pe_fld (pv 0) rfl) T.cl_Heap D_Heap_drop.meth G_Heap_drop r_Heap_drop b_Heap_drop .nil pass0 (pa_cons (pe_meth (pv 0) T.cl_Store D_Store_thing_of.meth G_Store_thing_of r_Store_thing_of b_Store_thing_of .nil pass0 (pa_cons (pv 1) pa_nil)) pa_nil)) (pg_name (i := 6) sc_Store_change.nd rfl (by first | exact Or.inl rfl | exact Or.inr rfl)))
    (pss_cons (ps_dput (u1 hr.units) (pe_fld (pv 0) rfl) (pv 1) (pv 5) (by rfl))
    (pss_one (ps_ret (pe_op op_add (pv 6) (pe_meth (pe_fld (pv 0) rfl) T.cl_Heap D_Heap_put.meth G_Heap_put r_Heap_put b_Heap_put .nil pass0 (pa_cons (pe_meth (pv 0) T.cl_Store D_Store_thing_of.meth G_Store_thing_of r_Store_thing_of b_Store_thing_of .nil pass0 (pa_cons (pv 1) pa_nil)) pa_nil))))))))))), ?_⟩
    obtain ⟨dx, fo, kp, hp, d, kvs, fh, rfl, X⟩ := S.xs
    have no : ∀ m : Str, m ≠ "shape" → m ≠ "form" → m ≠ "kind" → m ≠ "key" → m ≠ "holder" → m ≠ "by_number" → m ≠ "given" → (stF hd.kind sh fo kp hp d (g : Int)).lookup m = none := fun m h1 h2 h3 h4 h5 h6 h7 => sf_no _ _ _ _ _ _ _ h1 h2 h3 h4 h5 h6 h7
    have e7 := no "thing_of" (by decide +kernel) (by decide +kernel) (by decide +kernel) (by decide +kernel) (by decide +kernel) (by decide +kernel) (by decide +kernel)
    have rk : RowK cols row := X.rs.row _ (rsAt_mem hrow)
    have c6 := X.rs.c6
    refine ⟨_, rfl, x, dx, _, rfl, X.hx, no _ (by decide +kernel) (by decide +kernel) (by decide +kernel) (by decide +kernel) (by decide +kernel) (by decide +kernel) (by decide +kernel), _, rfl, x, sh, hh, cols, ws, hd, rs, g, _, n, row, rfl, S, hrow, fun vr hvr => ?_⟩
    obtain ⟨r, rfl, hr'⟩ := hvr
    refine ⟨_, rfl, x, a_Store, dx, _, _, rfl, X.hx, T.cl_Store, T.na_Store_form, sf_form _ _ _ _ _ _ _, fo, cols, rfl, X.hf, by omega, fun p1 H1 s1 hp1 => ?_⟩
    refine ⟨_, rfl, _, rfl, _, rfl, p1, r, v, cols.map (·.1), row, wd, rfl, by rw [hp1, List.map_map]; rfl, s1 _ _ hr', hw, by rw [List.length_map, rk.len], by have := rk.len; omega, fun q H2 s2 hq => ?_⟩
    have s02 := s1.trans s2
    have X2 := X.same s02
    have hr2 := s2 _ _ (s1 _ _ hr')
    have hqr : RowAt H2 (.ref q) (newRow cols row wd v) := ⟨q, rfl, hq⟩
    have F02 : Frm (x :: d :: fh) H H2 := .of_same s02
    refine ⟨_, rfl, _, rfl, rowD (newRow cols row wd v), rowD row, (RowAt.dt hqr).dp, (RowAt.dt ⟨r, rfl, hr2⟩).dp, row_shaped rk' c6, row_shaped rk c6, _, rfl, ?_⟩
    rw [row_eqv]
    refine ite2 (fun cc => ?_) (fun cc => nextK ?_)
    · have e : newRow cols row wd v = row := of_decide_eq_true cc
      have := k (x :: d :: fh) H2
      unfold hdChg hdChgT at this
      rw [if_pos e, if_pos e, e, rsSet_same X.rs.ris hrow] at this
      exact this X2.st F02 (Nw.refl _ _)
    have hne : newRow cols row wd v ≠ row := fun e => cc (decide_eq_true e)
    unfold hdChg hdChgT at k
    rw [if_neg hne, if_neg hne] at k
    refine ⟨_, rfl, _, rfl, x, a_Store, dx, _, _, rfl, X2.hx, T.cl_Store, T.na_Store_key, sf_key _ _ _ _ _ _ _, kp, _, rfl, .inr X2.hk.t, rfl, by rw [List.all_map]; simp [flatV], _, rfl, ?_⟩
    rw [show (if true = true then !inV (.str wd) (ws.map V.str) else inV (.str wd) (ws.map V.str)) = !decide (wd ∈ ws) by rw [if_pos rfl, in_strs]]
    have rs' := X2.rs.set n rk'
    refine ite2 (fun cw => ?_) (fun cw => nextK ?_)
    · have hnw : wd ∉ ws := by simpa using cw
      rw [if_neg hnw, if_neg hnw] at k
      obtain ⟨X3, F3⟩ := X2.dict (X2.hr.set hrow hqr) rs'
      exact ⟨_, rfl, _, rfl, x, a_Store, dx, _, _, rfl, X2.hx, T.cl_Store, T.na_Store_by_number, sf_by _ _ _ _ _ _ _, _, rfl, d, _, rfl, DPut.k (k := .inl n) X2.hd (by rw [X2.hr.len]; have := X2.rs.len; have := X2.rs.g60; exact lt_line (by omega)), k _ _ X3.st (F02.trans F3) (Nw.refl _ _)⟩
    have hwi : wd ∈ ws := by simpa using cw
    rw [if_pos hwi, if_pos hwi] at k
    obtain ⟨hok, hhas, hok2⟩ := hco hne hwi
    have tk := X2.rs.thk (rsAt_mem hrow)
    have lenOk : kvs.length < sizeLine := by rw [X2.hr.len]; have := X2.rs.len; have := X2.rs.g60; exact lt_line (by omega)
    have at3 := rsAt_set (row := newRow cols row wd v) hrow
    have tk3 := rs'.thk (rsAt_mem at3)
    have r8 := X.ok.r
    have f8 := X.ok.f
    -- behind the drop
    have fin1 : ∀ (H3 H4 : Hp) (f' : List Addr), Same H2 H3 → HdAt ⟨a_Shape, a_Heap, a_Heap, a_Heap, a_Store⟩ H4 hp hh (hdDrop (thOf cols ws (n, row)) hd) f' → Frm fh H3 H4 → Nw H3 fh f' →
        H4 x = some (.ins a_Store dx (stF hd.kind sh fo kp hp d g)) ∧ H4 d = some (.dK kvs) ∧ StX K ⟨a_Shape, a_Heap, a_Heap, a_Heap, a_Store⟩ (upd H4 d (.dK (putK kvs (.inl n) (.ref q)))) x sh hh cols ws (hdDrop (thOf cols ws (n, row)) hd) (rsSet rs n (newRow cols row wd v)) g dx fo kp hp d (putK kvs (.inl n) (.ref q)) f' ∧
        ∀ (H5 H6 : Hp) (f6 : List Addr), Same (upd H4 d (.dK (putK kvs (.inl n) (.ref q)))) H5 → HdAt ⟨a_Shape, a_Heap, a_Heap, a_Heap, a_Store⟩ H6 hp hh (hdPut hh (thOf cols ws (n, newRow cols row wd v)) (hdDrop (thOf cols ws (n, row)) hd)) f6 → Frm f' H5 H6 → Nw H5 f' f6 → Q (.int (hdDropT hh (thOf cols ws (n, row)) hd + hdPutT hh (thOf cols ws (n, newRow cols row wd v)) (hdDrop (thOf cols ws (n, row)) hd))) H6 := by
      intro H3 H4 f' s3 hH4 F4 N4
      obtain ⟨X4, F4', N4'⟩ := (X2.same s3).held (hdDrop_kind _ _) hH4 F4 N4
      have F3 : Frm (x :: d :: fh) H H3 := F02.trans (.of_same s3)
      have F34 := F3.trans F4'
      have N04 : Nw H (x :: d :: fh) (x :: d :: f') := (Nw.refl _ _).trans N4' F3.live
      have hq4 : RowAt H4 (.ref q) (newRow cols row wd v) := (hqr.same s3).frm F4
      obtain ⟨X5, F5⟩ := X4.dict (X4.hr.set hrow hq4) rs'
      have F05 := F34.trans' F5 N04
      refine ⟨by have := X4.hx; rw [hdDrop_kind] at this; exact this, X4.hd, X5, fun H5 H6 f6 s5 hH6 F6 N6 => ?_⟩
      obtain ⟨X6, F6', N6'⟩ := (X5.same s5).held (hdPut_kind _ _ _) hH6 F6 N6
      have F05' : Frm (x :: d :: fh) H H5 := F05.trans (.of_same s5)
      exact k _ _ X6.st (F05'.trans' F6' N04) (N04.trans N6' F05'.live)
    have hH2 := X2.hh
    cases hd with
    | heap ps =>
      obtain ⟨dy, a, gg, hy, _⟩ := id (show HpAt a_Heap H2 hp hh.r ps fh from hH2)
      refine ⟨_, rfl, x, a_Store, dx, _, _, rfl, X2.hx, T.cl_Store, T.na_Store_holder, sf_holder _ _ _ _ _ _ _, hp, dy, _, rfl, hy, hfld_no _ _ (by decide +kernel) (by decide +kernel), _, rfl, x, dx, _, rfl, X2.hx, e7, _, rfl, ?_⟩
      refine ⟨x, sh, hh, cols, ws, _, _, _, _, _, row, rfl, X2.st, hrow, fun v3 H3 s3 hT3 => ?_⟩
      refine ⟨hp, v3, _, hh.r, ps, fh, rfl, HpAt.frm (show HpAt a_Heap H2 hp hh.r ps fh from hH2) (.of_same s3 : Frm [] H2 H3) (fun _ _ z => nomatch z), hok, hT3, tk.ok, hhas, fun f' H4 hH4 F4 N4 => ?_⟩
      obtain ⟨q1, q2, X5, fin2⟩ := fin1 H3 H4 f' s3 hH4 F4 N4
      refine ⟨_, rfl, _, rfl, x, a_Store, dx, _, _, rfl, q1, T.cl_Store, T.na_Store_by_number, sf_by _ _ _ _ _ _ _, _, rfl, d, _, rfl, DPut.k (k := .inl n) q2 lenOk, ?_⟩
      generalize upd H4 d _ = H5 at X5 fin2 ⊢
      have hH5 : HpAt a_Heap H5 hp hh.r (hpDrop (thOf cols ws (n, row)) ps) f' := X5.hh
      obtain ⟨dy5, a5, gg5, hy5, _⟩ := id hH5
      refine ⟨_, rfl, ?_⟩
      refine ⟨_, rfl, x, a_Store, dx, _, _, rfl, X5.hx, T.cl_Store, T.na_Store_holder, sf_holder _ _ _ _ _ _ _, hp, dy5, _, rfl, hy5, hfld_no _ _ (by decide +kernel) (by decide +kernel), _, rfl, x, dx, _, rfl, X5.hx, e7, _, rfl, ?_⟩
      refine ⟨x, sh, hh, cols, ws, _, _, _, _, _, newRow cols row wd v, rfl, X5.st, at3, fun v5 H6 s6 hT5 => ?_⟩
      refine ⟨hp, v5, _, hh.r, _, f', rfl, hH5.frm (.of_same s6 : Frm [] H5 H6) (fun _ _ z => nomatch z), hok2, hT5, tk3.ok, by omega, fun f6 H7 hH7 F7 N7 => ?_⟩
      exact ⟨_, _, rfl, rfl, fin2 H6 H7 f6 s6 hH7 F7 N7⟩
    | run ls =>
      exact False.elim hP
    | bk bs =>
      exact False.elim hP
theorem sc_Store_pages : FnScope ["self", "values", "number", "page"] ["self"] (defScope s_Store_pages) := ⟨rfl, rfl, rfl, by decide +kernel, rfl, by decide +kernel, by decide +kernel⟩

set_option maxHeartbeats 8000000 in
theorem ok_Store_pages {fa : Addr} {fd : FuncData} (T : Txt K mg a_BOUNDS a_BOUNDS_0 a_BOUNDS_1 a_BOUNDS_2 a_BOUNDS_3 a_BOUNDS_4 a_KINDS t_MOST_COLUMNS t_MOST_LETTERS t_MOST_NUMBER t_MOST_ROWS a_STORE_KINDS a_Heap a_Store a_Shape dA_Store___init__ kA_Store___init__ e_Store___init___key kA_Shape___init__) (D : MDef K a_Store "pages" "Store.pages" s_Store_pages fa fd) : FnOk P w K mg base CX0 4 fa fd ["self"] (sp_Store_pages K ⟨a_Shape, a_Heap, a_Heap, a_Heap, a_Store⟩ HdHeap) := by
  obtain ⟨fa_pages_of_things, fd_pages_of_things, D_pages_of_things⟩ := T.d_pages_of_things
  have G_pages_of_things := ok_pages_of_things (P := P) (w := w) (base := base) T D_pages_of_things
  have b_pages_of_things := D_pages_of_things.fn.binds (ps := ["kind", "holder"]) fun _ _ _ _ _ _ us hl => match us, hl with | [_, _], _ => rfl
  refine D.fn.ok sc_Store_pages (fun vs H Q E h => ?_) (fun cdv A outer s H vs Q E hr h => ?_)
  · obtain ⟨x, sh, hh, cols, ws, hd, rs, g, f, rfl, _⟩ := h
    rfl
  ·
    have r_pages_of_things : Room 3 _ := hr.mono (by decide)
    obtain ⟨x, sh, hh, cols, ws, hd, rs, g, f, rfl, hP, S, hok, k⟩ := h
    refine ⟨_, (pss_one (ps_ret (pe_lc (own := [("page", 3)]) (g := gName 3) (by rfl) sc_Store_pages.nd (pi_list (pe_call G_pages_of_things r_pages_of_things (by rfl) D_pages_of_things.mg D_pages_of_things.fn.kp b_pages_of_things .nil pass0 (pa_cons (pe_fld (pv 0) rfl) (pa_cons (pe_fld (pv 0) rfl) pa_nil)))) (blkOk_by (own := [("page", 3)]) (N := ["self", "values", "number", "page"]) (sc := defScope s_Store_pages) (by decide +kernel))
        (fun _ _ _ _ _ => (pg_name (i := 3) sc_Store_pages.nd rfl (by first | exact Or.inl rfl | exact Or.inr rfl))) (fun _ _ _ _ _ => pts_nil)
        (fun _ _ _ _ _ => (pe_lc (own := [("values", 1), ("number", 2)]) (by rfl) sc_Store_pages.nd (pi_listK (K := K) (pv 3)) (blkOk_by (own := [("values", 1), ("number", 2)]) (N := ["self", "values", "number", "page"]) (sc := { kind := PySem.ScopeKind.function, names := [(PySem.Str.ofString ".0", PySem.NameKind.local), (PySem.Str.ofString "page", PySem.NameKind.local)], isGenerator := false, isCoroutine := false, more := [] : PySem.Scope }) (by decide +kernel))
        (fun _ _ _ _ _ => (pg_tupK (K := K) (n := 2) (by rfl) (pgs_cons (pg_name (i := 1) sc_Store_pages.nd rfl (by first | exact Or.inl rfl | exact Or.inr rfl)) (pgs_cons (pg_name (i := 2) sc_Store_pages.nd rfl (by first | exact Or.inl rfl | exact Or.inr rfl)) pgs_nil)))) (fun _ _ _ _ _ => pts_nil)
        (fun _ _ _ _ _ => (pv 2))))))), ?_⟩
    obtain ⟨dx, fo, kp, hp, d, kvs, fh, rfl, X⟩ := S.xs
    refine ⟨_, rfl, x, a_Store, dx, _, _, rfl, X.hx, T.cl_Store, T.na_Store_kind, sf_kind _ _ _ _ _ _ _, _, rfl, x, a_Store, dx, _, _, rfl, X.hx, T.cl_Store, T.na_Store_holder, sf_holder _ _ _ _ _ _ _, ?_⟩
    refine ⟨hp, hh, hd, kdsOf cols ws, fh, rfl, hP, X.hh, hok, fun b fb H1 s1 hB hn1 => ?_⟩
    have hl := hd_len hok
    have hpg := hd_pg hok
    obtain ⟨as, hA, hlen⟩ := hB.lst
    refine ⟨b, rfl, ⟨_, SqL.of hA⟩, fun D hD => ?_⟩
    refine lc_own (ds := numsOf hd.pgs) ngOk hD hA (by rw [List.length_map, hlen]; unfold numsOf; rw [List.length_map]) (by unfold numsOf; rw [List.length_map]; omega) ?_ ?_
    · intro i y ns H2 R F hy hd' s2 hk
      unfold numsOf at hd'
      rw [List.getElem?_map] at hd'
      obtain ⟨p, hp', rfl⟩ := Option.map_eq_some_iff.mp hd'
      have hil : i < hd.pgs.length := (List.getElem?_eq_some_iff.mp hp').1
      obtain ⟨as', pg, d', xs, g0, g1, g2, g3, g4, g5, g6, g7⟩ := hB.page hil
      rw [hA] at g0
      cases (List.map_inj_right (f := V.ref) (fun _ _ h => by cases h; rfl)).mp (HO.lst.inj (Option.some.inj g0))
      obtain rfl : y = .ref pg := by rw [List.getElem?_map, g2] at hy; exact (Option.some.inj hy).symm
      rw [hp'] at g3
      cases g3
      have hpl := hpg p (List.mem_of_getElem? hp')
      have hxl := g5.length
      refine ⟨rfl, ?_⟩
      refine ⟨_, rfl, pg, rfl, ⟨_, SqL.of (s2 _ _ g4)⟩, fun l hl2 => ?_⟩
      refine lc_list_map hl2 (fun j => V.int (p.getD j ([], 0)).2) (s2 _ _ g4) (lt_line (by omega)) ?_ ?_
      · intro j z H3 R3 F3 hz s3 hk3
        obtain ⟨t, ht, hzt⟩ := Paired.getL g5 hz
        obtain ⟨pp, qq, rfl, h1, h2⟩ := hzt
        have := hk3 H3 (Same.refl _)
        rw [getD_of ht] at this
        exact ⟨pp, _, rfl, SqT.of (s3 _ _ (s2 _ _ h1)), rfl, _, _, rfl, _, _, rfl, rfl, rfl, _, rfl, this⟩
      · intro H3 s3 hl3
        refine hk l [l] H3 s3 ⟨rfl, ?_⟩ (fun z hz => by rw [List.mem_singleton.mp hz]; exact hl2)
        rw [hl3, hxl, range_mapD (fun t : Th => V.int t.2) ([], 0), List.map_map]
        rfl
    · intro H2 fp s2 hL hn
      exact k D fp H2 (s1.trans s2) hL (fun z hz => s1.free (hn z hz))
theorem sc_Store_all_rows : FnScope ["self", "number"] ["self"] (defScope s_Store_all_rows) := ⟨rfl, rfl, rfl, by decide +kernel, rfl, by decide +kernel, by decide +kernel⟩

set_option maxHeartbeats 8000000 in
theorem ok_Store_all_rows {fa : Addr} {fd : FuncData} (T : Txt K mg a_BOUNDS a_BOUNDS_0 a_BOUNDS_1 a_BOUNDS_2 a_BOUNDS_3 a_BOUNDS_4 a_KINDS t_MOST_COLUMNS t_MOST_LETTERS t_MOST_NUMBER t_MOST_ROWS a_STORE_KINDS a_Heap a_Store a_Shape dA_Store___init__ kA_Store___init__ e_Store___init___key kA_Shape___init__) (D : MDef K a_Store "all_rows" "Store.all_rows" s_Store_all_rows fa fd) : FnOk P w K mg base CX0 1 fa fd ["self"] (sp_Store_all_rows K ⟨a_Shape, a_Heap, a_Heap, a_Heap, a_Store⟩) := by
  refine D.fn.ok sc_Store_all_rows (fun vs H Q E h => ?_) (fun cdv A outer s H vs Q E hr h => ?_)
  · obtain ⟨x, sh, hh, cols, ws, hd, rs, g, f, rfl, _⟩ := h
    rfl
  ·
    obtain ⟨x, sh, hh, cols, ws, hd, rs, g, f, rfl, S, k⟩ := h
    refine ⟨_, (pss_one (ps_ret (pe_lc (own := [("number", 1)]) (g := gName 1) (by rfl) sc_Store_all_rows.nd (pi_list (pe_callB (cr_sortedDK rfl) (by rfl) T.z_sorted bt_sorted (pa_cons (pe_fld (pv 0) rfl) pa_nil))) (blkOk_by (own := [("number", 1)]) (N := ["self", "number"]) (sc := defScope s_Store_all_rows) (by decide +kernel))
        (fun _ _ _ _ _ => (pg_name (i := 1) sc_Store_all_rows.nd rfl (by first | exact Or.inl rfl | exact Or.inr rfl))) (fun _ _ _ _ _ => pts_nil)
        (fun _ _ _ _ _ => (pe_tup (pa_cons (pv 1) (pa_cons (pe_dget (u1 hr.units) (pe_fldK (K := K) (pv 0) rfl) (pv 1) (fun _ _ => rfl)) pa_nil))))))), ?_⟩
    obtain ⟨dx, fo, kp, hp, d, kvs, fh, rfl, X⟩ := S.xs
    have hl := X.rs.len
    have h60 := X.rs.g60
    have hkl := X.hr.len
    have ek := X.hr.keys
    refine ⟨_, rfl, x, a_Store, dx, _, _, rfl, X.hx, T.cl_Store, T.na_Store_by_number, sf_by _ _ _ _ _ _ _, d, kvs, "number", rfl, X.hd, fun q hq => ?_, by omega, fun p hp0 => ?_⟩
    · rw [ek] at hq
      obtain ⟨q', _, rfl⟩ := List.mem_map.mp hq
      rfl
    have es : srtK (kvs.map (·.1)) = rs.map fun q => Sum.inl q.1 := by
      rw [ek]
      exact keys_sorted X.rs.ris
    rw [es, List.map_map]
    have s1 := same_new (o := HO.lst (rs.map (kV ∘ fun q => Sum.inl q.1))) hp0
    have hp1 : (upd H p (.lst (rs.map (kV ∘ fun q => Sum.inl q.1)))) p = some (.lst (rs.map (kV ∘ fun q => Sum.inl q.1))) := upd_same
    generalize upd H p (.lst (rs.map (kV ∘ fun q => Sum.inl q.1))) = H1 at s1 hp1 ⊢
    refine ⟨p, rfl, ⟨_, SqL.of hp1⟩, fun D hD => ?_⟩
    refine lc_list (xs := rs.map (kV ∘ fun q => Sum.inl q.1)) (fun i H2 => Same H1 H2 ∧ ∃ xs, H2 D = some (.lst xs) ∧ Nrs H2 xs (rs.take i)) ⟨same_new hD, [], upd_same, .nil⟩ (fun i H2 _ ⟨s2, _⟩ => SqL.of (s2 _ _ hp1)) ?_ ?_
    · rintro i y H2 hy ⟨s2, xs, hD2, hN⟩
      rw [List.getElem?_map] at hy
      obtain ⟨q, hq, rfl⟩ := Option.map_eq_some_iff.mp hy
      have s02 := s1.trans s2
      have X2 := X.same s02
      obtain ⟨v, hv, r, rfl, hr'⟩ := X2.get (n := q.1) (row := q.2) (rsAt_in X.rs.ris (List.mem_of_getElem? hq))
      refine ⟨rfl, ?_⟩
      refine ⟨_, rfl, _, rfl, x, a_Store, dx, _, _, rfl, X2.hx, T.cl_Store, T.na_Store_by_number, sf_by _ _ _ _ _ _ _, _, rfl, d, _, rfl, hv, by show 2 ≤ sizeLine; decide, fun t ht => ?_⟩
      have s3 := same_new (o := HO.tup [V.int q.1, V.ref r]) ht
      have hNl : xs.length = (rs.take i).length := Paired.length hN
      refine ⟨xs, s3 _ _ hD2, by rw [hNl, List.length_take]; exact lt_line (by omega), same_put (s2.trans s3) hD, _, upd_same, ?_⟩
      rw [List.take_succ, hq]
      have F3 : Frm [D] H2 (upd (upd H2 t (.tup [V.int q.1, V.ref r])) D (.lst (xs ++ [V.ref t]))) := (Frm.of_same s3).trans (.lst (s3 _ _ hD2) (by simp))
      exact Paired.app (Nrs.frm hN F3) (.cons ⟨t, r, rfl, by rw [upd_ne (ne_of_none hD2 ht).symm]; exact upd_same, F3.tups _ _ hr'⟩ .nil)
    · rintro H2 ⟨s2, xs, hD2, hN⟩
      rw [List.length_map, List.take_length] at hN
      exact k D xs H2 (s1.trans s2) (s1.free hD) hD2 hN
theorem sc_first_wrong : FnScope ["measures", "name", "least", "greatest", "thing"] ["measures"] (defScope s_first_wrong) := ⟨rfl, rfl, rfl, by decide +kernel, rfl, by decide +kernel, by decide +kernel⟩

set_option maxHeartbeats 8000000 in
theorem ok_first_wrong {fa : Addr} {fd : FuncData} (T : Txt K mg a_BOUNDS a_BOUNDS_0 a_BOUNDS_1 a_BOUNDS_2 a_BOUNDS_3 a_BOUNDS_4 a_KINDS t_MOST_COLUMNS t_MOST_LETTERS t_MOST_NUMBER t_MOST_ROWS a_STORE_KINDS a_Heap a_Store a_Shape dA_Store___init__ kA_Store___init__ e_Store___init___key kA_Shape___init__) (D : Def K mg "first_wrong" s_first_wrong fa fd) : FnOk P w K mg base CX0 2 fa fd ["measures"] sp_first_wrong := by
  obtain ⟨fa_is_whole, fd_is_whole, D_is_whole⟩ := T.d_is_whole
  have G_is_whole := ok_is_whole (P := P) (w := w) (base := base) T D_is_whole
  have b_is_whole := D_is_whole.fn.binds (ps := ["thing"]) fun _ _ _ _ _ _ us hl => match us, hl with | [_], _ => rfl
  refine D.fn.ok sc_first_wrong (fun vs H Q E h => ?_) (fun cdv A outer s H vs Q E hr h => ?_)
  · obtain ⟨t, hh, rfl, _⟩ := h
    rfl
  ·
    have r_is_whole : Room 1 _ := hr.mono (by decide)
    obtain ⟨t, hh, rfl, ht, ok, k⟩ := h
    refine ⟨_, (pss_cons (ps_for PassesOwn.never rfl (pi_zip2 (by rfl) T.z_zip (pa_cons (pe_glob (v := V.ref a_BOUNDS) (by rfl) T.g_BOUNDS rfl) (pa_cons (pv 0) pa_nil))) (pg_tupK (K := K) (n := 2) (by rfl) (pgs_cons (pg_tupK (K := K) (n := 3) (by rfl) (pgs_cons (pg_name (i := 1) sc_first_wrong.nd rfl (by first | exact Or.inl rfl | exact Or.inr rfl)) (pgs_cons (pg_name (i := 2) sc_first_wrong.nd rfl (by first | exact Or.inl rfl | exact Or.inr rfl)) (pgs_cons (pg_name (i := 3) sc_first_wrong.nd rfl (by first | exact Or.inl rfl | exact Or.inr rfl)) pgs_nil)))) (pgs_cons (pg_name (i := 4) sc_first_wrong.nd rfl (by first | exact Or.inl rfl | exact Or.inr rfl)) pgs_nil)))
      (pss_one (ps_if (PW.pt (pw_or (pt_not (pt_val (pe_call G_is_whole r_is_whole (by rfl) D_is_whole.mg D_is_whole.fn.kp b_is_whole .nil pass0 (pa_cons (pv 4) pa_nil)))) (pw_or1 (pt_not (pt_chain op_le op_le (pv 2) (pv 4) (pv 3))))))
      (pss_one (ps_ret (pv 1)))
      pss_nil)))
    (pss_one (ps_ret pe_non))), ?_⟩
    refine ⟨_, rfl, (false, a_BOUNDS), (false, t), _, _, rfl, .inr T.q_BOUNDS, SqS.tup ht, for_zip2 (K := K) (c1 := (false, a_BOUNDS)) (c2 := (false, t)) (fun i σ H' => ∃ v1 v2 v3 v4, σ = [some (.ref t), v1, v2, v3, v4] ∧ Same H H') ⟨_, _, _, _, rfl, Same.refl _⟩ (fun i σ H' _ => .inr T.q_BOUNDS) (fun i σ H' ⟨_, _, _, _, _, s⟩ => SqS.tup (s _ _ ht)) ?_ ?_⟩
    · rintro i x y TT σ H1 hx hy ⟨v1, v2, v3, v4, rfl, s1⟩ hTT
      have s2 := s1.trans (same_new (o := HO.tup [x, y]) hTT)
      obtain ⟨b, nm, lo, hi, w, rfl, rfl, hb, h1, h2⟩ : ∃ (b : Addr) (nm : Str) (lo hi w : Int), x = .ref b ∧ y = .int w ∧ (∀ H', SqT K H' b [.str nm, .int lo, .int hi]) ∧ lo ≤ w ∧ w ≤ hi := by
        have o1 := ok.r
        have o2 := ok.e
        have o3 := ok.f
        have o4 := ok.b
        have o5 := ok.c
        match i, hx, hy with
        | 0, hx, hy => cases hx; cases hy; exact ⟨_, _, 2, 8, _, rfl, rfl, fun _ => .inr T.q_BOUNDS_0, by omega, by omega⟩
        | 1, hx, hy => cases hx; cases hy; exact ⟨_, _, 2, 8, _, rfl, rfl, fun _ => .inr T.q_BOUNDS_1, by omega, by omega⟩
        | 2, hx, hy => cases hx; cases hy; exact ⟨_, _, 2, 8, _, rfl, rfl, fun _ => .inr T.q_BOUNDS_2, by omega, by omega⟩
        | 3, hx, hy => cases hx; cases hy; exact ⟨_, _, 1, 8, _, rfl, rfl, fun _ => .inr T.q_BOUNDS_3, by omega, by omega⟩
        | 4, hx, hy => cases hx; cases hy; exact ⟨_, _, 2, 64, _, rfl, rfl, fun _ => .inr T.q_BOUNDS_4, by omega, by omega⟩
        | n + 5, hx, hy => simp at hx
      refine ⟨TT, _, rfl, SqT.of upd_same, rfl, _, _, rfl, b, _, rfl, hb _, rfl, _, _, rfl, _, _, rfl, _, _, rfl, rfl, _, _, rfl, rfl, ?_⟩
      refine ⟨_, rfl, _, rfl, trivial, ?_⟩
      refine ⟨_, rfl, ?_⟩
      refine iteF ?_
      refine ⟨_, rfl, _, rfl, _, _, rfl, rfl, _, rfl, ?_⟩
      refine ite2 (fun _ => ?_) (fun c => absurd (decide_eq_true h1) c)
      refine ⟨_, rfl, _, _, rfl, rfl, _, rfl, ?_⟩
      rw [show decide (w ≤ hi) = true from decide_eq_true h2]
      exact ⟨_, _, _, _, rfl, s2⟩
    · rintro σ H1 ⟨v1, v2, v3, v4, rfl, s1⟩
      exact k H1 s1
theorem sc_Shape___init__ : FnScope ["self", "rows", "entries", "fan", "buckets", "bits", "measures", "wrong"] ["self", "rows", "entries", "fan", "buckets", "bits"] (defScope s_Shape___init__) := ⟨rfl, rfl, rfl, by decide +kernel, rfl, by decide +kernel, by decide +kernel⟩

set_option maxHeartbeats 8000000 in
theorem ok_Shape___init__ {fa : Addr} {fd : FuncData} (T : Txt K mg a_BOUNDS a_BOUNDS_0 a_BOUNDS_1 a_BOUNDS_2 a_BOUNDS_3 a_BOUNDS_4 a_KINDS t_MOST_COLUMNS t_MOST_LETTERS t_MOST_NUMBER t_MOST_ROWS a_STORE_KINDS a_Heap a_Store a_Shape dA_Store___init__ kA_Store___init__ e_Store___init___key kA_Shape___init__) (D : MkDefD K a_Shape "Shape.__init__" s_Shape___init__ .none (.ref kA_Shape___init__) fa fd) : FnOk P w K mg base CX0 3 fa fd ["self", "rows", "entries", "fan", "buckets", "bits"] (sp_Shape___init__ a_Shape) := by
  obtain ⟨fa_first_wrong, fd_first_wrong, D_first_wrong⟩ := T.d_first_wrong
  have G_first_wrong := ok_first_wrong (P := P) (w := w) (base := base) T D_first_wrong
  have b_first_wrong := D_first_wrong.fn.binds (ps := ["measures"]) fun _ _ _ _ _ _ us hl => match us, hl with | [_], _ => rfl
  refine D.fn.ok sc_Shape___init__ (fun vs H Q E h => ?_) (fun cdv A outer s H vs Q E hr h => ?_)
  · obtain ⟨x, dx, hh, rfl, _⟩ := h
    rfl
  ·
    have r_first_wrong : Room 2 _ := hr.mono (by decide)
    obtain ⟨x, dx, hh, rfl, hx, ok, k⟩ := h
    refine ⟨_, (pss_cons (ps_asg (pe_tup (pa_cons (pv 1) (pa_cons (pv 2) (pa_cons (pv 3) (pa_cons (pv 4) (pa_cons (pv 5) pa_nil)))))) (pg_name (i := 6) sc_Shape___init__.nd rfl (by first | exact Or.inl rfl | exact Or.inr rfl)))
    (pss_cons (ps_asg (pe_call G_first_wrong r_first_wrong (by rfl) D_first_wrong.mg D_first_wrong.fn.kp b_first_wrong .nil pass0 (pa_cons (pv 6) pa_nil)) (pg_name (i := 7) sc_Shape___init__.nd rfl (by first | exact Or.inl rfl | exact Or.inr rfl)))
    (pss_cons (ps_if (pt_cmpR op_notN (pv 7) pe_non (nomark _))
      (pss_one ps_never)
      pss_nil)
    (pss_one (ps_fld (pv 0) (pv 6) rfl))))), ?_⟩
    refine ⟨_, rfl, _, rfl, _, rfl, _, rfl, _, rfl, by show 5 ≤ sizeLine; decide, fun t ht => ?_⟩
    have s1 := same_new (o := HO.tup (shV hh)) ht
    have nx : x ≠ t := ne_of_none hx ht
    refine ⟨_, rfl, t, hh, rfl, upd_same, ok, fun H2 s2 => ?_⟩
    refine ⟨_, rfl, rfl, _, rfl, ?_⟩
    refine iteF (nextK ?_)
    refine ⟨_, rfl, _, rfl, x, a_Shape, dx, [], rfl, s2 _ _ (s1 _ _ hx), T.cl_Shape, T.na_Shape_measures, by show 0 < 1000; decide, ?_⟩
    refine k _ ⟨dx, t, upd_same, by rw [upd_ne nx.symm]; exact s2 _ _ upd_same⟩ (fun b o e nb => by rw [upd_ne nb]; exact s2 _ _ (s1 _ _ e))
theorem sc_law_bag : FnScope ["_law_script", "_law_at", "_law_cell", "_law_great", "_law_primes"] ["_law_script", "_law_at"] (defScope s_law_bag) := ⟨rfl, rfl, rfl, by decide +kernel, rfl, by decide +kernel, by decide +kernel⟩
def sp_law_bag (K : PySem.W.Frag) : Sp := fun vs H Q _ => ∃ (a : Addr) (ns : List Int) (k : Int), vs = [.ref a, .int k] ∧ SqL K H a (ns.map V.int) ∧ ns.length ≤ 63 ∧ 0 ≤ k ∧ k < 1000 ∧
  ∀ b H', H b = none → Same H H' → Bag H' b → Q (.ref b) H'
set_option maxHeartbeats 8000000 in
theorem ok_law_bag {fa : Addr} {fd : FuncData} (T : Txt K mg a_BOUNDS a_BOUNDS_0 a_BOUNDS_1 a_BOUNDS_2 a_BOUNDS_3 a_BOUNDS_4 a_KINDS t_MOST_COLUMNS t_MOST_LETTERS t_MOST_NUMBER t_MOST_ROWS a_STORE_KINDS a_Heap a_Store a_Shape dA_Store___init__ kA_Store___init__ e_Store___init___key kA_Shape___init__) (D : Def K mg "_law_bag" s_law_bag fa fd) : FnOk P w K mg base CX0 1 fa fd ["_law_script", "_law_at"] (sp_law_bag K) := by
  refine D.fn.ok sc_law_bag (fun vs H Q E h => ?_) (fun cdv A outer s H vs Q E hr h => ?_)
  · obtain ⟨a, ns, k, rfl, _⟩ := h
    rfl
  ·
    obtain ⟨a, ns, n, rfl, hS, hl, h0, h1, k⟩ := h
    refine ⟨_, (pss_cons (ps_asg pe_int (pg_name (i := 2) sc_law_bag.nd rfl (by first | exact Or.inl rfl | exact Or.inr rfl)))
    (pss_cons (ps_if (pt_cmpR op_lt (pv 1) (pe_callB call_len_seq (by rfl) T.z_len bt_len (pa_cons (pv 0) pa_nil)) (nomark _))
      (pss_one (ps_asg (pe_ix ix_list (pv 0) (pv 1) (fun _ _ => rfl)) (pg_name (i := 2) sc_law_bag.nd rfl (by first | exact Or.inl rfl | exact Or.inr rfl))))
      pss_nil)
    (pss_cons (ps_asg pe_int (pg_name (i := 3) sc_law_bag.nd rfl (by first | exact Or.inl rfl | exact Or.inr rfl)))
    (pss_cons (ps_if (pt_cmpR op_ge (pe_callB call_abs (by rfl) T.z_abs bt_abs (pa_cons (pv 2) pa_nil)) (pe_op op_pow pe_int pe_int) (nomark _))
      (pss_one (ps_asg (pe_callB call_abs (by rfl) T.z_abs bt_abs (pa_cons (pv 2) pa_nil)) (pg_name (i := 3) sc_law_bag.nd rfl (by first | exact Or.inl rfl | exact Or.inr rfl))))
      pss_nil)
    (pss_cons (ps_asg (pe_lst (pa_cons pe_int (pa_cons pe_int (pa_cons pe_int (pa_cons pe_int (pa_cons pe_int (pa_cons pe_int (pa_cons pe_int (pa_cons pe_int pa_nil))))))))) (pg_name (i := 4) sc_law_bag.nd rfl (by first | exact Or.inl rfl | exact Or.inr rfl)))
    (pss_one (ps_ret (pe_lst (pa_cons (pv 3) (pa_cons (pe_op op_mod (pe_op op_pow (pe_op op_add (pe_op op_add (pe_op op_mod (pv 2) pe_int) (pe_op op_mul pe_int (pv 1))) pe_int) pe_int) (pe_ix ix_list (pv 4) (pe_op op_mod (pv 1) pe_int) (fun _ _ => rfl))) pa_nil)))))))))), ?_⟩
    have prime : ∃ v, atI [V.int 2147483629, V.int 2147483587, V.int 2147483579, V.int 2147483563, V.int 2147483549, V.int 2147483543, V.int 2147483497, V.int 2147483489] (n % 8) = some v ∧ ∃ p : Int, v = .int p ∧ 0 < p ∧ p < 2147483648 := by
      refine at_all _ (fun x hx => ?_) (Int.emod_nonneg _ (by decide)) (by show n % 8 < 8; omega)
      simp only [List.mem_cons, List.not_mem_nil, or_false] at hx
      rcases hx with rfl | rfl | rfl | rfl | rfl | rfl | rfl | rfl <;> exact ⟨_, rfl, by decide, by decide⟩
    obtain ⟨_, ep, p, rfl, p0, p1⟩ := prime
    refine ⟨_, rfl, _, rfl, _, _, rfl, .inl hS, _, _, rfl, rfl, _, rfl, ?_⟩
    refine ite2 (fun c1 => ?_) (fun c1 => ?_)
    · obtain ⟨c, ec⟩ := at_int (ns := ns) h0 (by simpa using c1)
      refine ⟨_, rfl, _, rfl, a, _, _, _, rfl, rfl, hS, ec, ?_⟩
      refine ⟨_, rfl, _, rfl, _, _, rfl, rfl, ⟨by decide, by decide, by decide⟩, _, _, rfl, rfl, _, rfl, ?_⟩
      refine ite2 (fun c2 => ?_) (fun c2 => ?_)
      · refine ⟨_, rfl, _, rfl, ?_⟩
        refine ⟨by show 8 ≤ sizeLine; decide, fun q hq => ?_⟩
        refine ⟨_, rfl, _, rfl, _, _, rfl, rfl, (by decide : (0 : Int) < 2147483647), _, rfl, _, _, rfl, rfl, .inl ⟨by decide, by decide⟩, _, _, rfl, rfl, _, _, rfl, rfl, _, _, rfl, rfl, ⟨by decide, by decide, ?_⟩, _, rfl, _, rfl, _, _, rfl, rfl, (by decide : (0 : Int) < 8), q, _, _, _, rfl, rfl, SqL.of upd_same, ep, _, _, rfl, rfl, p0, ?_⟩
        · omega
        · refine ⟨by show 2 ≤ sizeLine; decide, fun b hb => ?_⟩
          refine k b _ ((same_new hq).free hb) ((same_new hq).trans (same_new hb)) ⟨_, _, upd_same, ?_, Int.emod_nonneg _ (by omega), Int.lt_trans (Int.emod_lt_of_pos _ p0) p1⟩
          split <;> omega
      · refine ⟨by show 8 ≤ sizeLine; decide, fun q hq => ?_⟩
        refine ⟨_, rfl, _, rfl, _, _, rfl, rfl, (by decide : (0 : Int) < 2147483647), _, rfl, _, _, rfl, rfl, .inl ⟨by decide, by decide⟩, _, _, rfl, rfl, _, _, rfl, rfl, _, _, rfl, rfl, ⟨by decide, by decide, ?_⟩, _, rfl, _, rfl, _, _, rfl, rfl, (by decide : (0 : Int) < 8), q, _, _, _, rfl, rfl, SqL.of upd_same, ep, _, _, rfl, rfl, p0, ?_⟩
        · omega
        · refine ⟨by show 2 ≤ sizeLine; decide, fun b hb => ?_⟩
          exact k b _ ((same_new hq).free hb) ((same_new hq).trans (same_new hb)) ⟨_, _, upd_same, by decide, Int.emod_nonneg _ (by omega), Int.lt_trans (Int.emod_lt_of_pos _ p0) p1⟩
    · refine ⟨_, rfl, _, rfl, _, _, rfl, rfl, ⟨by decide, by decide, by decide⟩, _, _, rfl, rfl, _, rfl, ?_⟩
      refine ite2 (fun c2 => ?_) (fun c2 => ?_)
      · exact absurd c2 (by decide)
      · refine ⟨by show 8 ≤ sizeLine; decide, fun q hq => ?_⟩
        refine ⟨_, rfl, _, rfl, _, _, rfl, rfl, (by decide : (0 : Int) < 2147483647), _, rfl, _, _, rfl, rfl, .inl ⟨by decide, by decide⟩, _, _, rfl, rfl, _, _, rfl, rfl, _, _, rfl, rfl, ⟨by decide, by decide, ?_⟩, _, rfl, _, rfl, _, _, rfl, rfl, (by decide : (0 : Int) < 8), q, _, _, _, rfl, rfl, SqL.of upd_same, ep, _, _, rfl, rfl, p0, ?_⟩
        · omega
        · refine ⟨by show 2 ≤ sizeLine; decide, fun b hb => ?_⟩
          exact k b _ ((same_new hq).free hb) ((same_new hq).trans (same_new hb)) ⟨_, _, upd_same, by decide, Int.emod_nonneg _ (by omega), Int.lt_trans (Int.emod_lt_of_pos _ p0) p1⟩
theorem sc_law_take : FnScope ["_law_bag_here", "_law_many", "_law_digit"] ["_law_bag_here", "_law_many"] (defScope s_law_take) := ⟨rfl, rfl, rfl, by decide +kernel, rfl, by decide +kernel, by decide +kernel⟩
def sp_law_take : Sp := fun vs H Q _ => ∃ (b : Addr) (m : Int), vs = [.ref b, .int m] ∧ Bag H b ∧ 0 < m ∧ m < 1073741824 ∧ ∀ r H', 0 ≤ r → r < m → Eff b H H' → Q (.int r) H'
set_option maxHeartbeats 8000000 in
theorem ok_law_take {fa : Addr} {fd : FuncData} (T : Txt K mg a_BOUNDS a_BOUNDS_0 a_BOUNDS_1 a_BOUNDS_2 a_BOUNDS_3 a_BOUNDS_4 a_KINDS t_MOST_COLUMNS t_MOST_LETTERS t_MOST_NUMBER t_MOST_ROWS a_STORE_KINDS a_Heap a_Store a_Shape dA_Store___init__ kA_Store___init__ e_Store___init___key kA_Shape___init__) (D : Def K mg "_law_take" s_law_take fa fd) : FnOk P w K mg base CX0 1 fa fd ["_law_bag_here", "_law_many"] sp_law_take := by
  refine D.fn.ok sc_law_take (fun vs H Q E h => ?_) (fun cdv A outer s H vs Q E hr h => ?_)
  · obtain ⟨b, m, rfl, _⟩ := h
    rfl
  ·
    obtain ⟨b, m, rfl, ⟨g, x, hb, hg, hx0, hx1⟩, h0, h1, k⟩ := h
    refine ⟨_, (pss_cons (ps_if (pt_cmpR op_gt (pe_ix ix_list (pv 0) pe_int (fun _ _ => rfl)) pe_int (nomark _))
      (pss_cons (ps_asg (pe_op op_mod (pe_ix ix_list (pv 0) pe_int (fun _ _ => rfl)) (pv 1)) (pg_name (i := 2) sc_law_take.nd rfl (by first | exact Or.inl rfl | exact Or.inr rfl)))
    (pss_cons (ps_asg (pe_op op_fdiv (pe_ix ix_list (pv 0) pe_int (fun _ _ => rfl)) (pv 1)) (pg_sub (pv 0) pe_int set_list))
    (pss_one (ps_ret (pv 2)))))
      pss_nil)
    (pss_cons (ps_asg (pe_op op_mod (pe_op op_add (pe_op op_mul (pe_ix ix_list (pv 0) pe_int (fun _ _ => rfl)) pe_int) pe_int) pe_int) (pg_sub (pv 0) pe_int set_list))
    (pss_one (ps_ret (pe_op op_mod (pe_op op_mod (pe_op op_pow (pe_op op_fdiv (pe_ix ix_list (pv 0) pe_int (fun _ _ => rfl)) pe_int) pe_int) pe_int) (pv 1)))))), ?_⟩
    refine ⟨_, rfl, b, _, _, _, rfl, rfl, SqL.of hb, rfl, _, _, rfl, rfl, _, rfl, ?_⟩
    refine ite2 (fun c1 => ?_) (fun c1 => ?_)
    · refine ⟨_, rfl, b, _, _, _, rfl, rfl, SqL.of hb, rfl, _, rfl, _, _, rfl, rfl, h0, ?_⟩
      refine ⟨_, rfl, b, _, _, _, rfl, rfl, SqL.of hb, rfl, _, rfl, _, _, rfl, rfl, ⟨h0, h1⟩, _, rfl, b, _, _, _, rfl, rfl, hb, rfl, _, rfl, ?_⟩
      refine k _ _ (Int.emod_nonneg _ (by omega)) (Int.emod_lt_of_pos _ h0) ⟨⟨_, _, upd_same, Int.ediv_nonneg hg (by omega), hx0, hx1⟩, fun c o n e => by rw [upd_ne n]; exact e⟩
    · refine ⟨_, rfl, b, _, _, _, rfl, rfl, SqL.of hb, rfl, _, _, rfl, rfl, .inr ⟨by decide, by decide⟩, _, _, rfl, rfl, _, _, rfl, rfl, (by decide : (0 : Int) < 2147483647), _, rfl, b, _, _, _, rfl, rfl, hb, rfl, ?_⟩
      have hy0 : 0 ≤ (x * 48271 + 11) % 2147483647 := Int.emod_nonneg _ (by decide)
      have hy1 : (x * 48271 + 11) % 2147483647 < 2147483647 := Int.emod_lt_of_pos _ (by decide)
      refine ⟨_, rfl, b, _, _, _, rfl, rfl, SqL.of upd_same, rfl, _, _, rfl, rfl, ⟨by decide, by decide⟩, _, _, rfl, rfl, ⟨by decide, by decide, ?_⟩, _, _, rfl, rfl, (by decide : (0 : Int) < 2147483629), _, rfl, _, _, rfl, rfl, h0, ?_⟩
      · omega
      · refine k _ _ (Int.emod_nonneg _ (by omega)) (Int.emod_lt_of_pos _ h0) ⟨⟨_, _, upd_same, hg, hy0, Int.lt_trans hy1 (by decide)⟩, fun c o n e => by rw [upd_ne n]; exact e⟩
theorem sc_law_names : FnScope ["_law_bag_here", "_law_many", "_law_letters", "_law_found", "_law_k", "_law_size", "_law_stem", "_law_turn"] ["_law_bag_here", "_law_many"] (defScope s_law_names) := ⟨rfl, rfl, rfl, by decide +kernel, rfl, by decide +kernel, by decide +kernel⟩

set_option maxHeartbeats 8000000 in
theorem ok_law_names {fa : Addr} {fd : FuncData} (T : Txt K mg a_BOUNDS a_BOUNDS_0 a_BOUNDS_1 a_BOUNDS_2 a_BOUNDS_3 a_BOUNDS_4 a_KINDS t_MOST_COLUMNS t_MOST_LETTERS t_MOST_NUMBER t_MOST_ROWS a_STORE_KINDS a_Heap a_Store a_Shape dA_Store___init__ kA_Store___init__ e_Store___init___key kA_Shape___init__) (D : Def K mg "_law_names" s_law_names fa fd) : FnOk P w K mg base CX0 2 fa fd ["_law_bag_here", "_law_many"] sp_law_names := by
  obtain ⟨fa_law_take, fd_law_take, D_law_take⟩ := T.d_law_take
  have G_law_take := ok_law_take (P := P) (w := w) (base := base) T D_law_take
  have b_law_take := D_law_take.fn.binds (ps := ["_law_bag_here", "_law_many"]) fun _ _ _ _ _ _ us hl => match us, hl with | [_, _], _ => rfl
  refine D.fn.ok sc_law_names (fun vs H Q E h => ?_) (fun cdv A outer s H vs Q E hr h => ?_)
  · obtain ⟨b, m, rfl, _⟩ := h
    rfl
  ·
    have r_law_take : Room 1 _ := hr.mono (by decide)
    obtain ⟨b, m, rfl, hb, m0, m1, k⟩ := h
    refine ⟨_, (pss_cons (ps_asg pe_str (pg_name (i := 2) sc_law_names.nd rfl (by first | exact Or.inl rfl | exact Or.inr rfl)))
    (pss_cons (ps_asg (pe_lst pa_nil) (pg_name (i := 3) sc_law_names.nd rfl (by first | exact Or.inl rfl | exact Or.inr rfl)))
    (pss_cons (ps_for PassesOwn.never rfl (pi_range1 (by rfl) T.z_range (pa_cons (pv 1) pa_nil)) (pg_name (i := 4) sc_law_names.nd rfl (by first | exact Or.inl rfl | exact Or.inr rfl))
      (pss_cons (ps_asg (pe_ifExp (pt_cmpR op_gt (pv 4) pe_int (nomark _)) pe_int (pe_call G_law_take r_law_take (by rfl) D_law_take.mg D_law_take.fn.kp b_law_take .nil pass0 (pa_cons (pv 0) (pa_cons pe_int pa_nil)))) (pg_name (i := 5) sc_law_names.nd rfl (by first | exact Or.inl rfl | exact Or.inr rfl)))
    (pss_cons (ps_asg (pe_join pe_str (pe_lc (own := [("_law_turn", 7)]) (g := gName 7) (by rfl) sc_law_names.nd (pi_range1 (by rfl) T.z_range (pa_cons (pv 5) pa_nil)) (blkOk_by (own := [("_law_turn", 7)]) (N := ["_law_bag_here", "_law_many", "_law_letters", "_law_found", "_law_k", "_law_size", "_law_stem", "_law_turn"]) (sc := defScope s_law_names) (by decide +kernel))
        (fun _ _ _ _ _ => (pg_name (i := 7) sc_law_names.nd rfl (by first | exact Or.inl rfl | exact Or.inr rfl))) (fun _ _ _ _ _ => pts_nil)
        (fun _ _ _ _ _ => (pe_ix ix_str (pv 2) (pe_call G_law_take r_law_take (by rfl) D_law_take.mg D_law_take.fn.kp b_law_take .nil pass0 (pa_cons (pv 0) (pa_cons pe_int pa_nil))) (fun _ _ => rfl))))) (pg_name (i := 6) sc_law_names.nd rfl (by first | exact Or.inl rfl | exact Or.inr rfl)))
    (pss_one (ps_expr (pe_bm PySem.F.plainAttrs_list PySem.F.slot_list_append PySem.F.type_list_append mt_append.r (pv 3) (pa_cons (pe_op op_add_str (pv 6) (pe_ix ix_str (pv 2) (pe_op op_mod (pv 4) pe_int) (fun _ _ => rfl))) pa_nil)))))))
    (pss_one (ps_ret (pv 3)))))), ?_⟩
    refine ⟨by show 0 ≤ sizeLine; decide, fun p hp => ?_⟩
    have nP : p ≠ b := (hb.ne hp).symm
    refine ⟨_, rfl, m, rfl, by omega, by omega, for_range (fun i σ H' => ∃ v4 v5 v6 v7 ws, σ = [some (.ref b), some (.int m), some (.str "abcdefghijklmnopqrstuvwxyz"), some (.ref p), v4, v5, v6, v7] ∧ Eff b H H' ∧ H' p = some (.lst (ws.map V.str)) ∧ ws.length = i ∧ NamesOK ws)
      ⟨none, none, none, none, [], rfl, hb.eff (same_new hp), upd_same, rfl, fun i w h => by simp at h⟩ ?_ ?_⟩
    · rintro i σ H1 hi ⟨v4, v5, v6, v7, ws, rfl, e1, ep, wl, wo⟩
      have hi' : i < 26 := by omega
      refine ⟨_, rfl, _, _, rfl, rfl, _, rfl, ?_⟩
      rw [decide_eq_false (by omega : ¬ (25 : Int) < 0 + (i : Int))]
      refine iteF ?_
      refine ⟨_, rfl, b, 7, rfl, e1.1, by decide, by decide, fun n H2 n0 n1 e2 => ?_⟩
      refine ⟨⟨_, rfl⟩, ?_⟩
      refine ⟨_, rfl, n, rfl, by omega, by omega, fun D hD => ?_⟩
      have nD : D ≠ b := (e2.1.ne hD).symm
      refine lc_range (fun i H => Eff b H2 H ∧ ∃ cs : List Nat, H D = some (.lst ((cs.map fun c => (⟨#[c]⟩ : Str)).map V.str)) ∧ cs.length = i ∧ ∀ c ∈ cs, 97 ≤ c ∧ c ≤ 122)
        ⟨e2.1.eff (same_new hD), [], upd_same, rfl, by simp⟩ ?_ ?_
      · rintro j H3 hj ⟨he, cs, hc, hl, ha⟩
        refine ⟨rfl, ?_⟩
        refine ⟨_, rfl, _, rfl, b, 26, rfl, he.1, by decide, by decide, fun c H4 c0 c1 e4 => ?_⟩
        obtain ⟨d, ed, hd⟩ := az_at c0 c1
        refine ⟨_, _, d, rfl, rfl, by decide +kernel, ed, _, e4.2 D _ nD hc, ?_, ?_⟩
        · rw [List.length_map, List.length_map, hl]
          exact Nat.lt_of_lt_of_le hj (Nat.le_trans (by omega : n.toNat ≤ 100) (by decide))
        · have g : Bag (upd H4 D (.lst ((cs.map fun c => (⟨#[c]⟩ : Str)).map V.str ++ [V.str ⟨#[d]⟩]))) b := by
            obtain ⟨g, x, eb, r⟩ := e4.1
            exact ⟨g, x, by rw [upd_ne nD.symm]; exact eb, r⟩
          refine ⟨⟨g, fun c o n e => ?_⟩, cs ++ [d], ?_, ?_, fun c hc => ?_⟩
          · rw [upd_ne (fun z => by subst z; rw [hD] at e; cases e)]
            exact e4.2 c o n (he.2 c o n e)
          · rw [upd_same, List.map_append, List.map_append]; rfl
          · rw [List.length_append, hl]; rfl
          · rcases List.mem_append.mp hc with q | q
            · exact ha c q
            · rw [List.mem_singleton.mp q]; exact hd
      · rintro H3 ⟨he, cs, hc, hl, ha⟩
        refine ⟨_, D, cs.map fun c => (⟨#[c]⟩ : Str), rfl, rfl, .inl (SqL.of hc), ?_, ?_⟩
        · rw [sum_ones, List.length_map]
          show cs.length + cs.length * 0 ≤ _
          omega
        · have ep3 : H3 p = some (.lst (ws.map V.str)) := he.2 _ _ nP (e2.2 _ _ nP ep)
          obtain ⟨wk, we⟩ := word_stem (i := i) ha (by omega) hi'
          have zi : (0 + (i : Int)) % 26 = (i : Int) := by omega
          have gl := glue_len cs
          refine ⟨_, rfl, .inl ⟨rfl, _, SqL.of ep3⟩, _, rfl, _, rfl, _, rfl, _, _, rfl, rfl, (by decide : (0 : Int) < 26), _, _, 97 + i, rfl, rfl, by decide +kernel, ?_, _, _, rfl, rfl, ?_, p, _, _, rfl, rfl, ep3, ?_, ?_⟩
          · rw [zi]
            have := az_nth (i := (i : Int)) (by omega) (by omega)
            rw [this]
            simp
          · rw [gl]
            exact Nat.le_trans (by show cs.length + 1 ≤ 100; omega) (by decide)
          · rw [List.length_map, wl]
            exact Nat.lt_of_lt_of_le hi' (by decide)
          · have E3 := e1.trans (e2.trans he)
            refine ⟨_, _, _, _, ws ++ [Txt.join "" (cs.map fun c => (⟨#[c]⟩ : Str)) ++ (⟨#[97 + i]⟩ : Str)], rfl, ⟨?_, fun c o n e => ?_⟩, ?_, ?_, ?_⟩
            · obtain ⟨g, x, eb, r⟩ := E3.1
              exact ⟨g, x, by rw [upd_ne nP.symm]; exact eb, r⟩
            · rw [upd_ne (ne_of_none e hp)]
              exact E3.2 c o n e
            · rw [upd_same, List.map_append]; rfl
            · rw [List.length_append, wl]; rfl
            · exact wo.snoc wk (by rw [wl]; exact we)
    · rintro σ H1 ⟨v4, v5, v6, v7, ws, rfl, e1, ep, wl, wo⟩
      exact ⟨_, rfl, k p ws H1 hp ep (by omega) wo e1⟩
theorem sc_law_word : FnScope ["_law_bag_here", "_law_letters", "_law_turn"] ["_law_bag_here"] (defScope s_law_word) := ⟨rfl, rfl, rfl, by decide +kernel, rfl, by decide +kernel, by decide +kernel⟩
def sp_law_word : Sp := fun vs H Q _ => ∃ (b : Addr), vs = [.ref b] ∧ Bag H b ∧ ∀ z H', WordS z → Eff b H H' → Q (.str z) H'
set_option maxHeartbeats 8000000 in
theorem ok_law_word {fa : Addr} {fd : FuncData} (T : Txt K mg a_BOUNDS a_BOUNDS_0 a_BOUNDS_1 a_BOUNDS_2 a_BOUNDS_3 a_BOUNDS_4 a_KINDS t_MOST_COLUMNS t_MOST_LETTERS t_MOST_NUMBER t_MOST_ROWS a_STORE_KINDS a_Heap a_Store a_Shape dA_Store___init__ kA_Store___init__ e_Store___init___key kA_Shape___init__) (D : Def K mg "_law_word" s_law_word fa fd) : FnOk P w K mg base CX0 2 fa fd ["_law_bag_here"] sp_law_word := by
  obtain ⟨fa_law_take, fd_law_take, D_law_take⟩ := T.d_law_take
  have G_law_take := ok_law_take (P := P) (w := w) (base := base) T D_law_take
  have b_law_take := D_law_take.fn.binds (ps := ["_law_bag_here", "_law_many"]) fun _ _ _ _ _ _ us hl => match us, hl with | [_, _], _ => rfl
  refine D.fn.ok sc_law_word (fun vs H Q E h => ?_) (fun cdv A outer s H vs Q E hr h => ?_)
  · obtain ⟨b, rfl, _⟩ := h
    rfl
  ·
    have r_law_take : Room 1 _ := hr.mono (by decide)
    obtain ⟨b, rfl, hb, k⟩ := h
    refine ⟨_, (pss_cons (ps_if (pt_cmpR op_eq (pe_call G_law_take r_law_take (by rfl) D_law_take.mg D_law_take.fn.kp b_law_take .nil pass0 (pa_cons (pv 0) (pa_cons pe_int pa_nil))) pe_int (nomark _))
      (pss_one (ps_ret (pe_ix ix_tup (pe_tup (pa_cons pe_str (pa_cons pe_str (pa_cons pe_str (pa_cons pe_str pa_nil))))) (pe_call G_law_take r_law_take (by rfl) D_law_take.mg D_law_take.fn.kp b_law_take .nil pass0 (pa_cons (pv 0) (pa_cons pe_int pa_nil))) (fun _ _ => rfl))))
      pss_nil)
    (pss_cons (ps_asg pe_str (pg_name (i := 1) sc_law_word.nd rfl (by first | exact Or.inl rfl | exact Or.inr rfl)))
    (pss_one (ps_ret (pe_join pe_str (pe_lc (own := [("_law_turn", 2)]) (g := gName 2) (by rfl) sc_law_word.nd (pi_range1 (by rfl) T.z_range (pa_cons (pe_op op_add pe_int (pe_call G_law_take r_law_take (by rfl) D_law_take.mg D_law_take.fn.kp b_law_take .nil pass0 (pa_cons (pv 0) (pa_cons pe_int pa_nil)))) pa_nil)) (blkOk_by (own := [("_law_turn", 2)]) (N := ["_law_bag_here", "_law_letters", "_law_turn"]) (sc := defScope s_law_word) (by decide +kernel))
        (fun _ _ _ _ _ => (pg_name (i := 2) sc_law_word.nd rfl (by first | exact Or.inl rfl | exact Or.inr rfl))) (fun _ _ _ _ _ => pts_nil)
        (fun _ _ _ _ _ => (pe_ix ix_str (pv 1) (pe_call G_law_take r_law_take (by rfl) D_law_take.mg D_law_take.fn.kp b_law_take .nil pass0 (pa_cons (pv 0) (pa_cons pe_int pa_nil))) (fun _ _ => rfl))))))))), ?_⟩
    refine ⟨_, rfl, b, 2, rfl, hb, by decide, by decide, fun r H1 r0 r1 e1 => ?_⟩
    refine ⟨rfl, _, rfl, ?_⟩
    refine ite2 (fun c1 => ?_) (fun c1 => ?_)
    · refine ⟨by show 4 ≤ sizeLine; decide, fun p hp => ?_⟩
      refine ⟨_, rfl, b, 4, rfl, (e1.1.same (same_new hp)), by decide, by decide, fun i H2 i0 i1 e2 => ?_⟩
      obtain ⟨_, ev, z, rfl, hz⟩ := at_all (xs := [V.str "a", V.str "b", V.str "ab", V.str "zzzzzzzz"]) (fun v => ∃ z, v = V.str z ∧ WordS z) (fun x hx => by
        simp only [List.mem_cons, List.not_mem_nil, or_false] at hx
        rcases hx with rfl | rfl | rfl | rfl <;> exact ⟨_, rfl, by decide +kernel, by decide +kernel, by decide +kernel⟩) i0 i1
      refine ⟨p, _, _, _, rfl, rfl, SqT.of (e2.2 p _ (e1.1.ne hp).symm upd_same), ev, ?_⟩
      exact k z H2 hz (e1.trans ((e1.1.eff (same_new hp)).trans e2))
    · refine ⟨⟨_, rfl⟩, ?_⟩
      refine ⟨_, rfl, b, 8, rfl, e1.1, by decide, by decide, fun m H2 m0 m1 e2 => ⟨_, _, rfl, rfl, ?_⟩⟩
      refine ⟨1 + m, rfl, by omega, by omega, fun D hD => ?_⟩
      have nD : D ≠ b := (e2.1.ne hD).symm
      refine lc_range (fun i H => Eff b H2 H ∧ ∃ cs : List Nat, H D = some (.lst ((cs.map fun c => (⟨#[c]⟩ : Str)).map V.str)) ∧ cs.length = i ∧ ∀ c ∈ cs, 97 ≤ c ∧ c ≤ 122)
        ⟨e2.1.eff (same_new hD), [], upd_same, rfl, by simp⟩ ?_ ?_
      · rintro i H3 hi ⟨he, cs, hc, hl, ha⟩
        refine ⟨rfl, ?_⟩
        refine ⟨_, rfl, _, rfl, b, 26, rfl, he.1, by decide, by decide, fun c H4 c0 c1 e4 => ?_⟩
        obtain ⟨d, ed, hd⟩ := az_at c0 c1
        refine ⟨_, _, d, rfl, rfl, by decide +kernel, ed, _, e4.2 D _ nD hc, ?_, ?_⟩
        · rw [List.length_map, List.length_map, hl]
          exact Nat.lt_of_lt_of_le hi (Nat.le_trans (by omega : (1 + m).toNat ≤ 100) (by decide))
        · have g : Bag (upd H4 D (.lst ((cs.map fun c => (⟨#[c]⟩ : Str)).map V.str ++ [V.str ⟨#[d]⟩]))) b := by
            obtain ⟨g, x, eb, r⟩ := e4.1
            exact ⟨g, x, by rw [upd_ne nD.symm]; exact eb, r⟩
          refine ⟨⟨g, fun c o n e => ?_⟩, cs ++ [d], ?_, ?_, fun c hc => ?_⟩
          · rw [upd_ne (fun z => by subst z; rw [hD] at e; cases e)]
            exact e4.2 c o n (he.2 c o n e)
          · rw [upd_same, List.map_append, List.map_append]; rfl
          · rw [List.length_append, hl]; rfl
          · rcases List.mem_append.mp hc with q | q
            · exact ha c q
            · rw [List.mem_singleton.mp q]; exact hd
      · rintro H3 ⟨he, cs, hc, hl, ha⟩
        refine ⟨_, D, cs.map fun c => (⟨#[c]⟩ : Str), rfl, rfl, .inl (SqL.of hc), ?_, ?_⟩
        · rw [sum_ones, List.length_map]
          show cs.length + cs.length * 0 ≤ _
          omega
        · exact k _ H3 (word_glue (by omega) (by omega) ha) (e1.trans (e2.trans he))
theorem sc_law_value : FnScope ["_law_bag_here", "_law_kind", "_law_way"] ["_law_bag_here", "_law_kind"] (defScope s_law_value) := ⟨rfl, rfl, rfl, by decide +kernel, rfl, by decide +kernel, by decide +kernel⟩
def sp_law_value : Sp := fun vs H Q _ => ∃ (b : Addr) (x : Str), vs = [.ref b, .str x] ∧ Bag H b ∧ ∀ v H', ValS x v → Eff b H H' → Q v H'
set_option maxHeartbeats 8000000 in
theorem ok_law_value {fa : Addr} {fd : FuncData} (T : Txt K mg a_BOUNDS a_BOUNDS_0 a_BOUNDS_1 a_BOUNDS_2 a_BOUNDS_3 a_BOUNDS_4 a_KINDS t_MOST_COLUMNS t_MOST_LETTERS t_MOST_NUMBER t_MOST_ROWS a_STORE_KINDS a_Heap a_Store a_Shape dA_Store___init__ kA_Store___init__ e_Store___init___key kA_Shape___init__) (D : Def K mg "_law_value" s_law_value fa fd) : FnOk P w K mg base CX0 3 fa fd ["_law_bag_here", "_law_kind"] sp_law_value := by
  obtain ⟨fa_law_word, fd_law_word, D_law_word⟩ := T.d_law_word
  have G_law_word := ok_law_word (P := P) (w := w) (base := base) T D_law_word
  have b_law_word := D_law_word.fn.binds (ps := ["_law_bag_here"]) fun _ _ _ _ _ _ us hl => match us, hl with | [_], _ => rfl
  obtain ⟨fa_law_take, fd_law_take, D_law_take⟩ := T.d_law_take
  have G_law_take := ok_law_take (P := P) (w := w) (base := base) T D_law_take
  have b_law_take := D_law_take.fn.binds (ps := ["_law_bag_here", "_law_many"]) fun _ _ _ _ _ _ us hl => match us, hl with | [_, _], _ => rfl
  refine D.fn.ok sc_law_value (fun vs H Q E h => ?_) (fun cdv A outer s H vs Q E hr h => ?_)
  · obtain ⟨b, x, rfl, _⟩ := h
    rfl
  ·
    have r_law_word : Room 2 _ := hr.mono (by decide)
    have r_law_take : Room 1 _ := hr.mono (by decide)
    obtain ⟨b, x, rfl, hb, k⟩ := h
    refine ⟨_, (pss_cons (ps_if (pt_cmpR op_eq (pv 1) pe_str (nomark _))
      (pss_one (ps_ret (pe_call G_law_word r_law_word (by rfl) D_law_word.mg D_law_word.fn.kp b_law_word .nil pass0 (pa_cons (pv 0) pa_nil))))
      pss_nil)
    (pss_cons (ps_asg (pe_call G_law_take r_law_take (by rfl) D_law_take.mg D_law_take.fn.kp b_law_take .nil pass0 (pa_cons (pv 0) (pa_cons pe_int pa_nil))) (pg_name (i := 2) sc_law_value.nd rfl (by first | exact Or.inl rfl | exact Or.inr rfl)))
    (pss_one (ps_ret (pe_ifExp (pt_cmpR op_lt (pv 2) pe_int (nomark _)) (pe_op op_sub (pe_call G_law_take r_law_take (by rfl) D_law_take.mg D_law_take.fn.kp b_law_take .nil pass0 (pa_cons (pv 0) (pa_cons pe_int pa_nil))) pe_int) (pe_op op_sub (pe_call G_law_take r_law_take (by rfl) D_law_take.mg D_law_take.fn.kp b_law_take .nil pass0 (pa_cons (pv 0) (pa_cons pe_int pa_nil))) pe_int)))))), ?_⟩
    refine ⟨_, rfl, rfl, _, rfl, ?_⟩
    refine ite2 (fun c1 => ?_) (fun c1 => ?_)
    · obtain rfl : x = "word" := by simpa using c1
      exact ⟨_, rfl, b, rfl, hb, fun z H1 hz e1 => k _ H1 ⟨z, rfl, hz⟩ e1⟩
    · have nx : ¬ x = "word" := fun z => c1 (by rw [z]; decide)
      refine ⟨_, rfl, b, 3, rfl, hb, by decide, by decide, fun r H1 r0 r1 e1 => ?_⟩
      refine ⟨_, rfl, _, _, rfl, rfl, _, rfl, ?_⟩
      refine ite2 (fun c2 => ?_) (fun c2 => ?_)
      · refine ⟨_, rfl, b, 4, rfl, e1.1, by decide, by decide, fun i H2 i0 i1 e2 => ⟨_, _, rfl, rfl, ?_⟩⟩
        refine k _ H2 ?_ (e1.trans e2)
        unfold ValS
        rw [if_neg nx]
        exact ⟨_, rfl, by omega, by omega⟩
      · refine ⟨_, rfl, b, 1999, rfl, e1.1, by decide, by decide, fun i H2 i0 i1 e2 => ⟨_, _, rfl, rfl, ?_⟩⟩
        refine k _ H2 ?_ (e1.trans e2)
        unfold ValS
        rw [if_neg nx]
        exact ⟨_, rfl, by omega, by omega⟩
theorem sc_law_form : FnScope ["_law_bag_here", "_law_names_here", "_law_name"] ["_law_bag_here"] (defScope s_law_form) := ⟨rfl, rfl, rfl, by decide +kernel, rfl, by decide +kernel, by decide +kernel⟩

set_option maxHeartbeats 8000000 in
theorem ok_law_form {fa : Addr} {fd : FuncData} (T : Txt K mg a_BOUNDS a_BOUNDS_0 a_BOUNDS_1 a_BOUNDS_2 a_BOUNDS_3 a_BOUNDS_4 a_KINDS t_MOST_COLUMNS t_MOST_LETTERS t_MOST_NUMBER t_MOST_ROWS a_STORE_KINDS a_Heap a_Store a_Shape dA_Store___init__ kA_Store___init__ e_Store___init___key kA_Shape___init__) (D : Def K mg "_law_form" s_law_form fa fd) : FnOk P w K mg base CX0 3 fa fd ["_law_bag_here"] sp_law_form := by
  obtain ⟨fa_law_names, fd_law_names, D_law_names⟩ := T.d_law_names
  have G_law_names := ok_law_names (P := P) (w := w) (base := base) T D_law_names
  have b_law_names := D_law_names.fn.binds (ps := ["_law_bag_here", "_law_many"]) fun _ _ _ _ _ _ us hl => match us, hl with | [_, _], _ => rfl
  obtain ⟨fa_law_take, fd_law_take, D_law_take⟩ := T.d_law_take
  have G_law_take := ok_law_take (P := P) (w := w) (base := base) T D_law_take
  have b_law_take := D_law_take.fn.binds (ps := ["_law_bag_here", "_law_many"]) fun _ _ _ _ _ _ us hl => match us, hl with | [_, _], _ => rfl
  refine D.fn.ok sc_law_form (fun vs H Q E h => ?_) (fun cdv A outer s H vs Q E hr h => ?_)
  · obtain ⟨b, rfl, _⟩ := h
    rfl
  ·
    have r_law_names : Room 2 _ := hr.mono (by decide)
    have r_law_take : Room 1 _ := hr.mono (by decide)
    obtain ⟨b, rfl, hb, k⟩ := h
    refine ⟨_, (pss_cons (ps_asg (pe_call G_law_names r_law_names (by rfl) D_law_names.mg D_law_names.fn.kp b_law_names .nil pass0 (pa_cons (pv 0) (pa_cons (pe_op op_add pe_int (pe_call G_law_take r_law_take (by rfl) D_law_take.mg D_law_take.fn.kp b_law_take .nil pass0 (pa_cons (pv 0) (pa_cons pe_int pa_nil)))) pa_nil))) (pg_name (i := 1) sc_law_form.nd rfl (by first | exact Or.inl rfl | exact Or.inr rfl)))
    (pss_one (ps_ret (pe_callTy call_tuple_of (by rfl) T.z_tuple bt_tuple (pa_cons (pe_lc (own := [("_law_name", 2)]) (g := gName 2) (by rfl) sc_law_form.nd (pi_list (pv 1)) (blkOk_by (own := [("_law_name", 2)]) (N := ["_law_bag_here", "_law_names_here", "_law_name"]) (sc := defScope s_law_form) (by decide +kernel))
        (fun _ _ _ _ _ => (pg_name (i := 2) sc_law_form.nd rfl (by first | exact Or.inl rfl | exact Or.inr rfl))) (fun _ _ _ _ _ => pts_nil)
        (fun _ _ _ _ _ => (pe_tup (pa_cons (pv 2) (pa_cons (pe_ix (ix_tupK (K := K)) (pe_tup (pa_cons pe_str (pa_cons pe_str pa_nil))) (pe_call G_law_take r_law_take (by rfl) D_law_take.mg D_law_take.fn.kp b_law_take .nil pass0 (pa_cons (pv 0) (pa_cons pe_int pa_nil))) (fun _ _ => rfl)) pa_nil))))) pa_nil))))), ?_⟩
    refine ⟨_, rfl, _, rfl, b, 6, rfl, hb, by decide, by decide, fun n H1 n0 n1 e1 => ⟨_, _, rfl, rfl, b, 1 + n, rfl, e1.1, by omega, by omega, fun p ws H2 np ep wl wo e2 => ?_⟩⟩
    have nP : p ≠ b := (e1.1.ne np).symm
    refine ⟨_, rfl, p, rfl, ⟨_, SqL.of ep⟩, fun D hD => ?_⟩
    have nD : D ≠ b := (e2.1.ne hD).symm
    have nPD : p ≠ D := ne_of_none ep hD
    have wlen : ws.length ≤ 6 := by omega
    refine lc_list (K := K) (a := p) (xs := ws.map V.str) (fun i H => Eff b H2 H ∧ H p = some (.lst (ws.map V.str)) ∧ ∃ ts ks, H D = some (.lst (ts.map V.ref)) ∧ ColsIn H ws ts ks i)
      ⟨e2.1.eff (same_new hD), by rw [upd_ne nPD]; exact ep, [], [], upd_same, ⟨rfl, rfl, fun j t k w h => by simp at h, fun k h => by simp at h⟩⟩ (fun i H _ ⟨_, h, _⟩ => SqL.of h) ?_ ?_
    · rintro i x H3 hi ⟨e3, ep3, ts, ks, eD, ci⟩
      obtain ⟨w, hw, rfl⟩ : ∃ w, ws[i]? = some w ∧ x = V.str w := by
        rw [List.getElem?_map] at hi
        cases q : ws[i]? with
        | none => rw [q] at hi; cases hi
        | some w => rw [q] at hi; exact ⟨w, rfl, (Option.some.inj hi).symm⟩
      have hil : i < ws.length := (List.getElem?_eq_some_iff.mp hw).1
      refine ⟨rfl, ?_⟩
      refine ⟨_, rfl, by show 2 ≤ sizeLine; decide, fun q hq => ⟨_, rfl, b, 2, rfl, e3.1.same (same_new hq), by decide, by decide, fun r H4 r0 r1 e4 => ?_⟩⟩
      obtain ⟨_, ev, kd, rfl, hkd⟩ := kind_at r0 r1
      refine ⟨q, _, _, _, rfl, rfl, SqT.of (e4.2 q _ (e3.1.ne hq).symm upd_same), ev, by show 2 ≤ sizeLine; decide, fun t ht => ?_⟩
      have e34 : Eff b H3 H4 := (e3.1.eff (same_new hq)).trans e4
      have eD4 : H4 D = some (.lst (ts.map V.ref)) := e34.2 _ _ nD eD
      have nDt : D ≠ t := ne_of_none eD4 ht
      refine ⟨_, by rw [upd_ne nDt]; exact eD4, ?_, ?_⟩
      · rw [List.length_map, ci.lt]
        exact Nat.lt_of_lt_of_le (Nat.lt_of_lt_of_le hil wlen) (by decide)
      · have e4t : Eff b H3 (upd H4 t (.tup [.str w, .str kd])) := e34.same (same_new ht)
        refine ⟨⟨?_, fun c o n e => ?_⟩, ?_, ts ++ [t], ks ++ [kd], ?_, ?_⟩
        · obtain ⟨g, x, eb, r⟩ := e4t.1
          exact ⟨g, x, by rw [upd_ne nD.symm]; exact eb, r⟩
        · rw [upd_ne (ne_of_none e hD)]
          exact e4t.2 c o n (e3.2 c o n e)
        · rw [upd_ne nPD]
          exact e4t.2 _ _ nP ep3
        · rw [upd_same, List.map_append]; rfl
        · refine ci.snoc (fun c xs e => ?_) hw ?_ hkd
          · rw [upd_ne (ne_of e eD (by intro z; cases z))]
            exact e4t.2 _ _ (e3.1.neT e) e
          · rw [upd_ne nDt.symm]; exact upd_same
    · rintro H3 ⟨e3, ep3, ts, ks, eD, ci⟩
      rw [List.length_map] at ci
      refine ⟨D, _, rfl, .inl ⟨SqL.of eD, fun l hl => ?_⟩⟩
      have ci' : ColsIn (upd H3 l (.tup (ts.map V.ref))) ws ts ks ws.length := ⟨ci.lt, ci.lk, fun j t k w h1 h2 h3 => same_new hl _ _ (ci.at_ j t k w h1 h2 h3), ci.kd⟩
      obtain ⟨f1, f2, f3, f4⟩ := ci'.form upd_same
      exact k l _ _ f1 (by rw [f4]; omega) (by rw [f4]; exact wlen) f2 (by rw [f3]; exact wo) ((e1.trans (e2.trans e3)).same (same_new hl))
theorem sc_law_row : FnScope ["_law_bag_here", "_law_form_here", "_law_name", "_law_kind"] ["_law_bag_here", "_law_form_here"] (defScope s_law_row) := ⟨rfl, rfl, rfl, by decide +kernel, rfl, by decide +kernel, by decide +kernel⟩
def sp_law_row : Sp := fun vs H Q _ => ∃ (b a : Addr) (cols : Cols), vs = [.ref b, .ref a] ∧ Bag H b ∧ FormAt H a cols ∧ cols.length ≤ 10 ∧ Kinds cols ∧ ∀ p row H', H p = none → H' p = some (.tup (row.map kV)) → RowK cols row → Eff b H H' → Q (.ref p) H'
set_option maxHeartbeats 8000000 in
theorem ok_law_row {fa : Addr} {fd : FuncData} (T : Txt K mg a_BOUNDS a_BOUNDS_0 a_BOUNDS_1 a_BOUNDS_2 a_BOUNDS_3 a_BOUNDS_4 a_KINDS t_MOST_COLUMNS t_MOST_LETTERS t_MOST_NUMBER t_MOST_ROWS a_STORE_KINDS a_Heap a_Store a_Shape dA_Store___init__ kA_Store___init__ e_Store___init___key kA_Shape___init__) (D : Def K mg "_law_row" s_law_row fa fd) : FnOk P w K mg base CX0 4 fa fd ["_law_bag_here", "_law_form_here"] sp_law_row := by
  obtain ⟨fa_law_value, fd_law_value, D_law_value⟩ := T.d_law_value
  have G_law_value := ok_law_value (P := P) (w := w) (base := base) T D_law_value
  have b_law_value := D_law_value.fn.binds (ps := ["_law_bag_here", "_law_kind"]) fun _ _ _ _ _ _ us hl => match us, hl with | [_, _], _ => rfl
  refine D.fn.ok sc_law_row (fun vs H Q E h => ?_) (fun cdv A outer s H vs Q E hr h => ?_)
  · obtain ⟨b, a, cols, rfl, _⟩ := h
    rfl
  ·
    have r_law_value : Room 3 _ := hr.mono (by decide)
    obtain ⟨b, a, cols, rfl, hb, hf, hl, hk, k⟩ := h
    refine ⟨_, (pss_one (ps_ret (pe_callTy call_tuple_of (by rfl) T.z_tuple bt_tuple (pa_cons (pe_lc (own := [("_law_name", 2), ("_law_kind", 3)]) (by rfl) sc_law_row.nd (pi_tup (pv 1)) (blkOk_by (own := [("_law_name", 2), ("_law_kind", 3)]) (N := ["_law_bag_here", "_law_form_here", "_law_name", "_law_kind"]) (sc := defScope s_law_row) (by decide +kernel))
        (fun _ _ _ _ _ => (pg_tupK (K := K) (n := 2) (by rfl) (pgs_cons (pg_name (i := 2) sc_law_row.nd rfl (by first | exact Or.inl rfl | exact Or.inr rfl)) (pgs_cons (pg_name (i := 3) sc_law_row.nd rfl (by first | exact Or.inl rfl | exact Or.inr rfl)) pgs_nil)))) (fun _ _ _ _ _ => pts_nil)
        (fun _ _ _ _ _ => (pe_call G_law_value r_law_value (by rfl) D_law_value.mg D_law_value.fn.kp b_law_value .nil pass0 (pa_cons (pv 0) (pa_cons (pv 3) pa_nil))))) pa_nil)))), ?_⟩
    obtain ⟨ts, ea, lt, ft⟩ := id hf.ex
    refine ⟨_, rfl, a, rfl, ⟨_, SqT.of ea⟩, fun D hD => ?_⟩
    refine lc_tup (K := K) (xs := ts.map V.ref) (fun i H' => Eff b H H' ∧ ∃ row : List Key, H' D = some (.lst (row.map kV)) ∧ row.length = i ∧ row.map kindOf = (cols.take i).map (·.2) ∧ ∀ k ∈ row, keyOk k) ?_ ?_ ?_ ?_
    · exact ⟨hb.eff (same_new hD), [], upd_same, rfl, rfl, by simp⟩
    · rintro i H' _ ⟨e, _⟩
      exact SqT.of (e.2 _ _ (hb.neT ea) ea)
    · rintro i x H1 hx ⟨e1, row, hD1, hrl, hrk, hro⟩
      rw [List.getElem?_map] at hx
      obtain ⟨t, ht, rfl⟩ := Option.map_eq_some_iff.mp hx
      have hil : i < cols.length := by rw [← lt]; exact (List.getElem?_eq_some_iff.mp ht).1
      have hci : cols[i]? = some cols[i] := by simp [hil]
      have et := ft i t _ ht hci
      have nD : D ≠ b := (Bag.ne hb hD).symm
      refine ⟨t, _, rfl, SqT.of (e1.2 _ _ (hb.neT et) et), rfl, _, _, rfl, _, _, rfl, rfl, rfl, ?_⟩
      refine ⟨_, rfl, _, rfl, b, _, rfl, e1.1, fun v H2 hv e2 => ⟨row.map kV, e2.2 _ _ nD hD1, by rw [List.length_map, hrl]; exact lt_line (by omega), ?_⟩⟩
      obtain ⟨kk, rfl, ok, kd⟩ := hv.key (hk _ (List.getElem_mem hil))
      refine ⟨(e1.trans e2).put hb hD, row ++ [kk], by rw [upd_same, List.map_append]; rfl, by rw [List.length_append, hrl]; rfl, ?_, fun q hq => ?_⟩
      · rw [List.take_succ, hci, List.map_append, List.map_append, hrk, List.map_singleton, kd]; rfl
      · rcases List.mem_append.mp hq with z | z
        · exact hro q z
        · rw [List.mem_singleton.mp z]; exact ok
    · rintro H1 ⟨e1, row, hD1, hrl, hrk, hro⟩
      rw [List.length_map, lt, List.take_length] at hrk
      refine ⟨D, _, rfl, .inl ⟨SqL.of hD1, fun q hq => k q row _ (e1.free hb hq) upd_same ⟨hrk, hro⟩ (e1.same (same_new hq))⟩⟩
theorem sc_law_heap_put : FnScope ["_law_pages", "_law_cap", "_law_number", "_law_page"] ["_law_pages", "_law_cap", "_law_number"] (defScope s_law_heap_put) := ⟨rfl, rfl, rfl, by decide +kernel, rfl, by decide +kernel, by decide +kernel⟩

set_option maxHeartbeats 8000000 in
theorem ok_law_heap_put {fa : Addr} {fd : FuncData} (T : Txt K mg a_BOUNDS a_BOUNDS_0 a_BOUNDS_1 a_BOUNDS_2 a_BOUNDS_3 a_BOUNDS_4 a_KINDS t_MOST_COLUMNS t_MOST_LETTERS t_MOST_NUMBER t_MOST_ROWS a_STORE_KINDS a_Heap a_Store a_Shape dA_Store___init__ kA_Store___init__ e_Store___init___key kA_Shape___init__) (D : Def K mg "_law_heap_put" s_law_heap_put fa fd) : FnOk P w K mg base CX0 1 fa fd ["_law_pages", "_law_cap", "_law_number"] sp_law_heap_put := by
  refine D.fn.ok sc_law_heap_put (fun vs H Q E h => ?_) (fun cdv A outer s H vs Q E hr h => ?_)
  · obtain ⟨a, c, n, ps, f, rfl, _⟩ := h
    rfl
  ·
    obtain ⟨a, c, n, ps, f, rfl, hL, hc, hl, hpl, k⟩ := h
    refine ⟨_, (pss_cons (ps_for PassesOwn.never rfl (pi_list (pv 0)) (pg_name (i := 3) sc_law_heap_put.nd rfl (by first | exact Or.inl rfl | exact Or.inr rfl))
      (pss_one (ps_if (pt_cmpR op_lt (pe_callB call_len_seq (by rfl) T.z_len bt_len (pa_cons (pv 3) pa_nil)) (pv 1) (nomark _))
      (pss_cons (ps_expr (pe_bm PySem.F.plainAttrs_list PySem.F.slot_list_append PySem.F.type_list_append mt_append.r (pv 3) (pa_cons (pv 2) pa_nil)))
    (pss_one (ps_ret (pe_op op_add pe_int (pe_callTy call_int1 (by rfl) T.z_int bt_int (pa_cons (pe_cmpR op_gt (pe_callB call_len_seq (by rfl) T.z_len bt_len (pa_cons (pv 3) pa_nil)) pe_int (nomark _)) pa_nil))))))
      pss_nil)))
    (pss_cons (ps_expr (pe_bm PySem.F.plainAttrs_list PySem.F.slot_list_append PySem.F.type_list_append mt_append.r (pv 0) (pa_cons (pe_lst (pa_cons (pv 2) pa_nil)) pa_nil)))
    (pss_one (ps_ret pe_int)))), ?_⟩
    obtain ⟨as, hA, hlen⟩ := hL.lst
    refine ⟨_, rfl, a, rfl, ⟨_, SqL.of hA⟩, for_list (K := K) (xs := as.map V.ref) (fun i σ H' => ∃ v3, σ = [some (.ref a), some (.int c), some (.int n), v3] ∧ H' = H ∧ ∀ j, j < i → c.toNat ≤ (ps.getD j []).length) ⟨_, rfl, rfl, fun j hj => by omega⟩ (fun i σ H' _ ⟨_, _, e, _⟩ => by rw [e]; exact SqL.of hA) ?_ ?_⟩
    · rintro i x σ H1 hx ⟨v3, rfl, rfl, hlow⟩
      have hil : i < ps.length := by rw [← hlen]; simpa using (List.getElem?_eq_some_iff.mp hx).1
      obtain ⟨as', pg, d, g, hA', _, hb, hd', ⟨rfl, hp⟩, hsub, nag, kk⟩ := hL.at_ ngOk hil
      rw [hA] at hA'
      cases (List.map_inj_right (f := V.ref) (fun _ _ h => by cases h; rfl)).mp (HO.lst.inj (Option.some.inj hA'))
      obtain rfl : x = .ref pg := by rw [List.getElem?_map, hb] at hx; exact (Option.some.inj hx).symm
      have ed : ps.getD i [] = d := getD_of hd'
      have hdl := hpl d (List.mem_of_getElem? hd')
      refine ⟨_, rfl, pg, _, rfl, .inl (SqL.of hp), _, rfl, _, _, rfl, rfl, _, rfl, ?_⟩
      rw [List.length_map]
      refine ite2 (fun cc => ?_) (fun cc => ?_)
      · have hlt : d.length < c.toNat := by have := of_decide_eq_true cc; omega
        have hr' : roomN c.toNat ps = i := by
          unfold roomN
          refine (List.findIdx_eq hil).mpr ⟨?_, fun j hj => ?_⟩
          · rw [show ps[i] = d from (List.getElem?_eq_some_iff.mp hd').2]; exact decide_eq_true hlt
          · have hjl : j < ps.length := by omega
            have := hlow j hj
            rw [getD_of (List.getElem?_eq_getElem hjl)] at this
            exact decide_eq_false (by omega)
        refine ⟨_, rfl, .inl ⟨rfl, _, SqL.of hp⟩, _, rfl, pg, _, _, rfl, rfl, hp, by rw [List.length_map]; exact lt_line (by omega), ?_⟩
        have F1 : Frm [pg] H1 (upd H1 pg (.lst (d.map V.int ++ [V.int n]))) := .lst hp (by simp)
        obtain ⟨f', hL', hN'⟩ := kk _ (d ++ [n]) [pg] F1 ⟨rfl, by rw [upd_same, List.map_append]; rfl⟩ (Nw.refl _ _)
        have hp' : (upd H1 pg (.lst (d.map V.int ++ [V.int n]))) pg = some (.lst (d.map V.int ++ [V.int n])) := upd_same
        have := k f' _ (by unfold nmPut; rw [hr', if_pos hil, ed]; exact hL') (F1.mono fun y hy => by rw [List.mem_singleton.mp hy]; exact hsub pg (by simp)) hN'
        refine ⟨_, rfl, pg, _, rfl, .inl (SqL.of hp'), _, _, rfl, rfl, ?_⟩
        unfold nmTo at this
        rw [hr', if_pos hil, ed] at this
        rw [List.length_append, List.length_map]
        cases d with
        | nil => exact .inr ⟨_, rfl, _, _, rfl, rfl, this⟩
        | cons y r =>
          refine .inr ⟨_, rfl, _, _, rfl, rfl, ?_⟩
          have e2 : decide (((1 : Int)) < (((y :: r).length + [V.int n].length : Nat) : Int)) = true := decide_eq_true (by simp; omega)
          rw [e2]
          exact this
      · have hge : c.toNat ≤ d.length := by
          have := of_decide_eq_false (Bool.not_eq_true _ ▸ cc)
          omega
        refine ⟨_, rfl, rfl, fun j hj => ?_⟩
        by_cases e : j = i
        · rw [e, ed]; exact hge
        · exact hlow j (by omega)
    · rintro σ H1 ⟨v3, rfl, rfl, hlow⟩
      have hr' : ¬ roomN c.toNat ps < ps.length := fun z => by
        have q := List.findIdx_getElem (p := fun (p : List Int) => decide (p.length < c.toNat)) (xs := ps) (w := z)
        have := hlow (roomN c.toNat ps) (by rw [List.length_map, hlen]; exact z)
        rw [getD_of (List.getElem?_eq_getElem z)] at this
        have q := of_decide_eq_true q
        unfold roomN at this
        omega
      refine ⟨_, rfl, .inl ⟨rfl, _, SqL.of hA⟩, _, rfl, by show 1 ≤ sizeLine; decide, fun l hl1 => ?_⟩
      obtain ⟨as2, hA2, hlen2, hC2, hN2, hF2⟩ := LOf.push ngOk hL (b := l) (d := [n]) (f := [l]) (same_new (o := HO.lst [V.int n]) hl1) ⟨rfl, upd_same⟩ (fun y hy => by rw [List.mem_singleton.mp hy]; exact hl1)
      refine ⟨a, _, _, rfl, rfl, hA2, by rw [List.length_map, hlen2]; exact lt_line (by omega), ?_⟩
      have := k _ _ (by unfold nmPut; rw [if_neg hr']; exact hC2) hF2 hN2
      unfold nmTo at this
      rw [if_neg hr'] at this
      exact this
theorem sc_law_heap_drop : FnScope ["_law_pages", "_law_number", "_law_page"] ["_law_pages", "_law_number"] (defScope s_law_heap_drop) := ⟨rfl, rfl, rfl, by decide +kernel, rfl, by decide +kernel, by decide +kernel⟩

set_option maxHeartbeats 8000000 in
theorem ok_law_heap_drop {fa : Addr} {fd : FuncData} (T : Txt K mg a_BOUNDS a_BOUNDS_0 a_BOUNDS_1 a_BOUNDS_2 a_BOUNDS_3 a_BOUNDS_4 a_KINDS t_MOST_COLUMNS t_MOST_LETTERS t_MOST_NUMBER t_MOST_ROWS a_STORE_KINDS a_Heap a_Store a_Shape dA_Store___init__ kA_Store___init__ e_Store___init___key kA_Shape___init__) (D : Def K mg "_law_heap_drop" s_law_heap_drop fa fd) : FnOk P w K mg base CX0 1 fa fd ["_law_pages", "_law_number"] sp_law_heap_drop := by
  refine D.fn.ok sc_law_heap_drop (fun vs H Q E h => ?_) (fun cdv A outer s H vs Q E hr h => ?_)
  · obtain ⟨a, n, ps, f, rfl, _⟩ := h
    rfl
  ·
    have hu80 := hr.u80
    obtain ⟨a, n, ps, f, rfl, hL, hl, hpl, k⟩ := h
    refine ⟨_, (pss_cons (ps_for PassesOwn.never rfl (pi_list (pv 0)) (pg_name (i := 2) sc_law_heap_drop.nd rfl (by first | exact Or.inl rfl | exact Or.inr rfl))
      (pss_one (ps_if (pt_cmpR op_in_seq (pv 1) (pv 2) (by rfl))
      (pss_one (ps_expr (pe_bm PySem.F.plainAttrs_list PySem.F.slot_list_remove PySem.F.type_list_remove (mt_removeD hu80) (pv 2) (pa_cons (pv 1) pa_nil))))
      pss_nil)))
    (pss_one (ps_ret pe_int))), ?_⟩
    obtain ⟨as, hA, hlen⟩ := hL.lst
    refine ⟨_, rfl, a, rfl, ⟨_, SqL.of hA⟩, for_list (K := K) (xs := as.map V.ref) (fun i σ H' => ∃ v2 f', σ = [some (.ref a), some (.int n), v2] ∧ H' a = some (.lst (as.map V.ref)) ∧ LOf Ng H' a (halfD n ps i) f' ∧ Frm f H H' ∧ Nw H f f') ⟨_, f, rfl, hA, by rw [half_0]; exact hL, Frm.refl _ _, Nw.refl _ _⟩ (fun i σ H' _ ⟨_, _, _, e, _⟩ => SqL.of e) ?_ ?_⟩
    · rintro i x σ H1 hx ⟨v2, f1, rfl, hA1, hL1, F1, N1⟩
      have hil : i < ps.length := by rw [← hlen]; simpa using (List.getElem?_eq_some_iff.mp hx).1
      have hpd := List.getElem?_eq_getElem hil
      have hdl := hpl ps[i] (List.getElem_mem hil)
      generalize ps[i] = d at hpd hdl
      obtain ⟨as', pg, d', g, hA', _, hb, hd', ⟨rfl, hp⟩, hsub, nag, kk⟩ := hL1.at_ ngOk (i := i) (by rw [half_len]; exact hil)
      rw [half_at hpd] at hd'
      cases hd'
      rw [hA1] at hA'
      cases (List.map_inj_right (f := V.ref) (fun _ _ h => by cases h; rfl)).mp (HO.lst.inj (Option.some.inj hA'))
      obtain rfl : x = .ref pg := by rw [List.getElem?_map, hb] at hx; exact (Option.some.inj hx).symm
      have nap : a ≠ pg := fun z => nag (by simp [z])
      refine ⟨_, rfl, _, rfl, pg, _, rfl, .inl (SqL.of hp), rfl, by rw [List.all_map]; simp [flatV], _, rfl, ?_⟩
      rw [show (if false = true then !inV (.int n) (d.map V.int) else inV (.int n) (d.map V.int)) = decide (n ∈ d) by rw [if_neg (by decide), in_ints]]
      refine ite2 (fun cc => ?_) (fun cc => nextK ?_)
      · have hin : n ∈ d := of_decide_eq_true cc
        have hil2 := List.idxOf_lt_length_of_mem hin
        refine ⟨_, rfl, .inl ⟨rfl, _, SqL.of hp⟩, _, rfl, ?_⟩
        refine ⟨pg, _, d.map PyData.int, _, .int n, d.idxOf n, .int n, rfl, rfl, hp, dt_ints' _ _, .int n, fun e he => ?_, rfl, ?_, ?_, ?_, ?_⟩
        · obtain ⟨i, _, rfl⟩ := List.mem_map.mp he
          rfl
        · rw [List.getElem?_map, List.getElem?_eq_getElem hil2, List.getElem_idxOf hil2]; rfl
        · simp [PyData.eqv]
        · intro i e' hlt he'
          rw [List.getElem?_map, List.getElem?_eq_getElem (Nat.lt_trans hlt hil2)] at he'
          cases he'
          have := List.not_of_lt_findIdx (p := (· == n)) hlt
          simpa [PyData.eqv] using this
        rw [map_eraseI, ← erase_idx]
        have F2 : Frm [pg] H1 (upd H1 pg (.lst ((d.erase n).map V.int))) := .lst hp (by simp)
        obtain ⟨f', hL', hN'⟩ := kk _ (d.erase n) [pg] F2 ⟨rfl, upd_same⟩ (Nw.refl _ _)
        rw [half_set hpd] at hL'
        have F2' : Frm f1 H1 (upd H1 pg (.lst ((d.erase n).map V.int))) := F2.mono fun y hy => by rw [List.mem_singleton.mp hy]; exact hsub pg (by simp)
        exact ⟨_, f', rfl, by rw [upd_ne nap]; exact hA1, hL', F1.trans' F2' N1, N1.trans hN' F1.live⟩
      · have hni : n ∉ d := fun z => cc (decide_eq_true z)
        have e : halfD n ps (i + 1) = halfD n ps i := by
          rw [← half_set hpd, List.erase_of_not_mem hni]
          refine List.ext_getElem? fun j => ?_
          rw [List.getElem?_set]
          split
          · rename_i c; subst c; rw [half_at hpd, if_pos (by rw [half_len]; exact hil)]
          · rfl
        exact ⟨_, f1, rfl, hA1, by rw [e]; exact hL1, F1, N1⟩
    · rintro σ H1 ⟨v2, f1, rfl, hA1, hL1, F1, N1⟩
      rw [List.length_map, hlen, half_all] at hL1
      exact k f1 H1 hL1 F1 N1
theorem sc_law_like : FnScope ["_law_told", "_law_due", "_law_one", "_law_other"] ["_law_told", "_law_due"] (defScope s_law_like) := ⟨rfl, rfl, rfl, by decide +kernel, rfl, by decide +kernel, by decide +kernel⟩

set_option maxHeartbeats 8000000 in
theorem okr_law_like {fa : Addr} {fd : FuncData} (T : Txt K mg a_BOUNDS a_BOUNDS_0 a_BOUNDS_1 a_BOUNDS_2 a_BOUNDS_3 a_BOUNDS_4 a_KINDS t_MOST_COLUMNS t_MOST_LETTERS t_MOST_NUMBER t_MOST_ROWS a_STORE_KINDS a_Heap a_Store a_Shape dA_Store___init__ kA_Store___init__ e_Store___init___key kA_Shape___init__) (D : Def K mg "_law_like" s_law_like fa fd) (n : Nat) : FnOk P w K mg base CX0 (n + 1) fa fd ["_law_told", "_law_due"] (sp_law_like n) := by
  induction n with
  | zero => exact ⟨fun vs H Q E h => False.elim h, fun A outer s H args us vs Q E _ _ _ _ h => False.elim h⟩
  | succ n ih =>
    have G_law_like := ih
    have D_law_like := D
    have b_law_like := D_law_like.fn.binds (ps := ["_law_told", "_law_due"]) fun _ _ _ _ _ _ us hl => match us, hl with | [_, _], _ => rfl
    refine D.fn.ok sc_law_like (fun vs H Q E h => ?_) (fun cdv A outer s H vs Q E hr h => ?_)
    · obtain ⟨t, u, d, rfl, _⟩ := h
      rfl
    ·
      have r_law_like : Room (n + 1) _ := hr.mono (by omega)
      obtain ⟨t, u, d, rfl, ht, hu, he, hn, k⟩ := h
      refine ⟨_, (pss_cons (ps_if (PW.pt (pw_or (pt_cmpR op_ne (pe_callB call_isT (by rfl) T.z_isinstance bt_isinstance (pa_cons (pv 0) (pa_cons (pe_bltn (v := V.ty "bool") (by rfl) T.z_bool bt_bool rfl) pa_nil))) (pe_callB call_isT (by rfl) T.z_isinstance bt_isinstance (pa_cons (pv 1) (pa_cons (pe_bltn (v := V.ty "bool") (by rfl) T.z_bool bt_bool rfl) pa_nil))) (nomark _)) (pw_or1 (pt_cmpR (op_neD hr.units) (pv 0) (pv 1) (nomark _)))))
      (pss_one (ps_ret pe_bl))
      pss_nil)
    (pss_cons (ps_if (pt_val (pe_callB call_isTT (by rfl) T.z_isinstance bt_isinstance (pa_cons (pv 0) (pa_cons (pe_tup (pa_cons (pe_bltn (v := V.ty "list") (by rfl) T.z_list bt_list rfl) (pa_cons (pe_bltn (v := V.ty "tuple") (by rfl) T.z_tuple bt_tuple rfl) pa_nil))) pa_nil))))
      (pss_one (ps_ret (pe_callB (cr_all rfl) (by rfl) T.z_all bt_all (pa_cons (pe_lc (own := [("_law_one", 2), ("_law_other", 3)]) (by rfl) sc_law_like.nd (pi_zip2 (by rfl) T.z_zip (pa_cons (pv 0) (pa_cons (pv 1) pa_nil))) (blkOk_by (own := [("_law_one", 2), ("_law_other", 3)]) (N := ["_law_told", "_law_due", "_law_one", "_law_other"]) (sc := defScope s_law_like) (by decide +kernel))
        (fun _ _ _ _ _ => (pg_tupK (K := K) (n := 2) (by rfl) (pgs_cons (pg_name (i := 2) sc_law_like.nd rfl (by first | exact Or.inl rfl | exact Or.inr rfl)) (pgs_cons (pg_name (i := 3) sc_law_like.nd rfl (by first | exact Or.inl rfl | exact Or.inr rfl)) pgs_nil)))) (fun _ _ _ _ _ => pts_nil)
        (fun _ _ _ _ _ => (pe_call G_law_like r_law_like (by rfl) D_law_like.mg D_law_like.fn.kp b_law_like .nil pass0 (pa_cons (pv 2) (pa_cons (pv 3) pa_nil))))) pa_nil))))
      pss_nil)
    (pss_one (ps_ret pe_bl)))), ?_⟩
      have ty1 := ht.tyd he.sh
      have ty2 := hu.tyd he.sh
      refine ⟨_, rfl, _, _, rfl, ty1, rfl, _, rfl, _, _, rfl, ty2, rfl, ?_⟩
      refine ⟨rfl, _, rfl, ?_⟩
      refine iteNS (by rw [ht.instBool, hu.instBool]) ?_
      refine ⟨_, rfl, _, rfl, d, d, ht.dp, hu.dp, he.shaped (by omega), he.shaped (by omega), _, rfl, ?_⟩
      rw [SeqAt.eqv_refl d he.can]
      refine iteF ?_
      refine ⟨_, rfl, by show 2 ≤ sizeLine; decide, fun p hp => ?_⟩
      have s1 := same_new (o := HO.tup [V.ty "list", V.ty "tuple"]) hp
      refine ⟨_, _, rfl, ty1.same s1, upd_same, _, rfl, ?_⟩
      have ht1 := ht.same s1
      have hu1 := hu.same s1
      generalize upd H p (HO.tup [V.ty "list", V.ty "tuple"]) = H1 at s1 ht1 hu1 ⊢
      have key : ∀ (c1 c2 : Src) (xs ys : List V) (ds : List PyData) (m : Nat), SqS K H1 c1 xs → SqS K H1 c2 ys → DtAll H1 xs ds → DtAll H1 ys ds → ds.length ≤ 1000 → n = m + 1 → (∀ d ∈ ds, Eas m d) → t = .ref c1.2 → u = .ref c2.2 →
          tRet (tCB (rAll K) (tCons (tLc (iZip2 K (tCons (tVar 0) (tCons (tVar 1) tNil))) (gTup K 2 (gCons (gName 2) (gCons (gName 3) gNil))) tYes (tCall (sp_law_like n) [] E0 (tCons (tVar 2) (tCons (tVar 3) tNil))) [2, 3]) tNil)) { nx := fun x H' => Q V.non H', rt := Q } [some t, some u, none, none] H1 := by
        intro c1 c2 xs ys ds m q1 q2 a1 a2 hl en hall e1 e2
        subst e1 e2 en
        refine ⟨_, rfl, _, rfl, c1, c2, xs, ys, rfl, q1, q2, fun D hD => ?_⟩
        refine lc_zip2_map hD (fun _ => V.bl true) q1 q2 (by rw [a1.length]; exact hl) ?_ ?_
        · intro i x y T' H2 R F hx hy s2 hT' hk
          refine ⟨T', _, rfl, SqT.of hT', rfl, _, _, rfl, _, _, rfl, rfl, rfl, ?_⟩
          obtain ⟨d1, hd1, hD1⟩ := a1.get hx
          obtain ⟨d2, hd2, hD2⟩ := a2.get hy
          rw [hd1] at hd2
          cases hd2
          refine ⟨_, rfl, _, rfl, x, y, d1, rfl, hD1.same s2, hD2.same s2, hall d1 (List.mem_of_getElem? hd1), by omega, fun H3 s3 => hk H3 s3⟩
        · intro H2 s2 hD2
          refine ⟨D, List.replicate (min xs.length ys.length) true, rfl, SqL.of ?_, ?_⟩
          · rw [hD2]
            congr 2
            rw [List.map_replicate]
            rw [List.map_const', List.length_range]
          · have : (List.replicate (min xs.length ys.length) true).all id = true := by simp
            rw [this]
            exact k H2 (s1.trans s2)
      cases ht1 with
      | non => exact iteF (k _ s1)
      | bl b => exact iteF (k _ s1)
      | int i => exact iteF (k _ s1)
      | str x => exact iteF (k _ s1)
      | lst e r =>
        rw [instB_lst e]
        refine iteT ?_
        cases hu1 with
        | lst e' r' =>
          cases n with
          | zero => exact he.no0l.elim
          | succ m => exact key (true, _) (true, _) _ _ _ m (SqS.lst e) (SqS.lst e') r r' he.of_lst.1 rfl he.of_lst.2 rfl rfl
      | tup e r =>
        rw [instB_tup e, Bool.or_true]
        refine iteT ?_
        cases hu1 with
        | tup e' r' =>
          cases n with
          | zero => exact he.no0t.elim
          | succ m => exact key (false, _) (false, _) _ _ _ m (SqS.tup e) (SqS.tup e') r r' he.of_tup.1 rfl he.of_tup.2 rfl rfl
theorem ok_law_like {fa : Addr} {fd : FuncData} (T : Txt K mg a_BOUNDS a_BOUNDS_0 a_BOUNDS_1 a_BOUNDS_2 a_BOUNDS_3 a_BOUNDS_4 a_KINDS t_MOST_COLUMNS t_MOST_LETTERS t_MOST_NUMBER t_MOST_ROWS a_STORE_KINDS a_Heap a_Store a_Shape dA_Store___init__ kA_Store___init__ e_Store___init___key kA_Shape___init__) (D : Def K mg "_law_like" s_law_like fa fd) : FnOk P w K mg base CX0 7 fa fd ["_law_told", "_law_due"] (sp_law_like 6) := okr_law_like T D 6
theorem sc_law_same : FnScope ["_law_store", "_law_stock", "_law_pages", "_law_due", "_law_number", "_law_turn", "_law_told", "_law_sheets", "_law_sheet"] ["_law_store", "_law_stock", "_law_pages"] (defScope s_law_same) := ⟨rfl, rfl, rfl, by decide +kernel, rfl, by decide +kernel, by decide +kernel⟩

set_option maxHeartbeats 8000000 in
theorem ok_law_same {fa : Addr} {fd : FuncData} (T : Txt K mg a_BOUNDS a_BOUNDS_0 a_BOUNDS_1 a_BOUNDS_2 a_BOUNDS_3 a_BOUNDS_4 a_KINDS t_MOST_COLUMNS t_MOST_LETTERS t_MOST_NUMBER t_MOST_ROWS a_STORE_KINDS a_Heap a_Store a_Shape dA_Store___init__ kA_Store___init__ e_Store___init___key kA_Shape___init__) (D : Def K mg "_law_same" s_law_same fa fd) : FnOk P w K mg base CX0 8 fa fd ["_law_store", "_law_stock", "_law_pages"] (sp_law_same K ⟨a_Shape, a_Heap, a_Heap, a_Heap, a_Store⟩ HdHeap) := by
  obtain ⟨fa_Store_pages, fd_Store_pages, D_Store_pages⟩ := T.d_Store_pages
  have G_Store_pages := ok_Store_pages (P := P) (w := w) (base := base) T D_Store_pages
  have b_Store_pages := D_Store_pages.fn.binds (ps := ["self"]) fun _ _ _ _ _ _ us hl => match us, hl with | [_], _ => rfl
  obtain ⟨fa_Store_all_rows, fd_Store_all_rows, D_Store_all_rows⟩ := T.d_Store_all_rows
  have G_Store_all_rows := ok_Store_all_rows (P := P) (w := w) (base := base) T D_Store_all_rows
  have b_Store_all_rows := D_Store_all_rows.fn.binds (ps := ["self"]) fun _ _ _ _ _ _ us hl => match us, hl with | [_], _ => rfl
  obtain ⟨fa_law_like, fd_law_like, D_law_like⟩ := T.d_law_like
  have G_law_like := ok_law_like (P := P) (w := w) (base := base) T D_law_like
  have b_law_like := D_law_like.fn.binds (ps := ["_law_told", "_law_due"]) fun _ _ _ _ _ _ us hl => match us, hl with | [_, _], _ => rfl
  obtain ⟨fa_Store_row, fd_Store_row, D_Store_row⟩ := T.d_Store_row
  have G_Store_row := ok_Store_row (P := P) (w := w) (base := base) T D_Store_row
  have b_Store_row := D_Store_row.fn.binds (ps := ["self", "number"]) fun _ _ _ _ _ _ us hl => match us, hl with | [_, _], _ => rfl
  refine D.fn.ok sc_law_same (fun vs H Q E h => ?_) (fun cdv A outer s H vs Q E hr h => ?_)
  · obtain ⟨x, sh, d, a, hh, cols, ws, hd, rs, g, f, f2, kvs, rfl, _⟩ := h
    rfl
  ·
    have hu80 := hr.u80
    have r_Store_pages : Room 4 _ := hr.mono (by decide)
    have r_Store_all_rows : Room 1 _ := hr.mono (by decide)
    have r_law_like : Room 7 _ := hr.mono (by decide)
    have r_Store_row : Room 2 _ := hr.mono (by decide)
    obtain ⟨x, sh, d, a, hh, cols, ws, hd, rs, g, f, f2, kvs, rfl, hP, S, hok, hp1000, hd', hR, hL, nf, nf2, nsh, k⟩ := h
    refine ⟨_, (pss_cons (ps_asg (pe_callB (cr_sortedNr hu80) (by rfl) T.z_sorted bt_sorted (pa_cons (pe_lock (pe_lc (own := [("_law_number", 4)]) (g := gName 4) (by rfl) sc_law_same.nd (pi_keys (pv 1)) (blkOk_by (own := [("_law_number", 4)]) (N := ["_law_store", "_law_stock", "_law_pages", "_law_due", "_law_number", "_law_turn", "_law_told", "_law_sheets", "_law_sheet"]) (sc := defScope s_law_same) (by decide +kernel))
        (fun _ _ _ _ _ => (pg_name (i := 4) sc_law_same.nd rfl (by first | exact Or.inl rfl | exact Or.inr rfl))) (fun _ _ _ _ _ => pts_nil)
        (fun _ _ _ _ _ => (pe_tup (pa_cons (pv 4) (pa_cons (pe_dget (u1 hr.units) (pv 1) (pv 4) (fun _ _ => rfl)) pa_nil)))))) pa_nil)) (pg_name (i := 3) sc_law_same.nd rfl (by first | exact Or.inl rfl | exact Or.inr rfl)))
    (pss_cons (ps_for PassesOwn.never rfl (pi_range1 (by rfl) T.z_range (pa_cons pe_int pa_nil)) (pg_name (i := 5) sc_law_same.nd rfl (by first | exact Or.inl rfl | exact Or.inr rfl))
      (pss_cons (ps_par (i := 6) (j := 7) (by rfl) sc_law_same.nd rfl rfl (by decide) rfl rfl (pa_cons (pe_meth0 (pv 0) T.cl_Store D_Store_all_rows.meth G_Store_all_rows r_Store_all_rows b_Store_all_rows .nil pass0) (pa_cons (pe_meth0 (pv 0) T.cl_Store D_Store_pages.meth G_Store_pages r_Store_pages b_Store_pages .nil pass0) pa_nil)) (by rfl))
    (pss_cons (ps_if (PW.pt (pw_or (pt_not (pt_val (pe_call G_law_like r_law_like (by rfl) D_law_like.mg D_law_like.fn.kp b_law_like .nil pass0 (pa_cons (pv 6) (pa_cons (pv 3) pa_nil))))) (pw_or1 (pt_not (pt_val (pe_call G_law_like r_law_like (by rfl) D_law_like.mg D_law_like.fn.kp b_law_like .nil pass0 (pa_cons (pv 7) (pa_cons (pv 2) pa_nil))))))))
      (pss_one (ps_ret pe_bl))
      pss_nil)
    (pss_cons (ps_if (pt_not (pt_val (pe_callB (cr_all rfl) (by rfl) T.z_all bt_all (pa_cons (pe_lock (pe_lc (own := [("_law_number", 4)]) (g := gName 4) (by rfl) sc_law_same.nd (pi_keys (pv 1)) (blkOk_by (own := [("_law_number", 4)]) (N := ["_law_store", "_law_stock", "_law_pages", "_law_due", "_law_number", "_law_turn", "_law_told", "_law_sheets", "_law_sheet"]) (sc := defScope s_law_same) (by decide +kernel))
        (fun _ _ _ _ _ => (pg_name (i := 4) sc_law_same.nd rfl (by first | exact Or.inl rfl | exact Or.inr rfl))) (fun _ _ _ _ _ => pts_nil)
        (fun _ _ _ _ _ => (pe_call G_law_like r_law_like (by rfl) D_law_like.mg D_law_like.fn.kp b_law_like .nil pass0 (pa_cons (pe_meth (pv 0) T.cl_Store D_Store_row.meth G_Store_row r_Store_row b_Store_row .nil pass0 (pa_cons (pv 4) pa_nil)) (pa_cons (pe_dget (u1 hr.units) (pv 1) (pv 4) (fun _ _ => rfl)) pa_nil)))))) pa_nil))))
      (pss_one (ps_ret pe_bl))
      pss_nil)
    (pss_cons (ps_expr (pe_bm PySem.F.plainAttrs_list PySem.F.slot_list_append PySem.F.type_list_append mt_append.r (pv 6) (pa_cons pe_non pa_nil)))
    (pss_cons (ps_for PassesOwn.never rfl (pi_list (pv 7)) (pg_name (i := 8) sc_law_same.nd rfl (by first | exact Or.inl rfl | exact Or.inr rfl))
      (pss_one (ps_expr (pe_bm PySem.F.plainAttrs_list PySem.F.slot_list_append PySem.F.type_list_append mt_append.r (pv 8) (pa_cons pe_int pa_nil)))))
    (pss_one (ps_expr (pe_bm PySem.F.plainAttrs_list PySem.F.slot_list_append PySem.F.type_list_append mt_append.r (pv 7) (pa_cons pe_non pa_nil))))))))))
    (pss_one (ps_ret pe_bl)))), ?_⟩
    have hl := S.rs.len
    have h60 := S.rs.g60
    have hkl := hR.len
    refine ⟨d, _, hd', trivial, fun od => ⟨_, rfl, d, od, rfl, .inl ⟨kvs, upd_same, fun D hD => ?_⟩⟩⟩
    have hFd : (upd H d (.frz od (.dK kvs))) d = some (.frz od (.dK kvs)) := upd_same
    have FF : Frm [d] H (upd H d (.frz od (.dK kvs))) := frz_frm hd' (fun _ z => by cases z)
    have hun : ∀ H', Same (upd H d (.frz od (.dK kvs))) H' → Same H (upd H' d (.dK kvs)) := fun H' s => unlock_same hd' s
    have hRf := hR.frm FF
    have hD0 : H D = none := by
      rw [upd_ne (show D ≠ d from fun z => by rw [z, hFd] at hD; cases hD)] at hD; exact hD
    generalize upd H d (.frz od (.dK kvs)) = Hf at hFd FF hun hRf hD ⊢
    refine lc_keys (fun i H2 => Same Hf H2 ∧ ∃ xs, H2 D = some (.lst xs) ∧ Nrs H2 xs (rs.take i)) ⟨same_new hD, [], upd_same, .nil⟩ (fun i H2 _ ⟨s2, _⟩ => s2 _ _ hFd) ?_ ?_
    · rintro i kk v H2 hy ⟨s2, xs, hD2, hN⟩
      obtain ⟨q, hq, e1, r, rfl, hr'⟩ := Paired.getL hRf hy
      have e1 : kk = Sum.inl q.1 := e1
      subst e1
      have hv : valV kvs (.inl q.1) = some (.ref r) := rows_at hR S.rs.ris hy
      refine ⟨rfl, ?_⟩
      refine ⟨_, rfl, _, rfl, _, rfl, d, .ref r, rfl, by have := DGet.f (k := .inl q.1) (s2 _ _ hFd); rw [hv] at this; exact this, by show 2 ≤ sizeLine; decide, fun t ht => ?_⟩
      have s3 := same_new (o := HO.tup [V.int q.1, V.ref r]) ht
      have hNl : xs.length = (rs.take i).length := Paired.length hN
      refine ⟨xs, s3 _ _ hD2, by rw [hNl, List.length_take]; exact lt_line (by omega), same_put (s2.trans s3) hD, _, upd_same, ?_⟩
      rw [List.take_succ, hq]
      have F3 : Frm [D] H2 (upd (upd H2 t (.tup [V.int q.1, V.ref r])) D (.lst (xs ++ [V.ref t]))) := (Frm.of_same s3).trans (.lst (s3 _ _ hD2) (by simp))
      exact Paired.app (Nrs.frm hN F3) (.cons ⟨t, r, rfl, by rw [upd_ne (ne_of_none hD2 ht).symm]; exact upd_same, F3.tups _ _ (s2 _ _ hr')⟩ .nil)
    rintro H2 ⟨s2, xs, hD2, hN⟩
    rw [hkl, List.take_length] at hN
    refine ⟨s2 _ _ hFd, ?_⟩
    have s02 := hun H2 s2
    have nDd : D ≠ d := fun z => by rw [z, hFd] at hD; cases hD
    have hD3 : (upd H2 d (.dK kvs)) D = some (.lst xs) := by rw [upd_ne nDd]; exact hD2
    have hN3 : Nrs (upd H2 d (.dK kvs)) xs rs := Nrs.frm hN (.upd (s2 _ _ hFd) (by simp) (fun _ z => by cases z) : Frm [d] H2 _)
    generalize upd H2 d (.dK kvs) = H3 at s02 hD3 hN3 ⊢
    refine ⟨D, xs, rs, rfl, .inl (SqL.of hD3), hN3, fun p hp => ⟨(S.rs.row p hp).2, by rw [(S.rs.row p hp).len]; have := S.rs.c6; omega⟩, S.rs.ris, by omega, fun Du hDu => ?_⟩
    have s03 := s02.trans (same_new (o := HO.lst xs) hDu)
    have hDu3 : (upd H3 Du (.lst xs)) Du = some (.lst xs) := upd_same
    have hNu := Nrs.frm hN3 (.of_same (same_new (o := HO.lst xs) hDu) : Frm [] _ _)
    generalize upd H3 Du (.lst xs) = H4 at s03 hDu3 hNu ⊢
    have S4 := S.same s03
    obtain ⟨dx, fo, kp, hp, dd, kv2, fh, rfl, X⟩ := S.xs
    have no : ∀ m : Str, m ≠ "shape" → m ≠ "form" → m ≠ "kind" → m ≠ "key" → m ≠ "holder" → m ≠ "by_number" → m ≠ "given" → (stF hd.kind sh fo kp hp dd (g : Int)).lookup m = none := fun m h1 h2 h3 h4 h5 h6 h7 => sf_no _ _ _ _ _ _ _ h1 h2 h3 h4 h5 h6 h7
    have e_ar := no "all_rows" (by decide +kernel) (by decide +kernel) (by decide +kernel) (by decide +kernel) (by decide +kernel) (by decide +kernel) (by decide +kernel)
    have e_pg := no "pages" (by decide +kernel) (by decide +kernel) (by decide +kernel) (by decide +kernel) (by decide +kernel) (by decide +kernel) (by decide +kernel)
    have e_rw := no "row" (by decide +kernel) (by decide +kernel) (by decide +kernel) (by decide +kernel) (by decide +kernel) (by decide +kernel) (by decide +kernel)
    have dis : Dis (x :: dd :: fh) [d] := fun y p q => nf (by rw [← List.mem_singleton.mp q]; exact p)
    have nshd : sh ∉ [d] := fun z => nsh (List.mem_singleton.mp z).symm
    have hpgl := hd_pg hok
    refine ⟨2, rfl, by decide, by decide, for_range (fun i σ H1 => ∃ v4 v5 v6 v7 v8, σ = [some (.ref x), some (.ref d), some (.ref a), some (.ref Du), v4, v5, v6, v7, v8] ∧ Same H4 H1) ⟨_, _, _, _, _, rfl, Same.refl _⟩ ?_ ?_⟩
    · rintro i0 σ H5 hi ⟨v4, v5, v6, v7, v8, rfl, s5⟩
      have S5 := S4.same s5
      have hx5 := s5 _ _ (s03 _ _ X.hx)
      refine ⟨_, rfl, x, dx, _, rfl, hx5, e_ar, x, sh, hh, cols, ws, hd, rs, g, _, rfl, S5, fun b xs6 H6 s6 hb0 hb1 hN6 => ?_⟩
      have S6 := S5.same s6
      refine ⟨_, rfl, x, dx, _, rfl, s6 _ _ hx5, e_pg, x, sh, hh, cols, ws, hd, rs, g, _, rfl, hP, S6, hok, fun sp fp H7 s7 hL7 hn7 => ⟨_, _, rfl, ?_⟩⟩
      have s57 := s6.trans s7
      have hb7 := s7 _ _ hb1
      have hN7 := Nrs.frm hN6 (.of_same s7 : Frm [] _ _)
      have s47 := s5.trans s57
      have hDu7 := s47 _ _ hDu3
      have hNu7 := Nrs.frm hNu (.of_same s47 : Frm [] _ _)
      refine ⟨_, rfl, _, rfl, _, _, _, rfl, .lst hb7 (Nrs.dt hN7), .lst hDu7 (Nrs.dt hNu7), (rs_eas S.rs).mono (by decide), by decide, fun H8 s8 => ⟨_, rfl, ?_⟩⟩
      refine iteF ?_
      have hLa := (lofOk ngOk).frm hL (.of_same ((s03.trans s47).trans s8) : Frm [] _ _) (fun _ _ z => nomatch z)
      have hL8 := (lofOk ngOk).frm hL7 (.of_same s8 : Frm [] _ _) (fun _ _ z => nomatch z)
      have hnl : (numsOf hd.pgs).length ≤ 1000 := by unfold numsOf; rw [List.length_map]; exact hp1000
      have hnp : ∀ p ∈ numsOf hd.pgs, p.length ≤ 200 := fun p hp => by
        obtain ⟨q, hq, rfl⟩ := List.mem_map.mp (show p ∈ hd.pgs.map _ from hp)
        rw [List.length_map]; exact hpgl q hq
      refine ⟨_, rfl, _, rfl, _, _, _, rfl, ngs_dt hL8, ngs_dt hLa, (ngs_eas hnl fun p hp => by have := hnp p hp; omega).mono (by decide), by decide, fun H9 s9 => ⟨_, rfl, iteF (nextK ?_)⟩⟩
      have s09 : Same H H9 := ((s03.trans s47).trans s8).trans s9
      have hd9 := s09 _ _ hd'
      refine ⟨d, _, hd9, trivial, fun od2 => ⟨_, rfl, d, od2, rfl, .inl ⟨kvs, upd_same, fun D2 hD2 => ?_⟩⟩⟩
      have hFd2 : (upd H9 d (.frz od2 (.dK kvs))) d = some (.frz od2 (.dK kvs)) := upd_same
      have FF2 : Frm [d] H9 (upd H9 d (.frz od2 (.dK kvs))) := frz_frm hd9 (fun _ z => by cases z)
      have hun2 : ∀ H', Same (upd H9 d (.frz od2 (.dK kvs))) H' → Same H9 (upd H' d (.dK kvs)) := fun H' s => unlock_same hd9 s
      have Sf := (S.same s09).frm FF2 dis nshd
      have hRf2 := (hR.frm (.of_same s09 : Frm [] _ _)).frm FF2
      have hxf := FF2.keep _ _ (fun z => dis x List.mem_cons_self z) (s09 _ _ X.hx)
      have nD2d : D2 ≠ d := fun z => by rw [z, hFd2] at hD2; cases hD2
      have hD20 : H9 D2 = none := by rw [upd_ne nD2d] at hD2; exact hD2
      generalize upd H9 d (.frz od2 (.dK kvs)) = Hg at hFd2 FF2 hun2 Sf hRf2 hxf hD2 ⊢
      refine lc_keys (fun i H2 => Same Hg H2 ∧ H2 D2 = some (.lst (List.replicate i (V.bl true)))) ⟨same_new hD2, upd_same⟩ (fun i H2 _ ⟨s2, _⟩ => s2 _ _ hFd2) ?_ ?_
      · rintro j kk v H2 hy ⟨s2, hDD⟩
        obtain ⟨q, hq, e1, hrow⟩ := Paired.getL hRf2 hy
        have e1 : kk = Sum.inl q.1 := e1
        subst e1
        have hv : valV kvs (.inl q.1) = some v := rows_at hR S.rs.ris hy
        have rk := S.rs.row q (List.mem_of_getElem? hq)
        have hrow2 := hrow.same s2
        refine ⟨rfl, ?_⟩
        refine ⟨_, rfl, x, dx, _, rfl, s2 _ _ hxf, e_rw, _, rfl, x, sh, hh, cols, ws, hd, rs, g, _, q.1, q.2, rfl, Sf.same s2, rsAt_in S.rs.ris (List.mem_of_getElem? hq), fun vr hvr => ?_⟩
        refine ⟨_, rfl, _, rfl, d, v, rfl, by have := DGet.f (k := .inl q.1) (s2 _ _ hFd2); rw [hv] at this; exact this, ?_⟩
        refine ⟨_, _, _, rfl, hvr.dt, hrow2.dt, (row_eas rk S.rs.c6).mono (by decide), by decide, fun H3' s3' => ?_⟩
        refine ⟨_, s3' _ _ hDD, by rw [List.length_replicate]; have := (List.getElem?_eq_some_iff.mp hy).1; exact lt_line (by omega), same_put (s2.trans s3') hD2, ?_⟩
        rw [upd_same, List.replicate_succ']
      rintro H2 ⟨s2, hDD⟩
      refine ⟨s2 _ _ hFd2, ?_⟩
      have s9a := hun2 H2 s2
      have hDDa : (upd H2 d (.dK kvs)) D2 = some (.lst (List.replicate kvs.length (V.bl true))) := by rw [upd_ne nD2d]; exact hDD
      generalize upd H2 d (.dK kvs) = Ha at s9a hDDa ⊢
      refine ⟨D2, List.replicate kvs.length true, rfl, SqL.of (by rw [hDDa, List.map_replicate]), _, rfl, ?_⟩
      rw [show (List.replicate kvs.length true).all id = true by simp]
      refine iteF (nextK ?_)
      have s7a : Same H7 Ha := s8.trans (s9.trans s9a)
      have s5a : Same H5 Ha := s57.trans s7a
      have hba := s7a _ _ hb7
      have hxl : xs6.length = rs.length := Paired.length hN6
      refine ⟨_, rfl, .inl ⟨rfl, _, SqL.of hba⟩, b, xs6, _, rfl, rfl, hba, lt_line (by omega), ?_⟩
      have sb : Same H5 (upd Ha b (.lst (xs6 ++ [V.non]))) := same_put s5a hb0
      have nbf : Dis fp [b] := fun y p q => by rw [List.mem_singleton.mp q] at p; rw [hn7 b p] at hb1; cases hb1
      have hLb := (lofOk ngOk).frm ((lofOk ngOk).frm hL7 (.of_same s7a : Frm [] _ _) (fun _ _ z => nomatch z)) (.lst hba (by simp) : Frm [b] Ha (upd Ha b (.lst (xs6 ++ [V.non])))) nbf
      have nf5 : ∀ y ∈ fp, H5 y = none := fun y hy => s6.free (hn7 y hy)
      generalize upd Ha b (.lst (xs6 ++ [V.non])) = Hb at sb hLb ⊢
      obtain ⟨as, hA, hlen⟩ := hLb.lst
      refine ⟨_, rfl, sp, rfl, ⟨_, SqL.of hA⟩, for_list (K := K) (xs := as.map V.ref) (fun i σ H' => ∃ v8 qs f', σ = [some (.ref x), some (.ref d), some (.ref a), some (.ref Du), v4, some (.int (0 + (i0 : Int))), some (.ref b), some (.ref sp), v8] ∧ LOf Ng H' sp qs f' ∧ qs.length = (numsOf hd.pgs).length ∧ (∀ p ∈ qs, p.length ≤ 200 + i) ∧ Same H5 H' ∧ (∀ y ∈ f', H5 y = none) ∧ H' sp = some (.lst (as.map V.ref))) ⟨_, _, fp, rfl, hLb, rfl, fun p hp => by have := hnp p hp; omega, sb, nf5, hA⟩ (fun i σ H' _ ⟨_, _, _, _, _, _, _, _, _, e⟩ => SqL.of e) ?_ ?_⟩
      · rintro j y σ Hc hy ⟨v8, qs, f', rfl, hLc, hql, hqp, sc, nfc, hAc⟩
        have hjl : j < as.length := by simpa using (List.getElem?_eq_some_iff.mp hy).1
        obtain ⟨as', pg, d', g', hA', _, hb', hd'', ⟨rfl, hp⟩, hsub, nag, kk⟩ := hLc.at_ ngOk (i := j) (by omega)
        rw [hAc] at hA'
        cases (List.map_inj_right (f := V.ref) (fun _ _ h => by cases h; rfl)).mp (HO.lst.inj (Option.some.inj hA'))
        obtain rfl : y = .ref pg := by rw [List.getElem?_map, hb'] at hy; exact (Option.some.inj hy).symm
        have hdl := hqp d' (List.mem_of_getElem? hd'')
        have nsp : sp ≠ pg := fun z => nag (by simp [z])
        refine ⟨_, rfl, .inl ⟨rfl, _, SqL.of hp⟩, pg, _, _, rfl, rfl, hp, by rw [List.length_map]; exact lt_line (by omega), ?_⟩
        have F1 : Frm [pg] Hc (upd Hc pg (.lst (d'.map V.int ++ [V.int 0]))) := .lst hp (by simp)
        obtain ⟨f3, hL3, hN3⟩ := kk _ (d' ++ [0]) [pg] F1 ⟨rfl, by rw [upd_same, List.map_append]; rfl⟩ (Nw.refl _ _)
        have hpg5 : H5 pg = none := nfc pg (hsub pg (by simp))
        refine ⟨_, _, f3, rfl, hL3, by rw [List.length_set, hql], fun p hp' => ?_, same_put sc hpg5, fun z hz => ?_, by rw [upd_ne nsp]; exact hAc⟩
        · rcases List.mem_or_eq_of_mem_set hp' with q | q
          · have := hqp p q; omega
          · rw [q, List.length_append]; simp; omega
        · rcases hN3 z hz with q | q
          · exact nfc z q
          · exact sc.free q
      · rintro σ Hc ⟨v8, qs, f', rfl, hLc, hql, hqp, sc, nfc, hAc⟩
        have hsp5 : H5 sp = none := nfc sp ((lofOk ngOk).slf hLc).1
        refine ⟨_, rfl, .inl ⟨rfl, _, SqL.of hAc⟩, sp, _, _, rfl, rfl, hAc, by rw [List.length_map, hlen]; exact lt_line (by omega), ?_⟩
        exact ⟨_, _, _, _, _, rfl, s5.trans (same_put sc hsp5)⟩
    · rintro σ H5 ⟨v4, v5, v6, v7, v8, rfl, s5⟩
      exact k H5 (s03.trans s5)
theorem sc_law_edit : FnScope ["_law_bag_here", "_law_form_here", "_law_stock", "_law_last", "_law_numbers", "_law_way", "_law_number", "_law_column", "_law_kind"] ["_law_bag_here", "_law_form_here", "_law_stock", "_law_last"] (defScope s_law_edit) := ⟨rfl, rfl, rfl, by decide +kernel, rfl, by decide +kernel, by decide +kernel⟩

set_option maxHeartbeats 8000000 in
theorem ok_law_edit {fa : Addr} {fd : FuncData} (T : Txt K mg a_BOUNDS a_BOUNDS_0 a_BOUNDS_1 a_BOUNDS_2 a_BOUNDS_3 a_BOUNDS_4 a_KINDS t_MOST_COLUMNS t_MOST_LETTERS t_MOST_NUMBER t_MOST_ROWS a_STORE_KINDS a_Heap a_Store a_Shape dA_Store___init__ kA_Store___init__ e_Store___init___key kA_Shape___init__) (D : Def K mg "_law_edit" s_law_edit fa fd) : FnOk P w K mg base CX0 5 fa fd ["_law_bag_here", "_law_form_here", "_law_stock", "_law_last"] sp_law_edit := by
  obtain ⟨fa_law_take, fd_law_take, D_law_take⟩ := T.d_law_take
  have G_law_take := ok_law_take (P := P) (w := w) (base := base) T D_law_take
  have b_law_take := D_law_take.fn.binds (ps := ["_law_bag_here", "_law_many"]) fun _ _ _ _ _ _ us hl => match us, hl with | [_, _], _ => rfl
  obtain ⟨fa_law_row, fd_law_row, D_law_row⟩ := T.d_law_row
  have G_law_row := ok_law_row (P := P) (w := w) (base := base) T D_law_row
  have b_law_row := D_law_row.fn.binds (ps := ["_law_bag_here", "_law_form_here"]) fun _ _ _ _ _ _ us hl => match us, hl with | [_, _], _ => rfl
  obtain ⟨fa_law_value, fd_law_value, D_law_value⟩ := T.d_law_value
  have G_law_value := ok_law_value (P := P) (w := w) (base := base) T D_law_value
  have b_law_value := D_law_value.fn.binds (ps := ["_law_bag_here", "_law_kind"]) fun _ _ _ _ _ _ us hl => match us, hl with | [_, _], _ => rfl
  refine D.fn.ok sc_law_edit (fun vs H Q E h => ?_) (fun cdv A outer s H vs Q E hr h => ?_)
  · obtain ⟨b, a, d, last, cols, kvs, rs, g, rfl, _⟩ := h
    rfl
  ·
    have r_law_take : Room 1 _ := hr.mono (by decide)
    have r_law_row : Room 4 _ := hr.mono (by decide)
    have r_law_value : Room 3 _ := hr.mono (by decide)
    obtain ⟨b, a, d, last, cols, kvs, rs, g, rfl, hb, hf, hd, hR, ok, nbd, k⟩ := h
    refine ⟨_, (pss_cons (ps_asg (pe_callB (cr_sortedDK rfl) (by rfl) T.z_sorted bt_sorted (pa_cons (pv 2) pa_nil)) (pg_name (i := 4) sc_law_edit.nd rfl (by first | exact Or.inl rfl | exact Or.inr rfl)))
    (pss_cons (ps_asg (pe_call G_law_take r_law_take (by rfl) D_law_take.mg D_law_take.fn.kp b_law_take .nil pass0 (pa_cons (pv 0) (pa_cons pe_int pa_nil))) (pg_name (i := 5) sc_law_edit.nd rfl (by first | exact Or.inl rfl | exact Or.inr rfl)))
    (pss_cons (ps_if (PW.pt (pw_and (PW.pt (pw_or (pt_cmpR op_lt (pv 5) pe_int (nomark _)) (pw_or1 (pt_cmpR (op_eqDK (K := K) hr.units) (pv 4) (pe_lst pa_nil) (nomark _))))) (pw_and1 (pt_cmpR op_lt (pv 3) pe_int (nomark _)))))
      (pss_one (ps_ret (pe_tup (pa_cons pe_str (pa_cons (pe_call G_law_row r_law_row (by rfl) D_law_row.mg D_law_row.fn.kp b_law_row .nil pass0 (pa_cons (pv 0) (pa_cons (pv 1) pa_nil))) pa_nil)))))
      pss_nil)
    (pss_cons (ps_if (pt_cmpR (op_eqDK (K := K) hr.units) (pv 4) (pe_lst pa_nil) (nomark _))
      (pss_one (ps_ret (pe_tup (pa_cons pe_str pa_nil))))
      pss_nil)
    (pss_cons (ps_asg (pe_ix ix_list (pv 4) (pe_call G_law_take r_law_take (by rfl) D_law_take.mg D_law_take.fn.kp b_law_take .nil pass0 (pa_cons (pv 0) (pa_cons (pe_callB call_len_seq (by rfl) T.z_len bt_len (pa_cons (pv 4) pa_nil)) pa_nil))) (fun _ _ => rfl)) (pg_name (i := 6) sc_law_edit.nd rfl (by first | exact Or.inl rfl | exact Or.inr rfl)))
    (pss_cons (ps_if (pt_cmpR op_eq (pv 5) pe_int (nomark _))
      (pss_one (ps_ret (pe_tup (pa_cons pe_str (pa_cons (pv 6) pa_nil)))))
      pss_nil)
    (pss_cons (ps_asg (pe_ix ix_tup (pv 1) (pe_call G_law_take r_law_take (by rfl) D_law_take.mg D_law_take.fn.kp b_law_take .nil pass0 (pa_cons (pv 0) (pa_cons (pe_callB call_len_seq (by rfl) T.z_len bt_len (pa_cons (pv 1) pa_nil)) pa_nil))) (fun _ _ => rfl)) (pg_tupK (K := K) (n := 2) (by rfl) (pgs_cons (pg_name (i := 7) sc_law_edit.nd rfl (by first | exact Or.inl rfl | exact Or.inr rfl)) (pgs_cons (pg_name (i := 8) sc_law_edit.nd rfl (by first | exact Or.inl rfl | exact Or.inr rfl)) pgs_nil))))
    (pss_one (ps_ret (pe_tup (pa_cons pe_str (pa_cons (pv 6) (pa_cons (pv 7) (pa_cons (pe_call G_law_value r_law_value (by rfl) D_law_value.mg D_law_value.fn.kp b_law_value .nil pass0 (pa_cons (pv 0) (pa_cons (pv 8) pa_nil))) pa_nil)))))))))))))), ?_⟩
    have hl := ok.len
    have h60 := ok.g60
    have c1 := ok.c1
    have c6 := ok.c6
    have hkl := hR.len
    have ek := hR.keys
    refine ⟨_, rfl, d, kvs, "number", rfl, hd, fun q hq => ?_, by omega, fun L hL => ?_⟩
    · rw [ek] at hq
      obtain ⟨q', _, rfl⟩ := List.mem_map.mp hq
      rfl
    have es : (srtK (kvs.map (·.1))).map kV = (rs.map (·.1)).map V.int := by
      rw [ek, keys_sorted ok.ris, List.map_map, List.map_map]; rfl
    rw [es]
    have e1 : Eff b H (upd H L (.lst ((rs.map (·.1)).map V.int))) := hb.eff (same_new hL)
    have hL1 : (upd H L (.lst ((rs.map (·.1)).map V.int))) L = some (.lst ((rs.map (·.1)).map V.int)) := upd_same
    have nLb : L ≠ b := (Bag.ne hb hL).symm
    generalize upd H L (.lst ((rs.map (·.1)).map V.int)) = H1 at e1 hL1 ⊢
    refine ⟨_, rfl, b, 8, rfl, e1.1, by decide, by decide, fun way H2 w0 w8 e2 => ?_⟩
    have e02 := e1.trans e2
    have hL2 := e2.2 _ _ nLb hL1
    have dnum : ∀ H', H' L = some (.lst ((rs.map (·.1)).map V.int)) → Dt H' (.ref L) (.list ((rs.map (·.1)).map PyData.int)) := fun H' h => .lst h (dt_ints' _ _)
    have snum : SeqAt.shaped (.list ((rs.map (·.1)).map PyData.int)) = true := by
      refine (Eas.lst (n := 0) (by rw [List.length_map, List.length_map]; omega) fun x hx => ?_).shaped (by decide)
      obtain ⟨i, _, rfl⟩ := List.mem_map.mp hx
      exact Eas.int 0 i
    have enum : PyData.eqv (.list ((rs.map (·.1)).map PyData.int)) (.list []) = decide (rs = []) := by
      cases rs <;> simp [PyData.eqv, PyData.eqvAll]
    have hz := sizeLine_eq
    dsimp only [gName]
    refine seqR (fun σ' H' => σ' = [some (.ref b), some (.ref a), some (.ref d), some (.int last), some (.ref L), some (.int way), none, none, none] ∧ Eff b H H' ∧ H' L = some (.lst ((rs.map (·.1)).map V.int))) ?_ ?_
    · rintro σ' H3 ⟨rfl, e3, hL3⟩
      refine ⟨_, rfl, by show 0 ≤ sizeLine; decide, fun z hz => ?_⟩
      have s4 := same_new (o := HO.lst []) hz
      refine ⟨_, _, (dnum _ (s4 _ _ hL3)).dp, (Dt.lst upd_same .nil).dp, snum, rfl, _, rfl, ?_⟩
      rw [enum]
      have e4 := e3.same s4
      have hL4 := s4 _ _ hL3
      generalize upd H3 z (.lst []) = H4 at e4 hL4 ⊢
      refine ite2 (fun cc => ?_) (fun cc => nextK ?_)
      · refine ⟨by show 1 ≤ sizeLine; decide, fun p hp => ?_⟩
        exact k p .none _ (e4.free hb hp) upd_same (show rs = [] from of_decide_eq_true cc) (e4.same (same_new hp))
      have hne : rs ≠ [] := fun z => cc (decide_eq_true z)
      have hpos : 0 < rs.length := List.length_pos_iff.mpr hne
      refine ⟨_, rfl, _, rfl, _, rfl, L, _, rfl, .inl (SqL.of hL4), b, _, rfl, e4.1, by rw [List.length_map, List.length_map]; omega, by rw [List.length_map, List.length_map]; omega, fun r H5 r0 r1 e5 => ?_⟩
      rw [List.length_map, List.length_map] at r1
      have e05 := e4.trans e5
      have hL5 := e5.2 _ _ nLb hL4
      have hrl : r.toNat < rs.length := by omega
      have hq := List.getElem?_eq_getElem hrl
      have hqm := List.getElem_mem hrl
      generalize rs[r.toNat] = q at hq hqm
      have eat : atI ((rs.map (·.1)).map V.int) r = some (.int q.1) := by
        have := atI_nat (xs := (rs.map (·.1)).map V.int) (j := r.toNat) (v := V.int q.1) (by rw [List.getElem?_map, List.getElem?_map, hq]; rfl)
        rwa [show ((r.toNat : Nat) : Int) = r by omega] at this
      have hat := rsAt_in ok.ris hqm
      refine ⟨L, _, _, _, rfl, rfl, SqL.of hL5, eat, ?_⟩
      refine ⟨_, rfl, rfl, _, rfl, ?_⟩
      refine ite2 (fun _ => ?_) (fun _ => nextK ?_)
      · refine ⟨_, rfl, by show 2 ≤ sizeLine; decide, fun p hp => ?_⟩
        exact k p (.drop q.1 q.2) _ (e05.free hb hp) upd_same hat (e05.same (same_new hp))
      have hf5 := hf.frm (e05.frm hb)
      obtain ⟨ts, ea, lt, ft⟩ := id hf5.ex
      have hbn : ∀ (x : Addr) (xs : List V), H5 x = some (.tup xs) → x ≠ b := fun x xs h => e05.1.neT h
      refine ⟨_, rfl, _, rfl, _, rfl, a, _, rfl, .inr (SqT.of ea), b, _, rfl, e05.1, by rw [List.length_map, lt]; omega, by rw [List.length_map, lt]; omega, fun r2 H6 r20 r21 e6 => ?_⟩
      rw [List.length_map, lt] at r21
      have e06 := e05.trans e6
      have hil : r2.toNat < cols.length := by omega
      have hci := List.getElem?_eq_getElem hil
      generalize cols[r2.toNat] = col at hci
      have hti := List.getElem?_eq_getElem (show r2.toNat < ts.length by omega)
      generalize ts[r2.toNat]'(by omega) = t at hti
      have et := ft _ _ _ hti hci
      have ea6 := e6.2 _ _ (hbn _ _ ea) ea
      have et6 := e6.2 _ _ (hbn _ _ et) et
      have eat2 : atI (ts.map V.ref) r2 = some (.ref t) := by
        have := at_ref hti
        rwa [show ((r2.toNat : Nat) : Int) = r2 by omega] at this
      obtain ⟨w, kd⟩ := col
      refine ⟨a, _, _, _, rfl, rfl, SqT.of ea6, eat2, t, _, rfl, SqT.of et6, rfl, _, _, rfl, _, _, rfl, rfl, ?_⟩
      refine ⟨_, rfl, _, rfl, _, rfl, _, rfl, b, kd, rfl, e06.1, fun v H7 hv e7 => ⟨by show 4 ≤ sizeLine; decide, fun p hp => ?_⟩⟩
      have hkd := ok.kd _ (List.mem_of_getElem? hci)
      obtain ⟨kk, rfl, ko, kk2⟩ := hv.key hkd
      have e07 := e06.trans e7
      exact k p (.chg q.1 q.2 w kk) _ (e07.free hb hp) upd_same ⟨hat, List.mem_map.mpr ⟨_, List.mem_of_getElem? hci, rfl⟩, (ok.row _ hqm).set ok.nm.nodup hci kk2 ko⟩ (e07.same (same_new hp))
    · intro nx hnx
      refine ⟨_, rfl, _, _, rfl, rfl, _, rfl, ?_⟩
      refine ite2 (fun cw => iteT ?_) (fun cw => ?_)
      · refine ⟨_, rfl, _, _, rfl, rfl, _, rfl, ?_⟩
        refine ite2 (fun cl => ?_) (fun cl => nextK (hnx _ _ ⟨rfl, e02, hL2⟩))
        refine ⟨_, rfl, _, rfl, b, a, cols, rfl, e02.1, hf.frm (e02.frm hb), by omega, ok.kd, fun r row H3 hr0 hr1 hk e3 => ⟨by show 2 ≤ sizeLine; decide, fun p hp => ?_⟩⟩
        have e03 := e02.trans e3
        exact k p (.put row) _ (e03.free hb hp) ⟨r, upd_same, same_new hp _ _ hr1⟩ ⟨hk, of_decide_eq_true cl⟩ (e03.same (same_new hp))
      · refine ⟨_, rfl, by show 0 ≤ sizeLine; decide, fun z hz => ?_⟩
        have s4 := same_new (o := HO.lst []) hz
        refine ⟨_, _, (dnum _ (s4 _ _ hL2)).dp, (Dt.lst upd_same .nil).dp, snum, rfl, _, rfl, ?_⟩
        rw [enum]
        have e4 := e02.same s4
        have hL4 := s4 _ _ hL2
        generalize upd H2 z (.lst []) = H4 at e4 hL4 ⊢
        refine ite2 (fun cc => ?_) (fun cc => iteF (nextK (hnx _ _ ⟨rfl, e4, hL4⟩)))
        refine ⟨_, rfl, _, _, rfl, rfl, _, rfl, ?_⟩
        refine ite2 (fun cl => ?_) (fun cl => nextK (hnx _ _ ⟨rfl, e4, hL4⟩))
        refine ⟨_, rfl, _, rfl, b, a, cols, rfl, e4.1, hf.frm (e4.frm hb), by omega, ok.kd, fun r row H3 hr0 hr1 hk e3 => ⟨by show 2 ≤ sizeLine; decide, fun p hp => ?_⟩⟩
        have e03 := e4.trans e3
        exact k p (.put row) _ (e03.free hb hp) ⟨r, upd_same, same_new hp _ _ hr1⟩ ⟨hk, of_decide_eq_true cl⟩ (e03.same (same_new hp))
theorem sc_law_changed : FnScope ["_law_form_here", "_law_row_here", "_law_column", "_law_value_here", "_law_name", "_law_kind", "_law_one"] ["_law_form_here", "_law_row_here", "_law_column", "_law_value_here"] (defScope s_law_changed) := ⟨rfl, rfl, rfl, by decide +kernel, rfl, by decide +kernel, by decide +kernel⟩
def sp_law_changed : Sp := fun vs H Q _ => ∃ (a r : Addr) (cols : Cols) (row : List Key) (w : Str) (v : Key), vs = [.ref a, .ref r, .str w, kV v] ∧ FormAt H a cols ∧ cols.length ≤ 10 ∧ H r = some (.tup (row.map kV)) ∧ ∀ q H', Same H H' → H' q = some (.tup ((rowSet cols row w v).map kV)) → Q (.ref q) H'
set_option maxHeartbeats 8000000 in
theorem ok_law_changed {fa : Addr} {fd : FuncData} (T : Txt K mg a_BOUNDS a_BOUNDS_0 a_BOUNDS_1 a_BOUNDS_2 a_BOUNDS_3 a_BOUNDS_4 a_KINDS t_MOST_COLUMNS t_MOST_LETTERS t_MOST_NUMBER t_MOST_ROWS a_STORE_KINDS a_Heap a_Store a_Shape dA_Store___init__ kA_Store___init__ e_Store___init___key kA_Shape___init__) (D : Def K mg "_law_changed" s_law_changed fa fd) : FnOk P w K mg base CX0 1 fa fd ["_law_form_here", "_law_row_here", "_law_column", "_law_value_here"] sp_law_changed := by
  refine D.fn.ok sc_law_changed (fun vs H Q E h => ?_) (fun cdv A outer s H vs Q E hr h => ?_)
  · obtain ⟨a, r, cols, row, w, v, rfl, _⟩ := h
    rfl
  ·
    obtain ⟨a, r, cols, row, w, v, rfl, hf, hl, hr', k⟩ := h
    refine ⟨_, (pss_one (ps_ret (pe_callTy call_tuple_of (by rfl) T.z_tuple bt_tuple (pa_cons (pe_lc (own := [("_law_name", 4), ("_law_kind", 5), ("_law_one", 6)]) (by rfl) sc_law_changed.nd (pi_zip2 (by rfl) T.z_zip (pa_cons (pv 0) (pa_cons (pv 1) pa_nil))) (blkOk_by (own := [("_law_name", 4), ("_law_kind", 5), ("_law_one", 6)]) (N := ["_law_form_here", "_law_row_here", "_law_column", "_law_value_here", "_law_name", "_law_kind", "_law_one"]) (sc := defScope s_law_changed) (by decide +kernel))
        (fun _ _ _ _ _ => (pg_tupK (K := K) (n := 2) (by rfl) (pgs_cons (pg_tupK (K := K) (n := 2) (by rfl) (pgs_cons (pg_name (i := 4) sc_law_changed.nd rfl (by first | exact Or.inl rfl | exact Or.inr rfl)) (pgs_cons (pg_name (i := 5) sc_law_changed.nd rfl (by first | exact Or.inl rfl | exact Or.inr rfl)) pgs_nil))) (pgs_cons (pg_name (i := 6) sc_law_changed.nd rfl (by first | exact Or.inl rfl | exact Or.inr rfl)) pgs_nil)))) (fun _ _ _ _ _ => pts_nil)
        (fun _ _ _ _ _ => (pe_ifExp (pt_cmpR op_eq (pv 4) (pv 2) (nomark _)) (pv 3) (pv 6)))) pa_nil)))), ?_⟩
    obtain ⟨ts, ea, lt, ft⟩ := id hf.ex
    refine ⟨_, rfl, _, rfl, (false, a), (false, r), _, _, rfl, SqS.tup ea, SqS.tup hr', fun D hD => ?_⟩
    refine lc_zip2_map hD (fun i => kV (if (cols.getD i ("", "")).1 = w then v else row.getD i (.inl 0))) (SqS.tup ea) (SqS.tup hr') (by rw [List.length_map, lt]; omega) (fun i x y TT H' R F hx' hy' s' eT hR => ?_) ?_
    · rw [List.getElem?_map] at hx' hy'
      obtain ⟨t, ht, rfl⟩ := Option.map_eq_some_iff.mp hx'
      obtain ⟨kk, hkk, rfl⟩ := Option.map_eq_some_iff.mp hy'
      have hi : i < cols.length := by rw [← lt]; exact (List.getElem?_eq_some_iff.mp ht).1
      have hci : cols[i]? = some cols[i] := by simp [hi]
      have et := s' _ _ (ft i t _ ht hci)
      have := hR H' (Same.refl _)
      rw [List.getD_eq_getElem?_getD, List.getD_eq_getElem?_getD, hci, hkk] at this
      refine ⟨TT, _, rfl, SqT.of eT, rfl, _, _, rfl, t, _, rfl, SqT.of et, rfl, _, _, rfl, _, _, rfl, rfl, _, _, rfl, rfl, rfl, ?_⟩
      refine ⟨_, rfl, _, rfl, rfl, _, rfl, ?_⟩
      refine ite2 (fun cc => ?_) (fun cc => ?_)
      · have e : cols[i].1 = w := by
          have h := of_decide_eq_true cc
          injection h
        rw [if_pos (show ((some cols[i]).getD ("", "")).1 = w from e)] at this
        exact ⟨_, rfl, this⟩
      · have e : ¬ cols[i].1 = w := fun z => cc (decide_eq_true (by rw [z]))
        rw [if_neg (show ¬ ((some cols[i]).getD ("", "")).1 = w from e)] at this
        exact ⟨_, rfl, this⟩
    · intro H1 s1 hD1
      refine ⟨D, _, rfl, .inl ⟨SqL.of hD1, fun q hq => k q _ (s1.trans (same_new hq)) ?_⟩⟩
      rw [upd_same, List.length_map, List.length_map, lt]
      unfold rowSet
      rw [List.map_map]
      rfl
theorem sc_law : FnScope ["_law_script", "_law_bag_here", "_law_cap", "_law_form_here", "_law_store", "_law_held", "_law_pages", "_law_last", "_law_k", "_law_edit_here", "_law_told", "_law_due", "_law_row_here"] ["_law_script"] (defScope s_law) := ⟨rfl, rfl, rfl, by decide +kernel, rfl, by decide +kernel, by decide +kernel⟩
def sp_law (K : PySem.W.Frag) : Sp := fun vs H Q _ => ∃ (a : Addr) (ns : List Int), vs = [.ref a] ∧ SqL K H a (ns.map V.int) ∧ ns.length ≤ 63 ∧ ∀ H', Q (.bl true) H'
set_option maxHeartbeats 8000000 in
theorem ok_law {fa : Addr} {fd : FuncData} (T : Txt K mg a_BOUNDS a_BOUNDS_0 a_BOUNDS_1 a_BOUNDS_2 a_BOUNDS_3 a_BOUNDS_4 a_KINDS t_MOST_COLUMNS t_MOST_LETTERS t_MOST_NUMBER t_MOST_ROWS a_STORE_KINDS a_Heap a_Store a_Shape dA_Store___init__ kA_Store___init__ e_Store___init___key kA_Shape___init__) (D : Def K mg "law" s_law fa fd) : FnOk P w K mg base CX0 9 fa fd ["_law_script"] (sp_law K) := by
  obtain ⟨fa_law_bag, fd_law_bag, D_law_bag⟩ := T.d_law_bag
  have G_law_bag := ok_law_bag (P := P) (w := w) (base := base) T D_law_bag
  have b_law_bag := D_law_bag.fn.binds (ps := ["_law_script", "_law_at"]) fun _ _ _ _ _ _ us hl => match us, hl with | [_, _], _ => rfl
  obtain ⟨fa_law_form, fd_law_form, D_law_form⟩ := T.d_law_form
  have G_law_form := ok_law_form (P := P) (w := w) (base := base) T D_law_form
  have b_law_form := D_law_form.fn.binds (ps := ["_law_bag_here"]) fun _ _ _ _ _ _ us hl => match us, hl with | [_], _ => rfl
  obtain ⟨fa_law_take, fd_law_take, D_law_take⟩ := T.d_law_take
  have G_law_take := ok_law_take (P := P) (w := w) (base := base) T D_law_take
  have b_law_take := D_law_take.fn.binds (ps := ["_law_bag_here", "_law_many"]) fun _ _ _ _ _ _ us hl => match us, hl with | [_, _], _ => rfl
  obtain ⟨fa_Store___init__, fd_Store___init__, D_Store___init__⟩ := T.d_Store___init__
  have G_Store___init__ := ok_Store___init__ (P := P) (w := w) (base := base) T D_Store___init__
  obtain ⟨fa_Shape___init__, fd_Shape___init__, D_Shape___init__⟩ := T.d_Shape___init__
  have G_Shape___init__ := ok_Shape___init__ (P := P) (w := w) (base := base) T D_Shape___init__
  obtain ⟨fa_law_edit, fd_law_edit, D_law_edit⟩ := T.d_law_edit
  have G_law_edit := ok_law_edit (P := P) (w := w) (base := base) T D_law_edit
  have b_law_edit := D_law_edit.fn.binds (ps := ["_law_bag_here", "_law_form_here", "_law_stock", "_law_last"]) fun _ _ _ _ _ _ us hl => match us, hl with | [_, _, _, _], _ => rfl
  obtain ⟨fa_law_heap_put, fd_law_heap_put, D_law_heap_put⟩ := T.d_law_heap_put
  have G_law_heap_put := ok_law_heap_put (P := P) (w := w) (base := base) T D_law_heap_put
  have b_law_heap_put := D_law_heap_put.fn.binds (ps := ["_law_pages", "_law_cap", "_law_number"]) fun _ _ _ _ _ _ us hl => match us, hl with | [_, _, _], _ => rfl
  obtain ⟨fa_Store_put, fd_Store_put, D_Store_put⟩ := T.d_Store_put
  have G_Store_put := ok_Store_put (P := P) (w := w) (base := base) T D_Store_put
  have b_Store_put := D_Store_put.fn.binds (ps := ["self", "row"]) fun _ _ _ _ _ _ us hl => match us, hl with | [_, _], _ => rfl
  obtain ⟨fa_law_heap_drop, fd_law_heap_drop, D_law_heap_drop⟩ := T.d_law_heap_drop
  have G_law_heap_drop := ok_law_heap_drop (P := P) (w := w) (base := base) T D_law_heap_drop
  have b_law_heap_drop := D_law_heap_drop.fn.binds (ps := ["_law_pages", "_law_number"]) fun _ _ _ _ _ _ us hl => match us, hl with | [_, _], _ => rfl
  obtain ⟨fa_Store_drop, fd_Store_drop, D_Store_drop⟩ := T.d_Store_drop
  have G_Store_drop := ok_Store_drop (P := P) (w := w) (base := base) T D_Store_drop
  have b_Store_drop := D_Store_drop.fn.binds (ps := ["self", "number"]) fun _ _ _ _ _ _ us hl => match us, hl with | [_, _], _ => rfl
  obtain ⟨fa_law_changed, fd_law_changed, D_law_changed⟩ := T.d_law_changed
  have G_law_changed := ok_law_changed (P := P) (w := w) (base := base) T D_law_changed
  have b_law_changed := D_law_changed.fn.binds (ps := ["_law_form_here", "_law_row_here", "_law_column", "_law_value_here"]) fun _ _ _ _ _ _ us hl => match us, hl with | [_, _, _, _], _ => rfl
  obtain ⟨fa_Store_change, fd_Store_change, D_Store_change⟩ := T.d_Store_change
  have G_Store_change := ok_Store_change (P := P) (w := w) (base := base) T D_Store_change
  have b_Store_change := D_Store_change.fn.binds (ps := ["self", "number", "column", "value"]) fun _ _ _ _ _ _ us hl => match us, hl with | [_, _, _, _], _ => rfl
  obtain ⟨fa_law_same, fd_law_same, D_law_same⟩ := T.d_law_same
  have G_law_same := ok_law_same (P := P) (w := w) (base := base) T D_law_same
  have b_law_same := D_law_same.fn.binds (ps := ["_law_store", "_law_stock", "_law_pages"]) fun _ _ _ _ _ _ us hl => match us, hl with | [_, _, _], _ => rfl
  obtain ⟨fa_law_like, fd_law_like, D_law_like⟩ := T.d_law_like
  have G_law_like := ok_law_like (P := P) (w := w) (base := base) T D_law_like
  have b_law_like := D_law_like.fn.binds (ps := ["_law_told", "_law_due"]) fun _ _ _ _ _ _ us hl => match us, hl with | [_, _], _ => rfl
  obtain ⟨dc_Store___init__, ddd_Store___init__, dn_Store___init__, dsl_Store___init__, td_Store___init___kind, hlD_Store___init__⟩ := T.dd_Store___init__
  obtain ⟨kc_Store___init__, kdd_Store___init__, kn_Store___init__, ksl_Store___init__, h0_Store___init__, t0_Store___init__, hlK_Store___init__⟩ := T.kk_Store___init__
  have kb_Store___init___0 : KBinds K fd_Store___init__ ["self", "shape", "form", "kind", "key"] [] (fun us ws => match us, ws with | [u0, u1, u2], [] => [u0, u1, u2, (Value.str "heap" td_Store___init___kind), Value.ref e_Store___init___key] | _, _ => []) (fun us ws => match us, ws with | [u0, u1, u2], [] => [u0, u1, u2, (V.str "heap"), V.ref e_Store___init___key] | _, _ => []) := by
    obtain ⟨oc, od, doc, pm, an, cdv, ct, osl, rfl, lk, hcd⟩ := D_Store___init__.fn.ex
    refine ⟨fun s us ws X hl => ?_, fun {vs us zs ws} r1 r2 => ?_⟩
    · rcases us with _ | ⟨u0, _ | ⟨u1, _ | ⟨u2, _ | ⟨_, _⟩⟩⟩⟩ <;> rcases ws with _ | ⟨_, _⟩ <;> first | (cases hl; done) | exact .of_eq rfl | exact PySem.W.kp_binds X (fun S => (peek_load hlK_Store___init__).trans (rfl)) | exact PySem.W.kp_binds X (fun S => (peek_load hlD_Store___init__).trans (rfl)) | exact PySem.W.kp_binds X (fun S => (peek_load hlD_Store___init__).trans ((peek_load hlK_Store___init__).trans (rfl)))
    · rcases r1 with _ | ⟨u0, _ | ⟨u1, _ | ⟨u2, _ | ⟨ux, uy⟩⟩⟩⟩ <;> rcases r2 with _ | ⟨wx, wy⟩ <;> first | exact .nil | exact (.cons u0 (.cons u1 (.cons u2 (.cons ⟨_, rfl⟩ (.cons rfl .nil)))))
  obtain ⟨kc_Shape___init__, kdd_Shape___init__, kn_Shape___init__, ksl_Shape___init__, h0_Shape___init__, t0_Shape___init__, h1_Shape___init__, t1_Shape___init__, h2_Shape___init__, t2_Shape___init__, h3_Shape___init__, t3_Shape___init__, h4_Shape___init__, t4_Shape___init__, td_Shape___init___rows, td_Shape___init___entries, td_Shape___init___fan, td_Shape___init___buckets, td_Shape___init___bits, hlK_Shape___init__⟩ := T.kk_Shape___init__
  have kb_Shape___init___1 : KBinds K fd_Shape___init__ ["self", "rows", "entries", "fan", "buckets", "bits"] ["rows"] (fun us ws => match us, ws with | [u0], [w0] => [u0, w0, (Value.int 4 td_Shape___init___entries), (Value.int 3 td_Shape___init___fan), (Value.int 4 td_Shape___init___buckets), (Value.int 16 td_Shape___init___bits)] | _, _ => []) (fun us ws => match us, ws with | [u0], [w0] => [u0, w0, (V.int 4), (V.int 3), (V.int 4), (V.int 16)] | _, _ => []) := by
    obtain ⟨oc, od, doc, pm, an, cdv, ct, osl, rfl, lk, hcd⟩ := D_Shape___init__.fn.ex
    refine ⟨fun s us ws X hl => ?_, fun {vs us zs ws} r1 r2 => ?_⟩
    · rcases us with _ | ⟨u0, _ | ⟨_, _⟩⟩ <;> rcases ws with _ | ⟨w0, _ | ⟨_, _⟩⟩ <;> first | (cases hl; done) | exact .of_eq rfl | exact PySem.W.kp_binds X (fun S => (peek_load hlK_Shape___init__).trans (rfl)) | exact PySem.W.kp_binds X (fun S => (peek_load hlK_Shape___init__).trans ((peek_load hlK_Shape___init__).trans (rfl))) | exact PySem.W.kp_binds X (fun S => (peek_load hlK_Shape___init__).trans ((peek_load hlK_Shape___init__).trans ((peek_load hlK_Shape___init__).trans (rfl)))) | exact PySem.W.kp_binds X (fun S => (peek_load hlK_Shape___init__).trans ((peek_load hlK_Shape___init__).trans ((peek_load hlK_Shape___init__).trans ((peek_load hlK_Shape___init__).trans (rfl))))) | exact PySem.W.kp_binds X (fun S => (peek_load hlK_Shape___init__).trans ((peek_load hlK_Shape___init__).trans ((peek_load hlK_Shape___init__).trans ((peek_load hlK_Shape___init__).trans ((peek_load hlK_Shape___init__).trans (rfl))))))
    · rcases r1 with _ | ⟨u0, _ | ⟨ux, uy⟩⟩ <;> rcases r2 with _ | ⟨w0, _ | ⟨wx, wy⟩⟩ <;> first | exact .nil | exact (.cons u0 (.cons w0 (.cons ⟨_, rfl⟩ (.cons ⟨_, rfl⟩ (.cons ⟨_, rfl⟩ (.cons ⟨_, rfl⟩ .nil))))))
  refine D.fn.ok sc_law (fun vs H Q E h => ?_) (fun cdv A outer s H vs Q E hr h => ?_)
  · obtain ⟨a, ns, rfl, _⟩ := h
    rfl
  ·
    have r_law_bag : Room 1 _ := hr.mono (by decide)
    have r_law_form : Room 3 _ := hr.mono (by decide)
    have r_law_take : Room 1 _ := hr.mono (by decide)
    have r_Store___init__ : Room 5 _ := hr.mono (by decide)
    have rm_Store___init__ : Room (5 + 1) _ := hr.mono (by decide)
    have r_Shape___init__ : Room 3 _ := hr.mono (by decide)
    have rm_Shape___init__ : Room (3 + 1) _ := hr.mono (by decide)
    have r_law_edit : Room 5 _ := hr.mono (by decide)
    have r_law_heap_put : Room 1 _ := hr.mono (by decide)
    have r_Store_put : Room 5 _ := hr.mono (by decide)
    have r_law_heap_drop : Room 1 _ := hr.mono (by decide)
    have r_Store_drop : Room 3 _ := hr.mono (by decide)
    have r_law_changed : Room 1 _ := hr.mono (by decide)
    have r_Store_change : Room 3 _ := hr.mono (by decide)
    have r_law_same : Room 8 _ := hr.mono (by decide)
    have r_law_like : Room 7 _ := hr.mono (by decide)
    obtain ⟨a, ns, rfl, hS, hl, k⟩ := h
    refine ⟨_, (pss_cons (ps_asg (pe_call G_law_bag r_law_bag (by rfl) D_law_bag.mg D_law_bag.fn.kp b_law_bag .nil pass0 (pa_cons (pv 0) (pa_cons pe_int pa_nil))) (pg_name (i := 1) sc_law.nd rfl (by first | exact Or.inl rfl | exact Or.inr rfl)))
    (pss_cons (ps_par (i := 2) (j := 3) (by rfl) sc_law.nd rfl rfl (by decide) rfl rfl (pa_cons (pe_op op_add pe_int (pe_call G_law_take r_law_take (by rfl) D_law_take.mg D_law_take.fn.kp b_law_take .nil pass0 (pa_cons (pv 1) (pa_cons pe_int pa_nil)))) (pa_cons (pe_call G_law_form r_law_form (by rfl) D_law_form.mg D_law_form.fn.kp b_law_form .nil pass0 (pa_cons (pv 1) pa_nil)) pa_nil)) (by rfl))
    (pss_cons (ps_asg (pe_tup (pa_cons (pe_makeK D_Store___init__.mkc G_Store___init__ rm_Store___init__ (by rfl) T.mg_Store kb_Store___init___0 pass0 (pa_cons (pe_makeK0 D_Shape___init__.mkc G_Shape___init__ rm_Shape___init__ (by rfl) T.mg_Shape kb_Shape___init___1 pass0 (pk_cons (pv 2) pk_nil)) (pa_cons (pv 3) pa_nil)) pk_nil) (pa_cons pe_dnewK (pa_cons (pe_lst pa_nil) (pa_cons pe_int pa_nil))))) (pg_tupK (K := K) (n := 4) (by rfl) (pgs_cons (pg_name (i := 4) sc_law.nd rfl (by first | exact Or.inl rfl | exact Or.inr rfl)) (pgs_cons (pg_name (i := 5) sc_law.nd rfl (by first | exact Or.inl rfl | exact Or.inr rfl)) (pgs_cons (pg_name (i := 6) sc_law.nd rfl (by first | exact Or.inl rfl | exact Or.inr rfl)) (pgs_cons (pg_name (i := 7) sc_law.nd rfl (by first | exact Or.inl rfl | exact Or.inr rfl)) pgs_nil))))))
    (pss_cons (ps_for PassesOwn.never rfl (pi_range1 (by rfl) T.z_range (pa_cons (pe_callB (call_max2 rfl) (by rfl) T.z_max bt_max (pa_cons pe_int (pa_cons (pe_callB (call_min2 rfl) (by rfl) T.z_min bt_min (pa_cons pe_int (pa_cons (pe_op op_sub (pe_callB call_len_seq (by rfl) T.z_len bt_len (pa_cons (pv 0) pa_nil)) pe_int) pa_nil))) pa_nil))) pa_nil)) (pg_name (i := 8) sc_law.nd rfl (by first | exact Or.inl rfl | exact Or.inr rfl))
      (pss_cons (ps_asg (pe_call G_law_bag r_law_bag (by rfl) D_law_bag.mg D_law_bag.fn.kp b_law_bag .nil pass0 (pa_cons (pv 0) (pa_cons (pe_op op_add pe_int (pv 8)) pa_nil))) (pg_name (i := 1) sc_law.nd rfl (by first | exact Or.inl rfl | exact Or.inr rfl)))
    (pss_cons (ps_asg (pe_call G_law_edit r_law_edit (by rfl) D_law_edit.mg D_law_edit.fn.kp b_law_edit .nil pass0 (pa_cons (pv 1) (pa_cons (pv 3) (pa_cons (pv 5) (pa_cons (pv 7) pa_nil))))) (pg_name (i := 9) sc_law.nd rfl (by first | exact Or.inl rfl | exact Or.inr rfl)))
    (pss_cons (ps_if (pt_cmpR op_eq (pe_ix ix_tup (pv 9) pe_int (fun _ _ => rfl)) pe_str (nomark _))
      (pss_cons (ps_asg (pe_op op_add (pv 7) pe_int) (pg_name (i := 7) sc_law.nd rfl (by first | exact Or.inl rfl | exact Or.inr rfl)))
    (pss_cons (ps_par (i := 10) (j := 11) (by rfl) sc_law.nd rfl rfl (by decide) rfl rfl (pa_cons (pe_meth (pv 4) T.cl_Store D_Store_put.meth G_Store_put r_Store_put b_Store_put .nil pass0 (pa_cons (pe_ix ix_tup (pv 9) pe_int (fun _ _ => rfl)) pa_nil)) (pa_cons (pe_tup (pa_cons (pv 7) (pa_cons (pe_call G_law_heap_put r_law_heap_put (by rfl) D_law_heap_put.mg D_law_heap_put.fn.kp b_law_heap_put .nil pass0 (pa_cons (pv 6) (pa_cons (pv 2) (pa_cons (pv 7) pa_nil)))) pa_nil))) pa_nil)) (by rfl))
    (pss_one (ps_dput (u1 hr.units) (pv 5) (pv 7) (pe_ix ix_tup (pv 9) pe_int (fun _ _ => rfl)) (by rfl)))))
      (pss_one (ps_if (pt_cmpR op_eq (pe_ix ix_tup (pv 9) pe_int (fun _ _ => rfl)) pe_str (nomark _))
      (pss_cons (ps_expr (pe_dpop1 (pv 5) (pe_ix ix_tup (pv 9) pe_int (fun _ _ => rfl)) ⟨rfl, rfl, rfl, rfl⟩))
    (pss_one (ps_par (i := 10) (j := 11) (by rfl) sc_law.nd rfl rfl (by decide) rfl rfl (pa_cons (pe_meth (pv 4) T.cl_Store D_Store_drop.meth G_Store_drop r_Store_drop b_Store_drop .nil pass0 (pa_cons (pe_ix ix_tup (pv 9) pe_int (fun _ _ => rfl)) pa_nil)) (pa_cons (pe_call G_law_heap_drop r_law_heap_drop (by rfl) D_law_heap_drop.mg D_law_heap_drop.fn.kp b_law_heap_drop .nil pass0 (pa_cons (pv 6) (pa_cons (pe_ix ix_tup (pv 9) pe_int (fun _ _ => rfl)) pa_nil))) pa_nil)) (by rfl))))
      (pss_one (ps_if (pt_cmpR op_eq (pe_ix ix_tup (pv 9) pe_int (fun _ _ => rfl)) pe_str (nomark _))
      (pss_cons (ps_asg (pe_call G_law_changed r_law_changed (by rfl) D_law_changed.mg D_law_changed.fn.kp b_law_changed .nil pass0 (pa_cons (pv 3) (pa_cons (pe_dget (u1 hr.units) (pv 5) (pe_ix ix_tup (pv 9) pe_int (fun _ _ => rfl)) (fun _ _ => rfl)) (pa_cons (pe_ix ix_tup (pv 9) pe_int (fun _ _ => rfl)) (pa_cons (pe_ix ix_tup (pv 9) pe_int (fun _ _ => rfl)) pa_nil))))) (pg_name (i := 12) sc_law.nd rfl (by first | exact Or.inl rfl | exact Or.inr rfl)))
    (pss_cons (ps_par (i := 10) (j := 11) (by rfl) sc_law.nd rfl rfl (by decide) rfl rfl (pa_cons (pe_meth (pv 4) T.cl_Store D_Store_change.meth G_Store_change r_Store_change b_Store_change .nil pass0 (pa_cons (pe_ix ix_tup (pv 9) pe_int (fun _ _ => rfl)) (pa_cons (pe_ix ix_tup (pv 9) pe_int (fun _ _ => rfl)) (pa_cons (pe_ix ix_tup (pv 9) pe_int (fun _ _ => rfl)) pa_nil)))) (pa_cons (pe_op op_mul pe_int (pe_callTy call_int1 (by rfl) T.z_int bt_int (pa_cons (pe_cmpR (op_neDK (K := K) hr.units) (pv 12) (pe_dget (u1 hr.units) (pv 5) (pe_ix ix_tup (pv 9) pe_int (fun _ _ => rfl)) (fun _ _ => rfl)) (nomark _)) pa_nil))) pa_nil)) (by rfl))
    (pss_one (ps_dput (u1 hr.units) (pv 5) (pe_ix ix_tup (pv 9) pe_int (fun _ _ => rfl)) (pv 12) (by rfl)))))
      (pss_one (ps_asg (pe_tup (pa_cons pe_int (pa_cons pe_int pa_nil))) (pg_tupK (K := K) (n := 2) (by rfl) (pgs_cons (pg_name (i := 10) sc_law.nd rfl (by first | exact Or.inl rfl | exact Or.inr rfl)) (pgs_cons (pg_name (i := 11) sc_law.nd rfl (by first | exact Or.inl rfl | exact Or.inr rfl)) pgs_nil))))))))))
    (pss_one (ps_if (PW.pt (pw_or (pt_not (pt_val (pe_call G_law_like r_law_like (by rfl) D_law_like.mg D_law_like.fn.kp b_law_like .nil pass0 (pa_cons (pv 10) (pa_cons (pv 11) pa_nil))))) (pw_or1 (pt_not (pt_val (pe_call G_law_same r_law_same (by rfl) D_law_same.mg D_law_same.fn.kp b_law_same .nil pass0 (pa_cons (pv 4) (pa_cons (pv 5) (pa_cons (pv 6) pa_nil)))))))))
      (pss_one (ps_ret pe_bl))
      pss_nil))))))
    (pss_one (ps_ret pe_bl)))))), ?_⟩
    have hlen : ((ns.map V.int).length : Int) ≤ 63 := by rw [List.length_map]; omega
    refine ⟨_, rfl, a, ns, 0, rfl, hS, hl, by decide, by decide, fun b1 H1 hb1 s1 g1 => ?_⟩
    refine ⟨_, rfl, b1, 7, rfl, g1, by decide, by decide, fun r1 H2 r10 r17 e2 => ⟨_, _, rfl, rfl, ?_⟩⟩
    dsimp only
    generalize hmi : (2 + r1 : Int) = mi
    obtain ⟨m, rfl⟩ : ∃ m : Nat, mi = m := ⟨mi.toNat, by omega⟩
    have m28 : 2 ≤ m ∧ m ≤ 8 := by omega
    have shok : ShOk ⟨m, 4, 3, 4, 16⟩ := ⟨m28, by simp, by simp, by simp, by simp⟩
    refine ⟨_, rfl, b1, rfl, e2.1, fun fo cols H3 hfo c1 c6 hkd hnm e3 => ⟨_, _, rfl, ?_⟩⟩
    have s3 : Same H H3 := same_eff (same_eff s1 hb1 e2) hb1 e3
    refine ⟨_, rfl, fun sh dsh hsh hdsh nsh => ?_⟩
    refine ⟨sh, dsh, ⟨m, 4, 3, 4, 16⟩, rfl, upd_same, shok, fun H4 hSh kk4 => ⟨rfl, ?_⟩⟩
    have s34 : Same H3 H4 := fun c o e => kk4 c o (same_made hsh hdsh c o e) (ne_of_none e hsh)
    have s4 := s3.trans s34
    refine ⟨_, rfl, fun x dx hx hdx nx => ?_⟩
    have s45 : Same H4 (upd (upd H4 dx (.own x)) x (.ins a_Store dx [])) := same_made hx hdx
    have hfo4 := hfo.frm (.of_same (s34.trans s45) : Frm [] _ _)
    have rok0 : RsOk cols [] [] 0 := ⟨c1, c6, hkd, hnm, by simp, by simp, by simp, by simp, .nil, by decide⟩
    refine ⟨x, dx, sh, fo, e_Store___init___key, ⟨m, 4, 3, 4, 16⟩, cols, rfl, upd_same, hSh.frm (.of_same s45 : Frm [] _ _) (by simp), shok, hfo4, .inr (.inr T.qe_Store___init___key), rok0, fun f H6 hSt kk6 hf => ⟨rfl, ?_⟩⟩
    have s46 : Same H4 H6 := fun c o e => kk6 c o (s45 c o e) (ne_of_none e hx)
    have hfn : ∀ y ∈ f, H4 y = none := fun y hy => by
      rcases hf y hy with z | z
      · rw [z]; exact hx
      · exact s45.free z
    refine fun d hd => ?_
    have s67 := same_new (o := HO.dK []) hd
    have hd7 : (upd H6 d (.dK [])) d = some (.dK []) := upd_same
    have St7 := hSt.same s67
    generalize upd H6 d (.dK []) = H7 at s67 hd7 St7 ⊢
    refine ⟨by show 0 ≤ sizeLine; decide, fun pg hpg => ?_⟩
    have s78 := same_new (o := HO.lst []) hpg
    have hpg8 : (upd H7 pg (.lst [])) pg = some (.lst []) := upd_same
    generalize upd H7 pg (.lst []) = H8 at s78 hpg8 ⊢
    have S0 : StL (LOf Ng) K ⟨a_Shape, a_Heap, a_Heap, a_Heap, a_Store⟩ H H8 x sh d pg fo ⟨m, 4, 3, 4, 16⟩ cols [] (.heap []) [] 0 f [] [] [] [pg] := by
      have s47 := s46.trans s67
      have hSh4 := hSh
      obtain ⟨dy, ty, hy, hty⟩ := hSh4
      exact {
        rok := lofOk ngOk
        same := (s4.trans s47).trans s78
        st := St7.same s78
        fm := hfo.frm (.of_same ((s34.trans s47).trans s78) : Frm [] _ _)
        hd := s78 _ _ hd7
        rows := .nil
        lp := ⟨[], [], hpg8, .nil, by simp, rfl⟩
        dis := dis1 fun z => by obtain ⟨o, e⟩ := St7.liv pg z; rw [hpg] at e; cases e
        df := fun z => by obtain ⟨o, e⟩ := hSt.liv d z; rw [hd] at e; cases e
        df2 := fun z => by rw [List.mem_singleton.mp z, hpg] at hd7; cases hd7
        ds := fun z => by have := s46 _ _ hy; rw [← z, hd] at this; cases this
        sf2 := fun z => by have := s47 _ _ hy; rw [List.mem_singleton.mp z, hpg] at this; cases this
        n1 := fun y hy => s4.free (hfn y hy)
        n2 := fun y hy => by rw [List.mem_singleton.mp hy]; exact (s4.trans s47).free hpg
        nd := (s4.trans s46).free hd
        ns := s3.free hsh }
    refine ⟨by show 4 ≤ sizeLine; decide, fun tt htt => ?_⟩
    refine ⟨tt, _, rfl, SqT.of upd_same, rfl, _, _, rfl, _, _, rfl, _, _, rfl, _, _, rfl, rfl, ?_⟩
    have S1 := S0.go (same_new (o := HO.tup [V.ref x, V.ref d, V.ref pg, V.int 0]) htt)
    clear S0
    generalize upd H8 tt _ = H9 at S1 ⊢
    refine ⟨_, rfl, a, _, rfl, .inl (S1.same.seq hS), _, _, rfl, rfl, _, _, rfl, _, _, rfl, _, rfl, ?_, ?_, for_range (fun i σ H1 => ∃ v1 v8 v9 v10 v11 v12 g ps rs f kvs f2, σ = [some (.ref a), v1, some (.int (m : Nat)), some (.ref fo), some (.ref x), some (.ref d), some (.ref pg), some (.int (g : Nat)), v8, v9, v10, v11, v12] ∧ StL (LOf Ng) K ⟨a_Shape, a_Heap, a_Heap, a_Heap, a_Store⟩ H H1 x sh d pg fo ⟨m, 4, 3, 4, 16⟩ cols [] (.heap ps) rs g f kvs rs (numsOf ps) f2 ∧ HeapIn m g rs ps ∧ g ≤ 60) ⟨_, _, _, _, _, _, 0, [], [], f, [], [pg], rfl, S1, HeapIn.nil m, by decide⟩ ?_ ?_⟩
    · split <;> split <;> omega
    · split <;> split <;> omega
    · rintro i σ H1 hi ⟨v1, v8, v9, v10, v11, v12, g, ps, rs, f, kvs, f2, rfl, S, hin, hg⟩
      have hi60 : i < 61 := by
        refine Nat.lt_of_lt_of_le hi ?_
        split <;> split <;> omega
      refine ⟨_, rfl, _, rfl, _, _, rfl, rfl, a, ns, _, rfl, S.same.seq hS, hl, by omega, by omega, fun b2 H2 hb2 s2 g2 => ?_⟩
      obtain ⟨bf, bf2, bd, bs, b0⟩ := S.fresh hb2
      have S2 := S.go s2
      have rok := S.st.rs
      refine ⟨_, rfl, _, rfl, _, rfl, _, rfl, b2, fo, d, g, cols, kvs, rs, g, rfl, g2, S2.fm, S2.hd, S2.rows, rok, bd, fun pe e H3 hpe hE hEo e3 => ?_⟩
      have S3 := S2.bag e3 g2 b0 bf bf2 bd bs
      have okOf : ∀ (g : Nat) (rs : Rs) (ps : Pgs), RsOk cols [] rs g → HeapIn m g rs ps → PgsOk ps := fun g rs ps h1 h2 => by
        have := h1.g60
        have := h1.len
        exact h2.ok (fun p hp => by have := h1.num p hp; omega) (by omega) (by omega) (by omega)
      have hok := okOf g rs ps rok hin
      have nml : (numsOf ps).length ≤ 1000 := by unfold numsOf; rw [List.length_map]; have := hok.len; omega
      have nmp : ∀ p ∈ numsOf ps, p.length ≤ 1000 := fun p hp => by
        obtain ⟨q, hq, rfl⟩ := List.mem_map.mp (show p ∈ ps.map _ from hp)
        rw [List.length_map]; have := (hok.pg q hq).1; omega
      dsimp only [gName]
      refine seqR (fun σ' H' => ∃ (g' : Nat) (ps' : Pgs) (rs' : Rs) (f' : List Addr) (kvs' : List (Key × V)) (f2' : List Addr) (vt vd : V) (v12' : Option V) (dd : PyData), σ' = [some (.ref a), some (.ref b2), some (.int (m : Nat)), some (.ref fo), some (.ref x), some (.ref d), some (.ref pg), some (.int (g' : Nat)), some (.int (0 + (i : Int))), some (.ref pe), some vt, some vd, v12'] ∧ StL (LOf Ng) K ⟨a_Shape, a_Heap, a_Heap, a_Heap, a_Store⟩ H H' x sh d pg fo ⟨m, 4, 3, 4, 16⟩ cols [] (.heap ps') rs' g' f' kvs' rs' (numsOf ps') f2' ∧ HeapIn m g' rs' ps' ∧ g' ≤ 60 ∧ Dt H' vt dd ∧ Dt H' vd dd ∧ Eas 5 dd) ?_ ?_
      · rintro σ' H4 ⟨g', ps', rs', f', kvs', f2', vt, vd, v12', dd, rfl, S4, hin', hg', d1, d2, he⟩
        refine ⟨_, rfl, _, rfl, vt, vd, dd, rfl, d1, d2, he, by decide, fun H5 s5 => ⟨_, rfl, iteF ?_⟩⟩
        have S5 := S4.go s5
        have hok' := okOf g' rs' ps' S4.st.rs hin'
        refine ⟨_, rfl, _, rfl, _, rfl, x, sh, d, pg, _, cols, [], .heap ps', rs', g', f', f2', kvs', rfl, trivial, S5.st, hok', by have := hok'.len; show ps'.length ≤ 1000; omega, S5.hd, S5.rows, S5.lp, S5.df, S5.df2, S5.ds, fun H6 s6 => ⟨_, rfl, iteF (nextK ?_)⟩⟩
        exact ⟨_, _, _, _, _, _, g', ps', rs', f', kvs', f2', rfl, S5.go s6, hin', hg'⟩
      · intro nx hnx
        obtain ⟨dx', fo', kp', hp', dd', kv', fh', ef, X⟩ := S3.st.xs
        have no : ∀ m : Str, m ≠ "shape" → m ≠ "form" → m ≠ "kind" → m ≠ "key" → m ≠ "holder" → m ≠ "by_number" → m ≠ "given" → (stF (Hd.heap ps).kind sh fo' kp' hp' dd' (g : Int)).lookup m = none := fun m h1 h2 h3 h4 h5 h6 h7 => sf_no _ _ _ _ _ _ _ h1 h2 h3 h4 h5 h6 h7
        have numk : ∀ p ∈ rs, p.1 ≠ (g : Int) + 1 := fun p hp => by have := rok.num p hp; omega
        have rsl := rok.len
        have kvl := S3.rows.len
        have hz := sizeLine_eq
        cases e with
        | put row =>
          obtain ⟨r, hE1, hE2⟩ := hE
          obtain ⟨rk, hlast⟩ := hEo
          refine ⟨_, rfl, pe, _, _, _, rfl, rfl, SqT.of hE1, rfl, rfl, _, rfl, iteT ?_⟩
          refine ⟨_, rfl, _, _, rfl, rfl, ?_⟩
          refine ⟨_, rfl, x, dx', _, rfl, X.hx, no _ (by decide +kernel) (by decide +kernel) (by decide +kernel) (by decide +kernel) (by decide +kernel) (by decide +kernel) (by decide +kernel), _, rfl, pe, _, _, _, rfl, rfl, SqT.of hE1, rfl, x, sh, _, cols, [], .heap ps, rs, g, f, _, row, rfl, trivial, S3.st, ⟨r, rfl, hE2⟩, rk, by omega, hok, fun p4 f4 H4 hSt4 F4 N4 hp4 hp4' => ?_⟩
          have S4 := S3.store hSt4 F4 N4
          refine ⟨_, rfl, _, rfl, _, rfl, _, rfl, pg, m, _, numsOf ps, f2, rfl, S4.lp, by omega, nml, nmp, fun f5 H5 hL5 F5 N5 => ⟨by show 2 ≤ sizeLine; decide, fun t6 ht6 => ⟨_, _, rfl, ?_⟩⟩⟩
          have S5 := S4.law hL5 F5 N5
          have s6 := same_new (o := HO.tup [V.int ((g : Int) + 1), V.int (nmTo (m : Int).toNat (numsOf ps))]) ht6
          have S6 := S5.go s6
          have ht6' : (upd H5 t6 (.tup [V.int ((g : Int) + 1), V.int (nmTo (m : Int).toNat (numsOf ps))])) t6 = some (.tup [V.int ((g : Int) + 1), V.int (nmTo (m : Int).toNat (numsOf ps))]) := upd_same
          have hp6 := s6 _ _ (F5.tups _ _ hp4')
          have hE16 := s6 _ _ (F5.tups _ _ (F4.tups _ _ hE1))
          have hE26 := s6 _ _ (F5.tups _ _ (F4.tups _ _ hE2))
          dsimp only
          generalize upd H5 t6 (.tup [V.int ((g : Int) + 1), V.int (nmTo (m : Int).toNat (numsOf ps))]) = H6 at S6 ht6' hp6 hE16 hE26 ⊢
          refine ⟨_, rfl, pe, _, _, _, rfl, rfl, SqT.of hE16, rfl, _, rfl, _, rfl, d, _, rfl, DPut.k (k := .inl ((g : Int) + 1)) S6.hd (by omega), ?_⟩
          have S7 := S6.dict (S6.rows.new (v := .ref r) (row := row) numk ⟨r, rfl, hE26⟩)
          have F7 : Frm [d] H6 (upd H6 d (.dK (putK kvs (.inl ((g : Int) + 1)) (.ref r)))) := .upd S6.hd (by simp) (fun _ z => by cases z)
          have et : thOf cols [] ((g : Int) + 1, row) = ([], (g : Int) + 1) := rfl
          have en : nmPut (m : Int).toNat ((g : Int) + 1) (numsOf ps) = numsOf (hpPut m ([], (g : Int) + 1) ps) := nums_put m ([], (g : Int) + 1) ps
          have eto : nmTo (m : Int).toNat (numsOf ps) = hpTo m ps := nums_to m ps
          rw [et] at S7
          rw [en] at S7
          rw [eto] at ht6'
          refine hnx _ _ ⟨g + 1, _, _, f4, _, f5, _, _, _, .tuple [.int ((g : Int) + 1), .int (hpTo m ps)], rfl, S7, hin.put (by omega) _ row, by omega, .tup (F7.tups _ _ hp6) (.cons (.int _) (.cons (.int _) .nil)), .tup (F7.tups _ _ ht6') (.cons (.int _) (.cons (.int _) .nil)), ?_⟩
          refine (Eas.tup (n := 0) (by simp) fun q hq => ?_).mono (by decide)
          rcases List.mem_cons.mp hq with rfl | hq
          · exact Eas.int _ _
          · rw [List.mem_singleton.mp hq]; exact Eas.int _ _
        | drop n row =>
          have hE : H3 pe = some (.tup [.str "drop", .int n]) := hE
          have hat : rsAt rs n = some row := hEo
          obtain ⟨v, hv, hvr⟩ := S3.rows.get hat
          have hhas := hin.has hat
          refine ⟨_, rfl, pe, _, _, _, rfl, rfl, SqT.of hE, rfl, rfl, _, rfl, iteF ?_⟩
          refine ⟨_, rfl, pe, _, _, _, rfl, rfl, SqT.of hE, rfl, rfl, _, rfl, iteT ?_⟩
          refine ⟨_, rfl, d, rfl, .inl ⟨kvs, .inl S3.hd⟩, _, rfl, pe, _, _, _, rfl, rfl, SqT.of hE, rfl, kvs, .inl n, v, S3.hd, rfl, hv, ?_⟩
          have S4 := S3.dict (S3.rows.del n)
          have F4 : Frm [d] H3 (upd H3 d (.dK (dropK kvs (.inl n)))) := .upd S3.hd (by simp) (fun _ z => by cases z)
          have hE4 := F4.tups _ _ hE
          have hx4 := F4.keep _ _ (fun z => S3.df (by rw [← List.mem_singleton.mp z, ef]; exact List.mem_cons_self)) X.hx
          generalize upd H3 d (.dK (dropK kvs (.inl n))) = H4 at S4 hE4 hx4 ⊢
          refine ⟨_, rfl, x, dx', _, rfl, hx4, no _ (by decide +kernel) (by decide +kernel) (by decide +kernel) (by decide +kernel) (by decide +kernel) (by decide +kernel) (by decide +kernel), _, rfl, pe, _, _, _, rfl, rfl, SqT.of hE4, rfl, x, sh, _, cols, [], .heap ps, rs, g, f, n, row, rfl, trivial, S4.st, hat, hok, hhas, fun f5 H5 hSt5 F5 N5 => ?_⟩
          have S5 := S4.store hSt5 F5 N5
          refine ⟨_, rfl, _, rfl, pe, _, _, _, rfl, rfl, SqT.of (F5.tups _ _ hE4), rfl, pg, n, numsOf ps, f2, rfl, S5.lp, nml, nmp, fun f6 H6 hL6 F6 N6 => ⟨_, _, rfl, ?_⟩⟩
          have S6 := S5.law hL6 F6 N6
          rw [nums_drop hin.hk (hin.nodup rok.ris) hhas] at S6
          exact hnx _ _ ⟨g, _, _, f5, _, f6, _, _, _, .int 2, rfl, S6, hin.drop rok.ris hat, hg, .int 2, .int 2, Eas.int _ _⟩
        | chg n row w v =>
          have hE : H3 pe = some (.tup [.str "change", .int n, .str w, kV v]) := hE
          obtain ⟨hat, hw, rk'⟩ := hEo
          obtain ⟨vr, hv, r, rfl, hr'⟩ := S3.rows.get hat
          have rk : RowK cols row := rok.row _ (rsAt_mem hat)
          have hg3 : DGet H3 d (.int n) (some (.ref r)) := by have := DGet.k (k := .inl n) S3.hd; rw [hv] at this; exact this
          refine ⟨_, rfl, pe, _, _, _, rfl, rfl, SqT.of hE, rfl, rfl, _, rfl, iteF ?_⟩
          refine ⟨_, rfl, pe, _, _, _, rfl, rfl, SqT.of hE, rfl, rfl, _, rfl, iteF ?_⟩
          refine ⟨_, rfl, pe, _, _, _, rfl, rfl, SqT.of hE, rfl, rfl, _, rfl, iteT ?_⟩
          refine ⟨_, rfl, _, rfl, _, rfl, pe, _, _, _, rfl, rfl, SqT.of hE, rfl, d, _, rfl, hg3, _, rfl, pe, _, _, _, rfl, rfl, SqT.of hE, rfl, _, rfl, pe, _, _, _, rfl, rfl, SqT.of hE, rfl, fo, r, cols, row, w, v, rfl, S3.fm, by omega, hr', fun q H4 s4 hq => ?_⟩
          rw [rowSet_new rk.len hnm.nodup hw] at hq
          have S4 := S3.go s4
          have hE4 := s4 _ _ hE
          have X4 := X.same s4
          refine ⟨_, rfl, x, dx', _, rfl, X4.hx, no _ (by decide +kernel) (by decide +kernel) (by decide +kernel) (by decide +kernel) (by decide +kernel) (by decide +kernel) (by decide +kernel), _, rfl, pe, _, _, _, rfl, rfl, SqT.of hE4, rfl, _, rfl, pe, _, _, _, rfl, rfl, SqT.of hE4, rfl, _, rfl, pe, _, _, _, rfl, rfl, SqT.of hE4, rfl, ?_⟩
          refine ⟨x, sh, _, cols, [], .heap ps, rs, g, f, n, row, w, v, rfl, trivial, S4.st, hat, hw, rk', (fun _ z => nomatch z), fun f5 H5 hSt5 F5 N5 => ?_⟩
          rw [chg_heap] at hSt5
          rw [chgT_heap]
          have S5 := S4.store hSt5 F5 N5
          have hE5 := F5.tups _ _ hE4
          have hq5 := F5.tups _ _ hq
          have hr5 := F5.tups _ _ (s4 _ _ hr')
          have hg5 : DGet H5 d (.int n) (some (.ref r)) := by have := DGet.k (k := .inl n) S5.hd; rw [hv] at this; exact this
          refine ⟨_, rfl, _, rfl, _, rfl, pe, _, _, _, rfl, rfl, SqT.of hE5, rfl, d, _, rfl, hg5, rowD (newRow cols row w v), rowD row, (RowAt.dt ⟨q, rfl, hq5⟩).dp, (RowAt.dt ⟨r, rfl, hr5⟩).dp, row_shaped rk' c6, row_shaped rk c6, .inr ⟨_, rfl, _, _, rfl, rfl, .inl ⟨by decide, by decide⟩, _, _, rfl, ?_⟩⟩
          rw [row_eqv]
          refine ⟨_, rfl, _, rfl, _, rfl, pe, _, _, _, rfl, rfl, SqT.of hE5, rfl, d, _, rfl, DPut.k (k := .inl n) S5.hd (by omega), ?_⟩
          have S6 := S5.dict (S5.rows.set (v := .ref q) hat ⟨q, rfl, hq5⟩)
          refine hnx _ _ ⟨g, ps, _, f5, _, f2, _, _, _, .int (if newRow cols row w v = row then 0 else 2), rfl, S6, hin.set n _, hg, .int _, ?_, Eas.int _ _⟩
          by_cases c : newRow cols row w v = row
          · rw [decide_eq_true c, if_pos c]; exact .int _
          · rw [decide_eq_false c, if_neg c]; exact .int _
        | none =>
          have hE : H3 pe = some (.tup [.str "none"]) := hE
          refine ⟨_, rfl, pe, _, _, _, rfl, rfl, SqT.of hE, rfl, rfl, _, rfl, iteF ?_⟩
          refine ⟨_, rfl, pe, _, _, _, rfl, rfl, SqT.of hE, rfl, rfl, _, rfl, iteF ?_⟩
          refine ⟨_, rfl, pe, _, _, _, rfl, rfl, SqT.of hE, rfl, rfl, _, rfl, iteF ?_⟩
          refine ⟨by show 2 ≤ sizeLine; decide, fun tt htt => ?_⟩
          refine ⟨tt, _, rfl, SqT.of upd_same, rfl, _, _, rfl, _, _, rfl, rfl, ?_⟩
          exact hnx _ _ ⟨g, ps, rs, f, kvs, f2, _, _, _, .int 0, rfl, S3.go (same_new htt), hin, hg, .int 0, .int 0, Eas.int _ _⟩
    · rintro σ H1 ⟨v1, v8, v9, v10, v11, v12, g, ps, rs, f, kvs, f2, rfl, S, hin, hg⟩
      exact k H1
end
set_option maxRecDepth 100000 in
theorem all_mk {l : PySem.W.OpenLaw} {w : World} {K : PySem.W.Frag} {h : Heap} {mg : Str → Option Value} {fa : Addr} (X : K.In h) (G : h.Ns mainGlobals mg) (hfa : mg "law" = some (.ref fa))
    {a_BOUNDS : Addr}
    {a_BOUNDS_0 : Addr} {qd_BOUNDS_0 : Option Addr} {qn_BOUNDS_0 : Nat} {qs_BOUNDS_0 : Array (Option Value)} {qt_BOUNDS_0_0 : Tok} {qt_BOUNDS_0_1 : Tok} {qt_BOUNDS_0_2 : Tok}
    {a_BOUNDS_1 : Addr} {qd_BOUNDS_1 : Option Addr} {qn_BOUNDS_1 : Nat} {qs_BOUNDS_1 : Array (Option Value)} {qt_BOUNDS_1_0 : Tok} {qt_BOUNDS_1_1 : Tok} {qt_BOUNDS_1_2 : Tok}
    {a_BOUNDS_2 : Addr} {qd_BOUNDS_2 : Option Addr} {qn_BOUNDS_2 : Nat} {qs_BOUNDS_2 : Array (Option Value)} {qt_BOUNDS_2_0 : Tok} {qt_BOUNDS_2_1 : Tok} {qt_BOUNDS_2_2 : Tok}
    {a_BOUNDS_3 : Addr} {qd_BOUNDS_3 : Option Addr} {qn_BOUNDS_3 : Nat} {qs_BOUNDS_3 : Array (Option Value)} {qt_BOUNDS_3_0 : Tok} {qt_BOUNDS_3_1 : Tok} {qt_BOUNDS_3_2 : Tok}
    {a_BOUNDS_4 : Addr} {qd_BOUNDS_4 : Option Addr} {qn_BOUNDS_4 : Nat} {qs_BOUNDS_4 : Array (Option Value)} {qt_BOUNDS_4_0 : Tok} {qt_BOUNDS_4_1 : Tok} {qt_BOUNDS_4_2 : Tok}
    {qd_BOUNDS : Option Addr} {qn_BOUNDS : Nat} {qs_BOUNDS : Array (Option Value)} 
    {a_KINDS : Addr}
    {qd_KINDS : Option Addr} {qn_KINDS : Nat} {qs_KINDS : Array (Option Value)} {qt_KINDS_0 : Tok} {qt_KINDS_1 : Tok}
    {t_MOST_COLUMNS : Tok}
    {t_MOST_LETTERS : Tok}
    {t_MOST_NUMBER : Tok}
    {t_MOST_ROWS : Tok}
    {a_STORE_KINDS : Addr}
    {qd_STORE_KINDS : Option Addr} {qn_STORE_KINDS : Nat} {qs_STORE_KINDS : Array (Option Value)} {qt_STORE_KINDS_0 : Tok} {qt_STORE_KINDS_1 : Tok} {qt_STORE_KINDS_2 : Tok}
    {a_Heap : Addr}
    {a_Store : Addr}
    {a_Shape : Addr}
    {f0 : Addr} {od0 an0 : Option Addr} {sl0 : Array (Option Value)} {oc0 kV0 dc0 pm0 cd0 ct0 : Value}
    {f1 : Addr} {od1 an1 : Option Addr} {sl1 : Array (Option Value)} {oc1 kV1 dc1 pm1 cd1 ct1 : Value}
    {f2 : Addr} {od2 an2 : Option Addr} {sl2 : Array (Option Value)} {oc2 kV2 dc2 pm2 cd2 ct2 : Value}
    {f3 : Addr} {od3 an3 : Option Addr} {sl3 : Array (Option Value)} {oc3 kV3 dc3 pm3 cd3 ct3 : Value}
    {f4 : Addr} {od4 an4 : Option Addr} {sl4 : Array (Option Value)} {oc4 kV4 dc4 pm4 cd4 ct4 : Value}
    {f5 : Addr} {od5 an5 : Option Addr} {sl5 : Array (Option Value)} {oc5 kV5 dc5 pm5 cd5 ct5 : Value}
    {f6 : Addr} {od6 an6 : Option Addr} {sl6 : Array (Option Value)} {oc6 kV6 dc6 pm6 cd6 ct6 : Value}
    {f7 : Addr} {od7 an7 : Option Addr} {sl7 : Array (Option Value)} {oc7 kV7 dc7 pm7 cd7 ct7 : Value}
    {f8 : Addr} {od8 an8 : Option Addr} {sl8 : Array (Option Value)} {oc8 kV8 dc8 pm8 cd8 ct8 : Value}
    {f9 : Addr} {od9 an9 : Option Addr} {sl9 : Array (Option Value)} {oc9 kV9 dc9 pm9 cd9 ct9 : Value}
    {f10 : Addr} {od10 an10 : Option Addr} {sl10 : Array (Option Value)} {oc10 kV10 dc10 pm10 cd10 ct10 : Value}
    {f11 : Addr} {od11 an11 : Option Addr} {sl11 : Array (Option Value)} {oc11 kV11 dc11 pm11 cd11 ct11 : Value}
    {f12 : Addr} {od12 an12 : Option Addr} {sl12 : Array (Option Value)} {oc12 kV12 dc12 pm12 cd12 ct12 : Value}
    {f13 : Addr} {od13 an13 : Option Addr} {sl13 : Array (Option Value)} {oc13 kV13 dc13 pm13 cd13 ct13 : Value}
    {f14 : Addr} {od14 an14 : Option Addr} {sl14 : Array (Option Value)} {oc14 kV14 dc14 pm14 cd14 ct14 : Value}
    {f15 : Addr} {od15 an15 : Option Addr} {sl15 : Array (Option Value)} {oc15 kV15 dc15 pm15 cd15 ct15 : Value}
    {f16 : Addr} {od16 an16 : Option Addr} {sl16 : Array (Option Value)} {oc16 kV16 dc16 pm16 cd16 ct16 : Value}
    {f17 : Addr} {od17 an17 : Option Addr} {sl17 : Array (Option Value)} {oc17 kV17 dc17 pm17 cd17 ct17 : Value}
    {f18 : Addr} {od18 an18 : Option Addr} {sl18 : Array (Option Value)} {oc18 kV18 dc18 pm18 cd18 ct18 : Value}
    {f19 : Addr} {od19 an19 : Option Addr} {sl19 : Array (Option Value)} {oc19 kV19 dc19 pm19 cd19 ct19 : Value}
    {dA_Store___init__ kA_Store___init__ e_Store___init___key : Addr} {f20 : Addr} {od20 an20 : Option Addr} {sl20 : Array (Option Value)} {oc20 dc20 pm20 cd20 ct20 : Value}
    {dcc20 : Value} {dcd20 : Option Addr} {dcn20 : Nat} {dcs20 : Array (Option Value)}
    {kcc20 : Value} {kcd20 : Option Addr} {kcn20 : Nat} {kcs20 : Array (Option Value)}
    {td_Store___init___kind : Tok}
    {qd_e_Store___init___key : Option Addr} {qn_e_Store___init___key : Nat} {qs_e_Store___init___key : Array (Option Value)}
    {hk20_0 : Int} {tk20_0 : Tok}
    {f21 : Addr} {od21 an21 : Option Addr} {sl21 : Array (Option Value)} {oc21 kV21 dc21 pm21 cd21 ct21 : Value}
    {f22 : Addr} {od22 an22 : Option Addr} {sl22 : Array (Option Value)} {oc22 kV22 dc22 pm22 cd22 ct22 : Value}
    {f23 : Addr} {od23 an23 : Option Addr} {sl23 : Array (Option Value)} {oc23 kV23 dc23 pm23 cd23 ct23 : Value}
    {f24 : Addr} {od24 an24 : Option Addr} {sl24 : Array (Option Value)} {oc24 kV24 dc24 pm24 cd24 ct24 : Value}
    {f25 : Addr} {od25 an25 : Option Addr} {sl25 : Array (Option Value)} {oc25 kV25 dc25 pm25 cd25 ct25 : Value}
    {f26 : Addr} {od26 an26 : Option Addr} {sl26 : Array (Option Value)} {oc26 kV26 dc26 pm26 cd26 ct26 : Value}
    {f27 : Addr} {od27 an27 : Option Addr} {sl27 : Array (Option Value)} {oc27 kV27 dc27 pm27 cd27 ct27 : Value}
    {f28 : Addr} {od28 an28 : Option Addr} {sl28 : Array (Option Value)} {oc28 kV28 dc28 pm28 cd28 ct28 : Value}
    {f29 : Addr} {od29 an29 : Option Addr} {sl29 : Array (Option Value)} {oc29 kV29 dc29 pm29 cd29 ct29 : Value}
    {f30 : Addr} {od30 an30 : Option Addr} {sl30 : Array (Option Value)} {oc30 kV30 dc30 pm30 cd30 ct30 : Value}
    {kA_Shape___init__  : Addr} {f31 : Addr} {od31 an31 : Option Addr} {sl31 : Array (Option Value)} {oc31 dc31 pm31 cd31 ct31 : Value}
    {kcc31 : Value} {kcd31 : Option Addr} {kcn31 : Nat} {kcs31 : Array (Option Value)}
    {td_Shape___init___rows : Tok}
    {td_Shape___init___entries : Tok}
    {td_Shape___init___fan : Tok}
    {td_Shape___init___buckets : Tok}
    {td_Shape___init___bits : Tok}
    {hk31_0 : Int} {tk31_0 : Tok}
    {hk31_1 : Int} {tk31_1 : Tok}
    {hk31_2 : Int} {tk31_2 : Tok}
    {hk31_3 : Int} {tk31_3 : Tok}
    {hk31_4 : Int} {tk31_4 : Tok}
    {f32 : Addr} {od32 an32 : Option Addr} {sl32 : Array (Option Value)} {oc32 kV32 dc32 pm32 cd32 ct32 : Value}
    {p32 : Addr} {pr32 : List Value}
    {f33 : Addr} {od33 an33 : Option Addr} {sl33 : Array (Option Value)} {oc33 kV33 dc33 pm33 cd33 ct33 : Value}
    {f34 : Addr} {od34 an34 : Option Addr} {sl34 : Array (Option Value)} {oc34 kV34 dc34 pm34 cd34 ct34 : Value}
    {f35 : Addr} {od35 an35 : Option Addr} {sl35 : Array (Option Value)} {oc35 kV35 dc35 pm35 cd35 ct35 : Value}
    {f36 : Addr} {od36 an36 : Option Addr} {sl36 : Array (Option Value)} {oc36 kV36 dc36 pm36 cd36 ct36 : Value}
    {f37 : Addr} {od37 an37 : Option Addr} {sl37 : Array (Option Value)} {oc37 kV37 dc37 pm37 cd37 ct37 : Value}
    {f38 : Addr} {od38 an38 : Option Addr} {sl38 : Array (Option Value)} {oc38 kV38 dc38 pm38 cd38 ct38 : Value}
    {f39 : Addr} {od39 an39 : Option Addr} {sl39 : Array (Option Value)} {oc39 kV39 dc39 pm39 cd39 ct39 : Value}
    {f40 : Addr} {od40 an40 : Option Addr} {sl40 : Array (Option Value)} {oc40 kV40 dc40 pm40 cd40 ct40 : Value}
    {f41 : Addr} {od41 an41 : Option Addr} {sl41 : Array (Option Value)} {oc41 kV41 dc41 pm41 cd41 ct41 : Value}
    {f42 : Addr} {od42 an42 : Option Addr} {sl42 : Array (Option Value)} {oc42 kV42 dc42 pm42 cd42 ct42 : Value}
    {f43 : Addr} {od43 an43 : Option Addr} {sl43 : Array (Option Value)} {oc43 kV43 dc43 pm43 cd43 ct43 : Value}
    {f44 : Addr} {od44 an44 : Option Addr} {sl44 : Array (Option Value)} {oc44 kV44 dc44 pm44 cd44 ct44 : Value}
    {f45 : Addr} {od45 an45 : Option Addr} {sl45 : Array (Option Value)} {oc45 kV45 dc45 pm45 cd45 ct45 : Value}
    {f46 : Addr} {od46 an46 : Option Addr} {sl46 : Array (Option Value)} {oc46 kV46 dc46 pm46 cd46 ct46 : Value}
    (g_BOUNDS : PySem.W.nsIn K mainGlobals "BOUNDS" = some (some (.ref a_BOUNDS)))
    (q_BOUNDS : K.lookup a_BOUNDS = some ⟨.type "tuple", qd_BOUNDS, .seq #[.ref a_BOUNDS_0, .ref a_BOUNDS_1, .ref a_BOUNDS_2, .ref a_BOUNDS_3, .ref a_BOUNDS_4] qn_BOUNDS, qs_BOUNDS⟩)
    (q_BOUNDS_0 : K.lookup a_BOUNDS_0 = some ⟨.type "tuple", qd_BOUNDS_0, .seq #[.str "rows" qt_BOUNDS_0_0, .int 2 qt_BOUNDS_0_1, .int 8 qt_BOUNDS_0_2] qn_BOUNDS_0, qs_BOUNDS_0⟩)
    (q_BOUNDS_1 : K.lookup a_BOUNDS_1 = some ⟨.type "tuple", qd_BOUNDS_1, .seq #[.str "entries" qt_BOUNDS_1_0, .int 2 qt_BOUNDS_1_1, .int 8 qt_BOUNDS_1_2] qn_BOUNDS_1, qs_BOUNDS_1⟩)
    (q_BOUNDS_2 : K.lookup a_BOUNDS_2 = some ⟨.type "tuple", qd_BOUNDS_2, .seq #[.str "fan" qt_BOUNDS_2_0, .int 2 qt_BOUNDS_2_1, .int 8 qt_BOUNDS_2_2] qn_BOUNDS_2, qs_BOUNDS_2⟩)
    (q_BOUNDS_3 : K.lookup a_BOUNDS_3 = some ⟨.type "tuple", qd_BOUNDS_3, .seq #[.str "buckets" qt_BOUNDS_3_0, .int 1 qt_BOUNDS_3_1, .int 8 qt_BOUNDS_3_2] qn_BOUNDS_3, qs_BOUNDS_3⟩)
    (q_BOUNDS_4 : K.lookup a_BOUNDS_4 = some ⟨.type "tuple", qd_BOUNDS_4, .seq #[.str "bits" qt_BOUNDS_4_0, .int 2 qt_BOUNDS_4_1, .int 64 qt_BOUNDS_4_2] qn_BOUNDS_4, qs_BOUNDS_4⟩)
    (g_KINDS : PySem.W.nsIn K mainGlobals "KINDS" = some (some (.ref a_KINDS)))
    (q_KINDS : K.lookup a_KINDS = some ⟨.type "tuple", qd_KINDS, .seq #[.str "number" qt_KINDS_0, .str "word" qt_KINDS_1] qn_KINDS, qs_KINDS⟩)
    (g_MOST_COLUMNS : PySem.W.nsIn K mainGlobals "MOST_COLUMNS" = some (some (.int 6 t_MOST_COLUMNS)))
    (g_MOST_LETTERS : PySem.W.nsIn K mainGlobals "MOST_LETTERS" = some (some (.int 8 t_MOST_LETTERS)))
    (g_MOST_NUMBER : PySem.W.nsIn K mainGlobals "MOST_NUMBER" = some (some (.int 999 t_MOST_NUMBER)))
    (g_MOST_ROWS : PySem.W.nsIn K mainGlobals "MOST_ROWS" = some (some (.int 60 t_MOST_ROWS)))
    (g_STORE_KINDS : PySem.W.nsIn K mainGlobals "STORE_KINDS" = some (some (.ref a_STORE_KINDS)))
    (q_STORE_KINDS : K.lookup a_STORE_KINDS = some ⟨.type "tuple", qd_STORE_KINDS, .seq #[.str "heap" qt_STORE_KINDS_0, .str "sorted" qt_STORE_KINDS_1, .str "hashed" qt_STORE_KINDS_2] qn_STORE_KINDS, qs_STORE_KINDS⟩)
    (z_abs : PySem.W.nsIn K mainGlobals "abs" = some none)
    (z_all : PySem.W.nsIn K mainGlobals "all" = some none)
    (z_bool : PySem.W.nsIn K mainGlobals "bool" = some none)
    (z_enumerate : PySem.W.nsIn K mainGlobals "enumerate" = some none)
    (z_int : PySem.W.nsIn K mainGlobals "int" = some none)
    (z_isinstance : PySem.W.nsIn K mainGlobals "isinstance" = some none)
    (z_len : PySem.W.nsIn K mainGlobals "len" = some none)
    (z_list : PySem.W.nsIn K mainGlobals "list" = some none)
    (z_max : PySem.W.nsIn K mainGlobals "max" = some none)
    (z_min : PySem.W.nsIn K mainGlobals "min" = some none)
    (z_range : PySem.W.nsIn K mainGlobals "range" = some none)
    (z_sorted : PySem.W.nsIn K mainGlobals "sorted" = some none)
    (z_str : PySem.W.nsIn K mainGlobals "str" = some none)
    (z_tuple : PySem.W.nsIn K mainGlobals "tuple" = some none)
    (z_zip : PySem.W.nsIn K mainGlobals "zip" = some none)
    (ac_Heap : PySem.W.nsIn K mainGlobals "Heap" = some (some (.ref a_Heap)))
    (pg_Heap : PySem.W.plainGet K a_Heap Str.empty = true)
    (hd_Heap : PySem.W.hasDictIn K a_Heap = true)
    (po_Heap : PySem.W.plainOver K a_Heap = true)
    (sa_Heap : PySem.W.findIn K (.ref a_Heap) "__setattr__" = some (some (.builtin "object.__setattr__")))
    (mk_Heap : PySem.W.makesIn K a_Heap = true)
    (kc_Heap : PySem.W.keepIn K (.ref a_Heap) = true)
    (na_Heap_most : PySem.W.findIn K (.ref a_Heap) "most" = some none)
    (na_Heap_held : PySem.W.findIn K (.ref a_Heap) "held" = some none)
    (ac_Store : PySem.W.nsIn K mainGlobals "Store" = some (some (.ref a_Store)))
    (pg_Store : PySem.W.plainGet K a_Store Str.empty = true)
    (hd_Store : PySem.W.hasDictIn K a_Store = true)
    (po_Store : PySem.W.plainOver K a_Store = true)
    (sa_Store : PySem.W.findIn K (.ref a_Store) "__setattr__" = some (some (.builtin "object.__setattr__")))
    (mk_Store : PySem.W.makesIn K a_Store = true)
    (kc_Store : PySem.W.keepIn K (.ref a_Store) = true)
    (na_Store_shape : PySem.W.findIn K (.ref a_Store) "shape" = some none)
    (na_Store_form : PySem.W.findIn K (.ref a_Store) "form" = some none)
    (na_Store_kind : PySem.W.findIn K (.ref a_Store) "kind" = some none)
    (na_Store_key : PySem.W.findIn K (.ref a_Store) "key" = some none)
    (na_Store_holder : PySem.W.findIn K (.ref a_Store) "holder" = some none)
    (na_Store_by_number : PySem.W.findIn K (.ref a_Store) "by_number" = some none)
    (na_Store_given : PySem.W.findIn K (.ref a_Store) "given" = some none)
    (ac_Shape : PySem.W.nsIn K mainGlobals "Shape" = some (some (.ref a_Shape)))
    (pg_Shape : PySem.W.plainGet K a_Shape Str.empty = true)
    (hd_Shape : PySem.W.hasDictIn K a_Shape = true)
    (po_Shape : PySem.W.plainOver K a_Shape = true)
    (sa_Shape : PySem.W.findIn K (.ref a_Shape) "__setattr__" = some (some (.builtin "object.__setattr__")))
    (mk_Shape : PySem.W.makesIn K a_Shape = true)
    (kc_Shape : PySem.W.keepIn K (.ref a_Shape) = true)
    (na_Shape_measures : PySem.W.findIn K (.ref a_Shape) "measures" = some none)
    (a0 : PySem.W.nsIn K mainGlobals "first_with_room" = some (some (.ref f0)))
    (l0 : K.lookup f0 = some ⟨oc0, od0, .func (PySem.W.fnOf "first_with_room" "first_with_room" (defArgs s_first_with_room) (defBody s_first_with_room) (defScope s_first_with_room) .none kV0 dc0 pm0 an0 cd0 ct0), sl0⟩)
    (c0 : PySem.W.codeIn K cd0 "first_with_room" = true)
    (k0 : PySem.W.keepIn K (.ref f0) = true)
    (a1 : PySem.W.nsIn K mainGlobals "page_with" = some (some (.ref f1)))
    (l1 : K.lookup f1 = some ⟨oc1, od1, .func (PySem.W.fnOf "page_with" "page_with" (defArgs s_page_with) (defBody s_page_with) (defScope s_page_with) .none kV1 dc1 pm1 an1 cd1 ct1), sl1⟩)
    (c1 : PySem.W.codeIn K cd1 "page_with" = true)
    (k1 : PySem.W.keepIn K (.ref f1) = true)
    (a2 : PySem.W.nsIn K mainGlobals "copied" = some (some (.ref f2)))
    (l2 : K.lookup f2 = some ⟨oc2, od2, .func (PySem.W.fnOf "copied" "copied" (defArgs s_copied) (defBody s_copied) (defScope s_copied) .none kV2 dc2 pm2 an2 cd2 ct2), sl2⟩)
    (c2 : PySem.W.codeIn K cd2 "copied" = true)
    (k2 : PySem.W.keepIn K (.ref f2) = true)
    (a3 : PySem.W.nsIn K mainGlobals "is_whole" = some (some (.ref f3)))
    (l3 : K.lookup f3 = some ⟨oc3, od3, .func (PySem.W.fnOf "is_whole" "is_whole" (defArgs s_is_whole) (defBody s_is_whole) (defScope s_is_whole) .none kV3 dc3 pm3 an3 cd3 ct3), sl3⟩)
    (c3 : PySem.W.codeIn K cd3 "is_whole" = true)
    (k3 : PySem.W.keepIn K (.ref f3) = true)
    (a4 : PySem.W.nsIn K mainGlobals "is_word" = some (some (.ref f4)))
    (l4 : K.lookup f4 = some ⟨oc4, od4, .func (PySem.W.fnOf "is_word" "is_word" (defArgs s_is_word) (defBody s_is_word) (defScope s_is_word) .none kV4 dc4 pm4 an4 cd4 ct4), sl4⟩)
    (c4 : PySem.W.codeIn K cd4 "is_word" = true)
    (k4 : PySem.W.keepIn K (.ref f4) = true)
    (a5 : PySem.W.nsIn K mainGlobals "is_value" = some (some (.ref f5)))
    (l5 : K.lookup f5 = some ⟨oc5, od5, .func (PySem.W.fnOf "is_value" "is_value" (defArgs s_is_value) (defBody s_is_value) (defScope s_is_value) .none kV5 dc5 pm5 an5 cd5 ct5), sl5⟩)
    (c5 : PySem.W.codeIn K cd5 "is_value" = true)
    (k5 : PySem.W.keepIn K (.ref f5) = true)
    (a6 : PySem.W.nsIn K mainGlobals "is_column" = some (some (.ref f6)))
    (l6 : K.lookup f6 = some ⟨oc6, od6, .func (PySem.W.fnOf "is_column" "is_column" (defArgs s_is_column) (defBody s_is_column) (defScope s_is_column) .none kV6 dc6 pm6 an6 cd6 ct6), sl6⟩)
    (c6 : PySem.W.codeIn K cd6 "is_column" = true)
    (k6 : PySem.W.keepIn K (.ref f6) = true)
    (a7 : PySem.W.nsIn K mainGlobals "is_form" = some (some (.ref f7)))
    (l7 : K.lookup f7 = some ⟨oc7, od7, .func (PySem.W.fnOf "is_form" "is_form" (defArgs s_is_form) (defBody s_is_form) (defScope s_is_form) .none kV7 dc7 pm7 an7 cd7 ct7), sl7⟩)
    (c7 : PySem.W.codeIn K cd7 "is_form" = true)
    (k7 : PySem.W.keepIn K (.ref f7) = true)
    (a8 : PySem.W.nsIn K mainGlobals "is_row" = some (some (.ref f8)))
    (l8 : K.lookup f8 = some ⟨oc8, od8, .func (PySem.W.fnOf "is_row" "is_row" (defArgs s_is_row) (defBody s_is_row) (defScope s_is_row) .none kV8 dc8 pm8 an8 cd8 ct8), sl8⟩)
    (c8 : PySem.W.codeIn K cd8 "is_row" = true)
    (k8 : PySem.W.keepIn K (.ref f8) = true)
    (a9 : PySem.W.nsIn K mainGlobals "column_names" = some (some (.ref f9)))
    (l9 : K.lookup f9 = some ⟨oc9, od9, .func (PySem.W.fnOf "column_names" "column_names" (defArgs s_column_names) (defBody s_column_names) (defScope s_column_names) .none kV9 dc9 pm9 an9 cd9 ct9), sl9⟩)
    (c9 : PySem.W.codeIn K cd9 "column_names" = true)
    (k9 : PySem.W.keepIn K (.ref f9) = true)
    (a10 : PySem.W.nsIn K mainGlobals "picked" = some (some (.ref f10)))
    (l10 : K.lookup f10 = some ⟨oc10, od10, .func (PySem.W.fnOf "picked" "picked" (defArgs s_picked) (defBody s_picked) (defScope s_picked) .none kV10 dc10 pm10 an10 cd10 ct10), sl10⟩)
    (c10 : PySem.W.codeIn K cd10 "picked" = true)
    (k10 : PySem.W.keepIn K (.ref f10) = true)
    (a11 : PySem.W.nsIn K mainGlobals "changed" = some (some (.ref f11)))
    (l11 : K.lookup f11 = some ⟨oc11, od11, .func (PySem.W.fnOf "changed" "changed" (defArgs s_changed) (defBody s_changed) (defScope s_changed) .none kV11 dc11 pm11 an11 cd11 ct11), sl11⟩)
    (c11 : PySem.W.codeIn K cd11 "changed" = true)
    (k11 : PySem.W.keepIn K (.ref f11) = true)
    (a12 : PySem.W.findIn K (.ref a_Heap) "__init__" = some (some (.ref f12)))
    (i12 : PySem.W.isFn K (.ref f12) = true)
    (l12 : K.lookup f12 = some ⟨oc12, od12, .func (PySem.W.fnOf "__init__" "Heap.__init__" (defArgs s_Heap___init__) (defBody s_Heap___init__) (defScope s_Heap___init__) .none kV12 dc12 pm12 an12 cd12 ct12), sl12⟩)
    (c12 : PySem.W.codeIn K cd12 "Heap.__init__" = true)
    (k12 : PySem.W.keepIn K (.ref f12) = true)
    (a13 : PySem.W.findIn K (.ref a_Heap) "put" = some (some (.ref f13)))
    (i13 : PySem.W.isFn K (.ref f13) = true)
    (l13 : K.lookup f13 = some ⟨oc13, od13, .func (PySem.W.fnOf "put" "Heap.put" (defArgs s_Heap_put) (defBody s_Heap_put) (defScope s_Heap_put) .none kV13 dc13 pm13 an13 cd13 ct13), sl13⟩)
    (c13 : PySem.W.codeIn K cd13 "Heap.put" = true)
    (k13 : PySem.W.keepIn K (.ref f13) = true)
    (a14 : PySem.W.findIn K (.ref a_Heap) "drop" = some (some (.ref f14)))
    (i14 : PySem.W.isFn K (.ref f14) = true)
    (l14 : K.lookup f14 = some ⟨oc14, od14, .func (PySem.W.fnOf "drop" "Heap.drop" (defArgs s_Heap_drop) (defBody s_Heap_drop) (defScope s_Heap_drop) .none kV14 dc14 pm14 an14 cd14 ct14), sl14⟩)
    (c14 : PySem.W.codeIn K cd14 "Heap.drop" = true)
    (k14 : PySem.W.keepIn K (.ref f14) = true)
    (a15 : PySem.W.findIn K (.ref a_Heap) "pages" = some (some (.ref f15)))
    (i15 : PySem.W.isFn K (.ref f15) = true)
    (l15 : K.lookup f15 = some ⟨oc15, od15, .func (PySem.W.fnOf "pages" "Heap.pages" (defArgs s_Heap_pages) (defBody s_Heap_pages) (defScope s_Heap_pages) .none kV15 dc15 pm15 an15 cd15 ct15), sl15⟩)
    (c15 : PySem.W.codeIn K cd15 "Heap.pages" = true)
    (k15 : PySem.W.keepIn K (.ref f15) = true)
    (a16 : PySem.W.nsIn K mainGlobals "is_key" = some (some (.ref f16)))
    (l16 : K.lookup f16 = some ⟨oc16, od16, .func (PySem.W.fnOf "is_key" "is_key" (defArgs s_is_key) (defBody s_is_key) (defScope s_is_key) .none kV16 dc16 pm16 an16 cd16 ct16), sl16⟩)
    (c16 : PySem.W.codeIn K cd16 "is_key" = true)
    (k16 : PySem.W.keepIn K (.ref f16) = true)
    (a17 : PySem.W.nsIn K mainGlobals "wrong_part" = some (some (.ref f17)))
    (l17 : K.lookup f17 = some ⟨oc17, od17, .func (PySem.W.fnOf "wrong_part" "wrong_part" (defArgs s_wrong_part) (defBody s_wrong_part) (defScope s_wrong_part) .none kV17 dc17 pm17 an17 cd17 ct17), sl17⟩)
    (c17 : PySem.W.codeIn K cd17 "wrong_part" = true)
    (k17 : PySem.W.keepIn K (.ref f17) = true)
    (a18 : PySem.W.nsIn K mainGlobals "empty_holder" = some (some (.ref f18)))
    (l18 : K.lookup f18 = some ⟨oc18, od18, .func (PySem.W.fnOf "empty_holder" "empty_holder" (defArgs s_empty_holder) (defBody s_empty_holder) (defScope s_empty_holder) .none kV18 dc18 pm18 an18 cd18 ct18), sl18⟩)
    (c18 : PySem.W.codeIn K cd18 "empty_holder" = true)
    (k18 : PySem.W.keepIn K (.ref f18) = true)
    (a19 : PySem.W.nsIn K mainGlobals "pages_of_things" = some (some (.ref f19)))
    (l19 : K.lookup f19 = some ⟨oc19, od19, .func (PySem.W.fnOf "pages_of_things" "pages_of_things" (defArgs s_pages_of_things) (defBody s_pages_of_things) (defScope s_pages_of_things) .none kV19 dc19 pm19 an19 cd19 ct19), sl19⟩)
    (c19 : PySem.W.codeIn K cd19 "pages_of_things" = true)
    (k19 : PySem.W.keepIn K (.ref f19) = true)
    (a20 : PySem.W.findIn K (.ref a_Store) "__init__" = some (some (.ref f20)))
    (i20 : PySem.W.isFn K (.ref f20) = true)
    (l20 : K.lookup f20 = some ⟨oc20, od20, .func (PySem.W.fnOf "__init__" "Store.__init__" (defArgs s_Store___init__) (defBody s_Store___init__) (defScope s_Store___init__) (.ref dA_Store___init__) (.ref kA_Store___init__) dc20 pm20 an20 cd20 ct20), sl20⟩)
    (dd20 : K.lookup dA_Store___init__ = some ⟨dcc20, dcd20, .seq #[(Value.str "heap" td_Store___init___kind)] dcn20, dcs20⟩)
    (kk20 : K.lookup kA_Store___init__ = some ⟨kcc20, kcd20, .dict #[⟨hk20_0, .str "key" tk20_0, Value.ref e_Store___init___key⟩] kcn20, kcs20⟩)
    (qe_Store___init___key : K.lookup e_Store___init___key = some ⟨.type "tuple", qd_e_Store___init___key, .seq #[] qn_e_Store___init___key, qs_e_Store___init___key⟩)
    (c20 : PySem.W.codeIn K cd20 "Store.__init__" = true)
    (k20 : PySem.W.keepIn K (.ref f20) = true)
    (a21 : PySem.W.findIn K (.ref a_Store) "thing_of" = some (some (.ref f21)))
    (i21 : PySem.W.isFn K (.ref f21) = true)
    (l21 : K.lookup f21 = some ⟨oc21, od21, .func (PySem.W.fnOf "thing_of" "Store.thing_of" (defArgs s_Store_thing_of) (defBody s_Store_thing_of) (defScope s_Store_thing_of) .none kV21 dc21 pm21 an21 cd21 ct21), sl21⟩)
    (c21 : PySem.W.codeIn K cd21 "Store.thing_of" = true)
    (k21 : PySem.W.keepIn K (.ref f21) = true)
    (a22 : PySem.W.findIn K (.ref a_Store) "put" = some (some (.ref f22)))
    (i22 : PySem.W.isFn K (.ref f22) = true)
    (l22 : K.lookup f22 = some ⟨oc22, od22, .func (PySem.W.fnOf "put" "Store.put" (defArgs s_Store_put) (defBody s_Store_put) (defScope s_Store_put) .none kV22 dc22 pm22 an22 cd22 ct22), sl22⟩)
    (c22 : PySem.W.codeIn K cd22 "Store.put" = true)
    (k22 : PySem.W.keepIn K (.ref f22) = true)
    (a23 : PySem.W.findIn K (.ref a_Store) "check" = some (some (.ref f23)))
    (i23 : PySem.W.isFn K (.ref f23) = true)
    (l23 : K.lookup f23 = some ⟨oc23, od23, .func (PySem.W.fnOf "check" "Store.check" (defArgs s_Store_check) (defBody s_Store_check) (defScope s_Store_check) .none kV23 dc23 pm23 an23 cd23 ct23), sl23⟩)
    (c23 : PySem.W.codeIn K cd23 "Store.check" = true)
    (k23 : PySem.W.keepIn K (.ref f23) = true)
    (a24 : PySem.W.findIn K (.ref a_Store) "lay" = some (some (.ref f24)))
    (i24 : PySem.W.isFn K (.ref f24) = true)
    (l24 : K.lookup f24 = some ⟨oc24, od24, .func (PySem.W.fnOf "lay" "Store.lay" (defArgs s_Store_lay) (defBody s_Store_lay) (defScope s_Store_lay) .none kV24 dc24 pm24 an24 cd24 ct24), sl24⟩)
    (c24 : PySem.W.codeIn K cd24 "Store.lay" = true)
    (k24 : PySem.W.keepIn K (.ref f24) = true)
    (a25 : PySem.W.findIn K (.ref a_Store) "drop" = some (some (.ref f25)))
    (i25 : PySem.W.isFn K (.ref f25) = true)
    (l25 : K.lookup f25 = some ⟨oc25, od25, .func (PySem.W.fnOf "drop" "Store.drop" (defArgs s_Store_drop) (defBody s_Store_drop) (defScope s_Store_drop) .none kV25 dc25 pm25 an25 cd25 ct25), sl25⟩)
    (c25 : PySem.W.codeIn K cd25 "Store.drop" = true)
    (k25 : PySem.W.keepIn K (.ref f25) = true)
    (a26 : PySem.W.findIn K (.ref a_Store) "change" = some (some (.ref f26)))
    (i26 : PySem.W.isFn K (.ref f26) = true)
    (l26 : K.lookup f26 = some ⟨oc26, od26, .func (PySem.W.fnOf "change" "Store.change" (defArgs s_Store_change) (defBody s_Store_change) (defScope s_Store_change) .none kV26 dc26 pm26 an26 cd26 ct26), sl26⟩)
    (c26 : PySem.W.codeIn K cd26 "Store.change" = true)
    (k26 : PySem.W.keepIn K (.ref f26) = true)
    (a27 : PySem.W.findIn K (.ref a_Store) "pages" = some (some (.ref f27)))
    (i27 : PySem.W.isFn K (.ref f27) = true)
    (l27 : K.lookup f27 = some ⟨oc27, od27, .func (PySem.W.fnOf "pages" "Store.pages" (defArgs s_Store_pages) (defBody s_Store_pages) (defScope s_Store_pages) .none kV27 dc27 pm27 an27 cd27 ct27), sl27⟩)
    (c27 : PySem.W.codeIn K cd27 "Store.pages" = true)
    (k27 : PySem.W.keepIn K (.ref f27) = true)
    (a28 : PySem.W.findIn K (.ref a_Store) "all_rows" = some (some (.ref f28)))
    (i28 : PySem.W.isFn K (.ref f28) = true)
    (l28 : K.lookup f28 = some ⟨oc28, od28, .func (PySem.W.fnOf "all_rows" "Store.all_rows" (defArgs s_Store_all_rows) (defBody s_Store_all_rows) (defScope s_Store_all_rows) .none kV28 dc28 pm28 an28 cd28 ct28), sl28⟩)
    (c28 : PySem.W.codeIn K cd28 "Store.all_rows" = true)
    (k28 : PySem.W.keepIn K (.ref f28) = true)
    (a29 : PySem.W.findIn K (.ref a_Store) "row" = some (some (.ref f29)))
    (i29 : PySem.W.isFn K (.ref f29) = true)
    (l29 : K.lookup f29 = some ⟨oc29, od29, .func (PySem.W.fnOf "row" "Store.row" (defArgs s_Store_row) (defBody s_Store_row) (defScope s_Store_row) .none kV29 dc29 pm29 an29 cd29 ct29), sl29⟩)
    (c29 : PySem.W.codeIn K cd29 "Store.row" = true)
    (k29 : PySem.W.keepIn K (.ref f29) = true)
    (a30 : PySem.W.nsIn K mainGlobals "first_wrong" = some (some (.ref f30)))
    (l30 : K.lookup f30 = some ⟨oc30, od30, .func (PySem.W.fnOf "first_wrong" "first_wrong" (defArgs s_first_wrong) (defBody s_first_wrong) (defScope s_first_wrong) .none kV30 dc30 pm30 an30 cd30 ct30), sl30⟩)
    (c30 : PySem.W.codeIn K cd30 "first_wrong" = true)
    (k30 : PySem.W.keepIn K (.ref f30) = true)
    (a31 : PySem.W.findIn K (.ref a_Shape) "__init__" = some (some (.ref f31)))
    (i31 : PySem.W.isFn K (.ref f31) = true)
    (l31 : K.lookup f31 = some ⟨oc31, od31, .func (PySem.W.fnOf "__init__" "Shape.__init__" (defArgs s_Shape___init__) (defBody s_Shape___init__) (defScope s_Shape___init__) .none (.ref kA_Shape___init__) dc31 pm31 an31 cd31 ct31), sl31⟩)
    (kk31 : K.lookup kA_Shape___init__ = some ⟨kcc31, kcd31, .dict #[⟨hk31_0, .str "rows" tk31_0, (Value.int 4 td_Shape___init___rows)⟩, ⟨hk31_1, .str "entries" tk31_1, (Value.int 4 td_Shape___init___entries)⟩, ⟨hk31_2, .str "fan" tk31_2, (Value.int 3 td_Shape___init___fan)⟩, ⟨hk31_3, .str "buckets" tk31_3, (Value.int 4 td_Shape___init___buckets)⟩, ⟨hk31_4, .str "bits" tk31_4, (Value.int 16 td_Shape___init___bits)⟩] kcn31, kcs31⟩)
    (c31 : PySem.W.codeIn K cd31 "Shape.__init__" = true)
    (k31 : PySem.W.keepIn K (.ref f31) = true)
    (pa32 : PySem.W.findIn K (.ref a_Shape) "rows" = some (some (.ref p32)))
    (pb32 : PySem.W.specialIn K (.ref p32) "__get__" = some (some (.builtin "property.__get__")))
    (pc32 : PySem.W.takesIn K (.ref p32) = some true)
    (pd32 : PySem.W.recIn K p32 "property" = some (.ref f32 :: pr32))
    (l32 : K.lookup f32 = some ⟨oc32, od32, .func (PySem.W.fnOf "rows" "Shape.rows" (defArgs s_Shape_rows) (defBody s_Shape_rows) (defScope s_Shape_rows) .none kV32 dc32 pm32 an32 cd32 ct32), sl32⟩)
    (c32 : PySem.W.codeIn K cd32 "Shape.rows" = true)
    (k32 : PySem.W.keepIn K (.ref f32) = true)
    (a33 : PySem.W.nsIn K mainGlobals "_law_bag" = some (some (.ref f33)))
    (l33 : K.lookup f33 = some ⟨oc33, od33, .func (PySem.W.fnOf "_law_bag" "_law_bag" (defArgs s_law_bag) (defBody s_law_bag) (defScope s_law_bag) .none kV33 dc33 pm33 an33 cd33 ct33), sl33⟩)
    (c33 : PySem.W.codeIn K cd33 "_law_bag" = true)
    (k33 : PySem.W.keepIn K (.ref f33) = true)
    (a34 : PySem.W.nsIn K mainGlobals "_law_take" = some (some (.ref f34)))
    (l34 : K.lookup f34 = some ⟨oc34, od34, .func (PySem.W.fnOf "_law_take" "_law_take" (defArgs s_law_take) (defBody s_law_take) (defScope s_law_take) .none kV34 dc34 pm34 an34 cd34 ct34), sl34⟩)
    (c34 : PySem.W.codeIn K cd34 "_law_take" = true)
    (k34 : PySem.W.keepIn K (.ref f34) = true)
    (a35 : PySem.W.nsIn K mainGlobals "_law_names" = some (some (.ref f35)))
    (l35 : K.lookup f35 = some ⟨oc35, od35, .func (PySem.W.fnOf "_law_names" "_law_names" (defArgs s_law_names) (defBody s_law_names) (defScope s_law_names) .none kV35 dc35 pm35 an35 cd35 ct35), sl35⟩)
    (c35 : PySem.W.codeIn K cd35 "_law_names" = true)
    (k35 : PySem.W.keepIn K (.ref f35) = true)
    (a36 : PySem.W.nsIn K mainGlobals "_law_word" = some (some (.ref f36)))
    (l36 : K.lookup f36 = some ⟨oc36, od36, .func (PySem.W.fnOf "_law_word" "_law_word" (defArgs s_law_word) (defBody s_law_word) (defScope s_law_word) .none kV36 dc36 pm36 an36 cd36 ct36), sl36⟩)
    (c36 : PySem.W.codeIn K cd36 "_law_word" = true)
    (k36 : PySem.W.keepIn K (.ref f36) = true)
    (a37 : PySem.W.nsIn K mainGlobals "_law_value" = some (some (.ref f37)))
    (l37 : K.lookup f37 = some ⟨oc37, od37, .func (PySem.W.fnOf "_law_value" "_law_value" (defArgs s_law_value) (defBody s_law_value) (defScope s_law_value) .none kV37 dc37 pm37 an37 cd37 ct37), sl37⟩)
    (c37 : PySem.W.codeIn K cd37 "_law_value" = true)
    (k37 : PySem.W.keepIn K (.ref f37) = true)
    (a38 : PySem.W.nsIn K mainGlobals "_law_form" = some (some (.ref f38)))
    (l38 : K.lookup f38 = some ⟨oc38, od38, .func (PySem.W.fnOf "_law_form" "_law_form" (defArgs s_law_form) (defBody s_law_form) (defScope s_law_form) .none kV38 dc38 pm38 an38 cd38 ct38), sl38⟩)
    (c38 : PySem.W.codeIn K cd38 "_law_form" = true)
    (k38 : PySem.W.keepIn K (.ref f38) = true)
    (a39 : PySem.W.nsIn K mainGlobals "_law_row" = some (some (.ref f39)))
    (l39 : K.lookup f39 = some ⟨oc39, od39, .func (PySem.W.fnOf "_law_row" "_law_row" (defArgs s_law_row) (defBody s_law_row) (defScope s_law_row) .none kV39 dc39 pm39 an39 cd39 ct39), sl39⟩)
    (c39 : PySem.W.codeIn K cd39 "_law_row" = true)
    (k39 : PySem.W.keepIn K (.ref f39) = true)
    (a40 : PySem.W.nsIn K mainGlobals "_law_heap_put" = some (some (.ref f40)))
    (l40 : K.lookup f40 = some ⟨oc40, od40, .func (PySem.W.fnOf "_law_heap_put" "_law_heap_put" (defArgs s_law_heap_put) (defBody s_law_heap_put) (defScope s_law_heap_put) .none kV40 dc40 pm40 an40 cd40 ct40), sl40⟩)
    (c40 : PySem.W.codeIn K cd40 "_law_heap_put" = true)
    (k40 : PySem.W.keepIn K (.ref f40) = true)
    (a41 : PySem.W.nsIn K mainGlobals "_law_heap_drop" = some (some (.ref f41)))
    (l41 : K.lookup f41 = some ⟨oc41, od41, .func (PySem.W.fnOf "_law_heap_drop" "_law_heap_drop" (defArgs s_law_heap_drop) (defBody s_law_heap_drop) (defScope s_law_heap_drop) .none kV41 dc41 pm41 an41 cd41 ct41), sl41⟩)
    (c41 : PySem.W.codeIn K cd41 "_law_heap_drop" = true)
    (k41 : PySem.W.keepIn K (.ref f41) = true)
    (a42 : PySem.W.nsIn K mainGlobals "_law_same" = some (some (.ref f42)))
    (l42 : K.lookup f42 = some ⟨oc42, od42, .func (PySem.W.fnOf "_law_same" "_law_same" (defArgs s_law_same) (defBody s_law_same) (defScope s_law_same) .none kV42 dc42 pm42 an42 cd42 ct42), sl42⟩)
    (c42 : PySem.W.codeIn K cd42 "_law_same" = true)
    (k42 : PySem.W.keepIn K (.ref f42) = true)
    (a43 : PySem.W.nsIn K mainGlobals "_law_edit" = some (some (.ref f43)))
    (l43 : K.lookup f43 = some ⟨oc43, od43, .func (PySem.W.fnOf "_law_edit" "_law_edit" (defArgs s_law_edit) (defBody s_law_edit) (defScope s_law_edit) .none kV43 dc43 pm43 an43 cd43 ct43), sl43⟩)
    (c43 : PySem.W.codeIn K cd43 "_law_edit" = true)
    (k43 : PySem.W.keepIn K (.ref f43) = true)
    (a44 : PySem.W.nsIn K mainGlobals "_law_changed" = some (some (.ref f44)))
    (l44 : K.lookup f44 = some ⟨oc44, od44, .func (PySem.W.fnOf "_law_changed" "_law_changed" (defArgs s_law_changed) (defBody s_law_changed) (defScope s_law_changed) .none kV44 dc44 pm44 an44 cd44 ct44), sl44⟩)
    (c44 : PySem.W.codeIn K cd44 "_law_changed" = true)
    (k44 : PySem.W.keepIn K (.ref f44) = true)
    (a45 : PySem.W.nsIn K mainGlobals "_law_like" = some (some (.ref f45)))
    (l45 : K.lookup f45 = some ⟨oc45, od45, .func (PySem.W.fnOf "_law_like" "_law_like" (defArgs s_law_like) (defBody s_law_like) (defScope s_law_like) .none kV45 dc45 pm45 an45 cd45 ct45), sl45⟩)
    (c45 : PySem.W.codeIn K cd45 "_law_like" = true)
    (k45 : PySem.W.keepIn K (.ref f45) = true)
    (a46 : PySem.W.nsIn K mainGlobals "law" = some (some (.ref f46)))
    (l46 : K.lookup f46 = some ⟨oc46, od46, .func (PySem.W.fnOf "law" "law" (defArgs s_law) (defBody s_law) (defScope s_law) .none kV46 dc46 pm46 an46 cd46 ct46), sl46⟩)
    (c46 : PySem.W.codeIn K cd46 "law" = true)
    (k46 : PySem.W.keepIn K (.ref f46) = true) :
    ∃ fd : FuncData, (∀ (s : Shared) (v : Value), BindsTo s fd ⟨[v], []⟩ [("_law_script", v)]) ∧ ∀ base : Heap, K.In base → base.Ns mainGlobals mg → FnOk l.prog w K mg base CX0 9 fa fd ["_law_script"] (sp_law K) := by
  have e := hfa.symm.trans (PySem.W.mg_of X G a46)
  cases e
  have T : Txt K mg a_BOUNDS a_BOUNDS_0 a_BOUNDS_1 a_BOUNDS_2 a_BOUNDS_3 a_BOUNDS_4 a_KINDS t_MOST_COLUMNS t_MOST_LETTERS t_MOST_NUMBER t_MOST_ROWS a_STORE_KINDS a_Heap a_Store a_Shape dA_Store___init__ kA_Store___init__ e_Store___init___key kA_Shape___init__ := ⟨PySem.W.mg_none_of X G z_abs,
    PySem.W.mg_none_of X G z_all,
    PySem.W.mg_none_of X G z_bool,
    PySem.W.mg_none_of X G z_enumerate,
    PySem.W.mg_none_of X G z_int,
    PySem.W.mg_none_of X G z_isinstance,
    PySem.W.mg_none_of X G z_len,
    PySem.W.mg_none_of X G z_list,
    PySem.W.mg_none_of X G z_max,
    PySem.W.mg_none_of X G z_min,
    PySem.W.mg_none_of X G z_range,
    PySem.W.mg_none_of X G z_sorted,
    PySem.W.mg_none_of X G z_str,
    PySem.W.mg_none_of X G z_tuple,
    PySem.W.mg_none_of X G z_zip,
    PySem.W.mg_of X G g_BOUNDS,
    ⟨_, _, _, q_BOUNDS_0, rfl, rfl, by show 3 ≤ sizeLine; decide, .cons ⟨_, rfl⟩ (.cons ⟨_, rfl⟩ (.cons ⟨_, rfl⟩ (.nil)))⟩,
    ⟨_, _, _, q_BOUNDS_1, rfl, rfl, by show 3 ≤ sizeLine; decide, .cons ⟨_, rfl⟩ (.cons ⟨_, rfl⟩ (.cons ⟨_, rfl⟩ (.nil)))⟩,
    ⟨_, _, _, q_BOUNDS_2, rfl, rfl, by show 3 ≤ sizeLine; decide, .cons ⟨_, rfl⟩ (.cons ⟨_, rfl⟩ (.cons ⟨_, rfl⟩ (.nil)))⟩,
    ⟨_, _, _, q_BOUNDS_3, rfl, rfl, by show 3 ≤ sizeLine; decide, .cons ⟨_, rfl⟩ (.cons ⟨_, rfl⟩ (.cons ⟨_, rfl⟩ (.nil)))⟩,
    ⟨_, _, _, q_BOUNDS_4, rfl, rfl, by show 3 ≤ sizeLine; decide, .cons ⟨_, rfl⟩ (.cons ⟨_, rfl⟩ (.cons ⟨_, rfl⟩ (.nil)))⟩,
    ⟨_, _, _, q_BOUNDS, rfl, rfl, by show 5 ≤ sizeLine; decide, .cons rfl (.cons rfl (.cons rfl (.cons rfl (.cons rfl (.nil)))))⟩,
    PySem.W.mg_of X G g_KINDS,
    ⟨_, _, _, q_KINDS, rfl, rfl, by show 2 ≤ sizeLine; decide, .cons ⟨_, rfl⟩ (.cons ⟨_, rfl⟩ (.nil))⟩,
    PySem.W.mg_of X G g_MOST_COLUMNS,
    PySem.W.mg_of X G g_MOST_LETTERS,
    PySem.W.mg_of X G g_MOST_NUMBER,
    PySem.W.mg_of X G g_MOST_ROWS,
    PySem.W.mg_of X G g_STORE_KINDS,
    ⟨_, _, _, q_STORE_KINDS, rfl, rfl, by show 3 ≤ sizeLine; decide, .cons ⟨_, rfl⟩ (.cons ⟨_, rfl⟩ (.cons ⟨_, rfl⟩ (.nil)))⟩,
    ⟨pg_Heap, hd_Heap, po_Heap, sa_Heap⟩,
    PySem.W.mg_of X G ac_Heap,
    na_Heap_most,
    na_Heap_held,
    ⟨pg_Store, hd_Store, po_Store, sa_Store⟩,
    PySem.W.mg_of X G ac_Store,
    na_Store_shape,
    na_Store_form,
    na_Store_kind,
    na_Store_key,
    na_Store_holder,
    na_Store_by_number,
    na_Store_given,
    ⟨pg_Shape, hd_Shape, po_Shape, sa_Shape⟩,
    PySem.W.mg_of X G ac_Shape,
    na_Shape_measures,
    ⟨_, _, _, qe_Store___init___key, rfl, rfl, by show 0 ≤ sizeLine; decide, .nil⟩,
    ⟨_, _, _, _, _, dd20⟩,
    ⟨_, _, _, _, _, _, kk20⟩,
    ⟨_, _, _, _, _, _, _, _, _, _, _, _, _, _, _, _, _, _, _, kk31⟩,
    ⟨_, _, PySem.W.mg_of X G a0, fun_mk (st := s_first_with_room) l0 c0 k0⟩,
    ⟨_, _, PySem.W.mg_of X G a1, fun_mk (st := s_page_with) l1 c1 k1⟩,
    ⟨_, _, PySem.W.mg_of X G a2, fun_mk (st := s_copied) l2 c2 k2⟩,
    ⟨_, _, PySem.W.mg_of X G a3, fun_mk (st := s_is_whole) l3 c3 k3⟩,
    ⟨_, _, PySem.W.mg_of X G a4, fun_mk (st := s_is_word) l4 c4 k4⟩,
    ⟨_, _, PySem.W.mg_of X G a5, fun_mk (st := s_is_value) l5 c5 k5⟩,
    ⟨_, _, PySem.W.mg_of X G a6, fun_mk (st := s_is_column) l6 c6 k6⟩,
    ⟨_, _, PySem.W.mg_of X G a7, fun_mk (st := s_is_form) l7 c7 k7⟩,
    ⟨_, _, PySem.W.mg_of X G a8, fun_mk (st := s_is_row) l8 c8 k8⟩,
    ⟨_, _, PySem.W.mg_of X G a9, fun_mk (st := s_column_names) l9 c9 k9⟩,
    ⟨_, _, PySem.W.mg_of X G a10, fun_mk (st := s_picked) l10 c10 k10⟩,
    ⟨_, _, PySem.W.mg_of X G a11, fun_mk (st := s_changed) l11 c11 k11⟩,
    ⟨_, _, ⟨mk_Heap, a12, i12, kc_Heap⟩, fun_mk (st := s_Heap___init__) l12 c12 k12⟩,
    ⟨_, _, ⟨a13, i13, k13⟩, fun_mk (st := s_Heap_put) l13 c13 k13⟩,
    ⟨_, _, ⟨a14, i14, k14⟩, fun_mk (st := s_Heap_drop) l14 c14 k14⟩,
    ⟨_, _, ⟨a15, i15, k15⟩, fun_mk (st := s_Heap_pages) l15 c15 k15⟩,
    ⟨_, _, PySem.W.mg_of X G a16, fun_mk (st := s_is_key) l16 c16 k16⟩,
    ⟨_, _, PySem.W.mg_of X G a17, fun_mk (st := s_wrong_part) l17 c17 k17⟩,
    ⟨_, _, PySem.W.mg_of X G a18, fun_mk (st := s_empty_holder) l18 c18 k18⟩,
    ⟨_, _, PySem.W.mg_of X G a19, fun_mk (st := s_pages_of_things) l19 c19 k19⟩,
    ⟨_, _, ⟨mk_Store, a20, i20, kc_Store⟩, funD_mk (st := s_Store___init__) l20 c20 k20⟩,
    ⟨_, _, ⟨a21, i21, k21⟩, fun_mk (st := s_Store_thing_of) l21 c21 k21⟩,
    ⟨_, _, ⟨a22, i22, k22⟩, fun_mk (st := s_Store_put) l22 c22 k22⟩,
    ⟨_, _, ⟨a23, i23, k23⟩, fun_mk (st := s_Store_check) l23 c23 k23⟩,
    ⟨_, _, ⟨a24, i24, k24⟩, fun_mk (st := s_Store_lay) l24 c24 k24⟩,
    ⟨_, _, ⟨a25, i25, k25⟩, fun_mk (st := s_Store_drop) l25 c25 k25⟩,
    ⟨_, _, ⟨a26, i26, k26⟩, fun_mk (st := s_Store_change) l26 c26 k26⟩,
    ⟨_, _, ⟨a27, i27, k27⟩, fun_mk (st := s_Store_pages) l27 c27 k27⟩,
    ⟨_, _, ⟨a28, i28, k28⟩, fun_mk (st := s_Store_all_rows) l28 c28 k28⟩,
    ⟨_, _, ⟨a29, i29, k29⟩, fun_mk (st := s_Store_row) l29 c29 k29⟩,
    ⟨_, _, PySem.W.mg_of X G a30, fun_mk (st := s_first_wrong) l30 c30 k30⟩,
    ⟨_, _, ⟨mk_Shape, a31, i31, kc_Shape⟩, funD_mk (st := s_Shape___init__) l31 c31 k31⟩,
    ⟨_, _, ⟨_, pa32, pb32, pc32, _, pd32⟩, fun_mk (st := s_Shape_rows) l32 c32 k32⟩,
    ⟨_, _, PySem.W.mg_of X G a33, fun_mk (st := s_law_bag) l33 c33 k33⟩,
    ⟨_, _, PySem.W.mg_of X G a34, fun_mk (st := s_law_take) l34 c34 k34⟩,
    ⟨_, _, PySem.W.mg_of X G a35, fun_mk (st := s_law_names) l35 c35 k35⟩,
    ⟨_, _, PySem.W.mg_of X G a36, fun_mk (st := s_law_word) l36 c36 k36⟩,
    ⟨_, _, PySem.W.mg_of X G a37, fun_mk (st := s_law_value) l37 c37 k37⟩,
    ⟨_, _, PySem.W.mg_of X G a38, fun_mk (st := s_law_form) l38 c38 k38⟩,
    ⟨_, _, PySem.W.mg_of X G a39, fun_mk (st := s_law_row) l39 c39 k39⟩,
    ⟨_, _, PySem.W.mg_of X G a40, fun_mk (st := s_law_heap_put) l40 c40 k40⟩,
    ⟨_, _, PySem.W.mg_of X G a41, fun_mk (st := s_law_heap_drop) l41 c41 k41⟩,
    ⟨_, _, PySem.W.mg_of X G a42, fun_mk (st := s_law_same) l42 c42 k42⟩,
    ⟨_, _, PySem.W.mg_of X G a43, fun_mk (st := s_law_edit) l43 c43 k43⟩,
    ⟨_, _, PySem.W.mg_of X G a44, fun_mk (st := s_law_changed) l44 c44 k44⟩,
    ⟨_, _, PySem.W.mg_of X G a45, fun_mk (st := s_law_like) l45 c45 k45⟩⟩
  exact ⟨_, fun s v => .of_eq rfl, fun base _ _ => ok_law T ⟨PySem.W.mg_of X G a46, fun_mk (st := s_law) l46 c46 k46⟩⟩
theorem walk {l : PySem.W.OpenLaw} {q : Program} {loose : List Str} {XP : (Str → Option Value) → Heap → Prop} {YP : World → Heap → Prop} {d : DefRec} {K : Params → PySem.W.Frag} (hn : l.most = some 63) (hdf : d.params.defaults = [])
    (hY : ∀ (w : World) (h : Heap), YP w h → (K w.params).In h)
    (F : ∀ (w : World) (mg : Str → Option Value) (fa : Addr) (h : Heap), (K w.params).In h → h.Ns mainGlobals mg → mg d.name = some (.ref fa) →
      ∃ fd : FuncData, (∀ (s : Shared) (u : Value), BindsTo s fd ⟨[u], []⟩ [("_law_script", u)]) ∧ ∀ base : Heap, (K w.params).In base → base.Ns mainGlobals mg → FnOk l.prog w (K w.params) mg base CX0 9 fa fd ["_law_script"] (sp_law (K w.params))) :
    PySem.W.WalkO q loose XP YP l.row.toRowW d [] (fun f vs => PySem.call f vs) :=
  L2.walk_of (n := 63) (k := 9) (x := "_law_script") (CX := fun _ => CX0) (sp := fun w => sp_law (K w.params)) hn (by decide) hdf ⟨rfl, by decide, by decide, rfl⟩ hY F (fun _ _ a ns hl _ hS => ⟨a, ns, rfl, hS, hl, fun _ => rfl⟩) fun _ _ _ _ _ z => z
end My
open PySem PySem.W PyProof.Rows
set_option maxRecDepth 100000 in
set_option maxHeartbeats 0 in
theorem PySem.Challenge.cw_whatindex_k15_heaps_holds : PySem.Challenge.rw_whatindex_k15_heaps.Holds := by
  w_on; o_law; k_head; (case hw => w_witness2)
  k_fill
  refine My.walk (l := PySem.Challenge.rw_whatindex_k15_heaps) rfl rfl (fun w h Y => PySem.W.kIn_of Y) ?F
  case F =>
    intro w mg fa h KX G hmg
    refine' My.all_mk KX G hmg ?g_BOUNDS ?q_BOUNDS ?q_BOUNDS_0 ?q_BOUNDS_1 ?q_BOUNDS_2 ?q_BOUNDS_3 ?q_BOUNDS_4 ?g_KINDS ?q_KINDS ?g_MOST_COLUMNS ?g_MOST_LETTERS ?g_MOST_NUMBER ?g_MOST_ROWS ?g_STORE_KINDS ?q_STORE_KINDS ?z_abs ?z_all ?z_bool ?z_enumerate ?z_int ?z_isinstance ?z_len ?z_list ?z_max ?z_min ?z_range ?z_sorted ?z_str ?z_tuple ?z_zip ?ac_Heap ?pg_Heap ?hd_Heap ?po_Heap ?sa_Heap ?mk_Heap ?kc_Heap ?na_Heap_most ?na_Heap_held ?ac_Store ?pg_Store ?hd_Store ?po_Store ?sa_Store ?mk_Store ?kc_Store ?na_Store_shape ?na_Store_form ?na_Store_kind ?na_Store_key ?na_Store_holder ?na_Store_by_number ?na_Store_given ?ac_Shape ?pg_Shape ?hd_Shape ?po_Shape ?sa_Shape ?mk_Shape ?kc_Shape ?na_Shape_measures ?a0 ?l0 ?c0 ?k0 ?a1 ?l1 ?c1 ?k1 ?a2 ?l2 ?c2 ?k2 ?a3 ?l3 ?c3 ?k3 ?a4 ?l4 ?c4 ?k4 ?a5 ?l5 ?c5 ?k5 ?a6 ?l6 ?c6 ?k6 ?a7 ?l7 ?c7 ?k7 ?a8 ?l8 ?c8 ?k8 ?a9 ?l9 ?c9 ?k9 ?a10 ?l10 ?c10 ?k10 ?a11 ?l11 ?c11 ?k11 ?a12 ?i12 ?l12 ?c12 ?k12 ?a13 ?i13 ?l13 ?c13 ?k13 ?a14 ?i14 ?l14 ?c14 ?k14 ?a15 ?i15 ?l15 ?c15 ?k15 ?a16 ?l16 ?c16 ?k16 ?a17 ?l17 ?c17 ?k17 ?a18 ?l18 ?c18 ?k18 ?a19 ?l19 ?c19 ?k19 ?a20 ?i20 ?l20 ?dd20 ?kk20 ?qe_Store___init___key ?c20 ?k20 ?a21 ?i21 ?l21 ?c21 ?k21 ?a22 ?i22 ?l22 ?c22 ?k22 ?a23 ?i23 ?l23 ?c23 ?k23 ?a24 ?i24 ?l24 ?c24 ?k24 ?a25 ?i25 ?l25 ?c25 ?k25 ?a26 ?i26 ?l26 ?c26 ?k26 ?a27 ?i27 ?l27 ?c27 ?k27 ?a28 ?i28 ?l28 ?c28 ?k28 ?a29 ?i29 ?l29 ?c29 ?k29 ?a30 ?l30 ?c30 ?k30 ?a31 ?i31 ?l31 ?kk31 ?c31 ?k31 ?pa32 ?pb32 ?pc32 ?pd32 ?l32 ?c32 ?k32 ?a33 ?l33 ?c33 ?k33 ?a34 ?l34 ?c34 ?k34 ?a35 ?l35 ?c35 ?k35 ?a36 ?l36 ?c36 ?k36 ?a37 ?l37 ?c37 ?k37 ?a38 ?l38 ?c38 ?k38 ?a39 ?l39 ?c39 ?k39 ?a40 ?l40 ?c40 ?k40 ?a41 ?l41 ?c41 ?k41 ?a42 ?l42 ?c42 ?k42 ?a43 ?l43 ?c43 ?k43 ?a44 ?l44 ?c44 ?k44 ?a45 ?l45 ?c45 ?k45 ?a46 ?l46 ?c46 ?k46
    (case g_BOUNDS => k_is)
    (case q_BOUNDS => k_is)
    (case q_BOUNDS_0 => k_is)
    (case q_BOUNDS_1 => k_is)
    (case q_BOUNDS_2 => k_is)
    (case q_BOUNDS_3 => k_is)
    (case q_BOUNDS_4 => k_is)
    (case g_KINDS => k_is)
    (case q_KINDS => k_is)
    (case g_MOST_COLUMNS => k_is)
    (case g_MOST_LETTERS => k_is)
    (case g_MOST_NUMBER => k_is)
    (case g_MOST_ROWS => k_is)
    (case g_STORE_KINDS => k_is)
    (case q_STORE_KINDS => k_is)
    (case z_abs => k_is)
    (case z_all => k_is)
    (case z_bool => k_is)
    (case z_enumerate => k_is)
    (case z_int => k_is)
    (case z_isinstance => k_is)
    (case z_len => k_is)
    (case z_list => k_is)
    (case z_max => k_is)
    (case z_min => k_is)
    (case z_range => k_is)
    (case z_sorted => k_is)
    (case z_str => k_is)
    (case z_tuple => k_is)
    (case z_zip => k_is)
    (case ac_Heap => k_is)
    (case pg_Heap => k_is)
    (case hd_Heap => k_is)
    (case po_Heap => k_is)
    (case sa_Heap => k_is)
    (case mk_Heap => k_is)
    (case kc_Heap => k_is)
    (case na_Heap_most => k_is)
    (case na_Heap_held => k_is)
    (case ac_Store => k_is)
    (case pg_Store => k_is)
    (case hd_Store => k_is)
    (case po_Store => k_is)
    (case sa_Store => k_is)
    (case mk_Store => k_is)
    (case kc_Store => k_is)
    (case na_Store_shape => k_is)
    (case na_Store_form => k_is)
    (case na_Store_kind => k_is)
    (case na_Store_key => k_is)
    (case na_Store_holder => k_is)
    (case na_Store_by_number => k_is)
    (case na_Store_given => k_is)
    (case ac_Shape => k_is)
    (case pg_Shape => k_is)
    (case hd_Shape => k_is)
    (case po_Shape => k_is)
    (case sa_Shape => k_is)
    (case mk_Shape => k_is)
    (case kc_Shape => k_is)
    (case na_Shape_measures => k_is)
    (case a0 => k_is)
    (case l0 => k_is)
    (case c0 => k_is)
    (case k0 => k_is)
    (case a1 => k_is)
    (case l1 => k_is)
    (case c1 => k_is)
    (case k1 => k_is)
    (case a2 => k_is)
    (case l2 => k_is)
    (case c2 => k_is)
    (case k2 => k_is)
    (case a3 => k_is)
    (case l3 => k_is)
    (case c3 => k_is)
    (case k3 => k_is)
    (case a4 => k_is)
    (case l4 => k_is)
    (case c4 => k_is)
    (case k4 => k_is)
    (case a5 => k_is)
    (case l5 => k_is)
    (case c5 => k_is)
    (case k5 => k_is)
    (case a6 => k_is)
    (case l6 => k_is)
    (case c6 => k_is)
    (case k6 => k_is)
    (case a7 => k_is)
    (case l7 => k_is)
    (case c7 => k_is)
    (case k7 => k_is)
    (case a8 => k_is)
    (case l8 => k_is)
    (case c8 => k_is)
    (case k8 => k_is)
    (case a9 => k_is)
    (case l9 => k_is)
    (case c9 => k_is)
    (case k9 => k_is)
    (case a10 => k_is)
    (case l10 => k_is)
    (case c10 => k_is)
    (case k10 => k_is)
    (case a11 => k_is)
    (case l11 => k_is)
    (case c11 => k_is)
    (case k11 => k_is)
    (case a12 => k_is)
    (case i12 => k_is)
    (case l12 => k_is)
    (case c12 => k_is)
    (case k12 => k_is)
    (case a13 => k_is)
    (case i13 => k_is)
    (case l13 => k_is)
    (case c13 => k_is)
    (case k13 => k_is)
    (case a14 => k_is)
    (case i14 => k_is)
    (case l14 => k_is)
    (case c14 => k_is)
    (case k14 => k_is)
    (case a15 => k_is)
    (case i15 => k_is)
    (case l15 => k_is)
    (case c15 => k_is)
    (case k15 => k_is)
    (case a16 => k_is)
    (case l16 => k_is)
    (case c16 => k_is)
    (case k16 => k_is)
    (case a17 => k_is)
    (case l17 => k_is)
    (case c17 => k_is)
    (case k17 => k_is)
    (case a18 => k_is)
    (case l18 => k_is)
    (case c18 => k_is)
    (case k18 => k_is)
    (case a19 => k_is)
    (case l19 => k_is)
    (case c19 => k_is)
    (case k19 => k_is)
    (case a20 => k_is)
    (case i20 => k_is)
    (case l20 => k_is)
    (case dd20 => k_is)
    (case kk20 => k_is)
    (case qe_Store___init___key => k_is)
    (case c20 => k_is)
    (case k20 => k_is)
    (case a21 => k_is)
    (case i21 => k_is)
    (case l21 => k_is)
    (case c21 => k_is)
    (case k21 => k_is)
    (case a22 => k_is)
    (case i22 => k_is)
    (case l22 => k_is)
    (case c22 => k_is)
    (case k22 => k_is)
    (case a23 => k_is)
    (case i23 => k_is)
    (case l23 => k_is)
    (case c23 => k_is)
    (case k23 => k_is)
    (case a24 => k_is)
    (case i24 => k_is)
    (case l24 => k_is)
    (case c24 => k_is)
    (case k24 => k_is)
    (case a25 => k_is)
    (case i25 => k_is)
    (case l25 => k_is)
    (case c25 => k_is)
    (case k25 => k_is)
    (case a26 => k_is)
    (case i26 => k_is)
    (case l26 => k_is)
    (case c26 => k_is)
    (case k26 => k_is)
    (case a27 => k_is)
    (case i27 => k_is)
    (case l27 => k_is)
    (case c27 => k_is)
    (case k27 => k_is)
    (case a28 => k_is)
    (case i28 => k_is)
    (case l28 => k_is)
    (case c28 => k_is)
    (case k28 => k_is)
    (case a29 => k_is)
    (case i29 => k_is)
    (case l29 => k_is)
    (case c29 => k_is)
    (case k29 => k_is)
    (case a30 => k_is)
    (case l30 => k_is)
    (case c30 => k_is)
    (case k30 => k_is)
    (case a31 => k_is)
    (case i31 => k_is)
    (case l31 => k_is)
    (case kk31 => k_is)
    (case c31 => k_is)
    (case k31 => k_is)
    (case pa32 => k_is)
    (case pb32 => k_is)
    (case pc32 => k_is)
    (case pd32 => k_is)
    (case l32 => k_is)
    (case c32 => k_is)
    (case k32 => k_is)
    (case a33 => k_is)
    (case l33 => k_is)
    (case c33 => k_is)
    (case k33 => k_is)
    (case a34 => k_is)
    (case l34 => k_is)
    (case c34 => k_is)
    (case k34 => k_is)
    (case a35 => k_is)
    (case l35 => k_is)
    (case c35 => k_is)
    (case k35 => k_is)
    (case a36 => k_is)
    (case l36 => k_is)
    (case c36 => k_is)
    (case k36 => k_is)
    (case a37 => k_is)
    (case l37 => k_is)
    (case c37 => k_is)
    (case k37 => k_is)
    (case a38 => k_is)
    (case l38 => k_is)
    (case c38 => k_is)
    (case k38 => k_is)
    (case a39 => k_is)
    (case l39 => k_is)
    (case c39 => k_is)
    (case k39 => k_is)
    (case a40 => k_is)
    (case l40 => k_is)
    (case c40 => k_is)
    (case k40 => k_is)
    (case a41 => k_is)
    (case l41 => k_is)
    (case c41 => k_is)
    (case k41 => k_is)
    (case a42 => k_is)
    (case l42 => k_is)
    (case c42 => k_is)
    (case k42 => k_is)
    (case a43 => k_is)
    (case l43 => k_is)
    (case c43 => k_is)
    (case k43 => k_is)
    (case a44 => k_is)
    (case l44 => k_is)
    (case c44 => k_is)
    (case k44 => k_is)
    (case a45 => k_is)
    (case l45 => k_is)
    (case c45 => k_is)
    (case k45 => k_is)
    (case a46 => k_is)
    (case l46 => k_is)
    (case c46 => k_is)
    (case k46 => k_is)

