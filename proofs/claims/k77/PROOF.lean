import PyProof.Rows.All
import Wide.All
import OpenK.AllK
import Wide.FinOn
import PyProof.EqAt
import PyProof.EqKinds
import PyProof.TupleCall
import KE.BitLaws
import KE.KSortTupG
import KE.KSortKey
import KE.KDictSum
import PyProof.Rows.SortStr
import PyProof.Rows.SortKeyStr
import PyProof.Rows.SetFrom
import PyProof.WalksMore
import OpenK.KTop
import KE.KUnpackStar
import PySem.Challenge.RW_whatindex_k77_rows_and_designs_written
set_option genSizeOf false
-- CHANGE: your row's module here, as the last of these rows
set_option Elab.async false
set_option linter.all false
set_option maxRecDepth 100000

namespace L2
open PySem PySem.Spec PyProof.Rows


noncomputable abbrev Key := Sum Int Str
noncomputable def keyIs : Key → Value → Bool
  | .inl k, v => Value.isInt k v
  | .inr x, v => Value.isStrOf x v
noncomputable def keyH (w : World) : Key → Int
  | .inl k => hashInt k
  | .inr x => hashStr w x
theorem keyIs_shape : ∀ {k : Key} {v : Value}, keyIs k v = true → (∃ i t, k = Sum.inl i ∧ v = Value.int i t) ∨ (∃ x t, k = Sum.inr x ∧ v = Value.str x t)
  | .inl i, v, h => by
    obtain ⟨t, e⟩ := Value.isInt_shape (k := i) (v := v) h
    exact .inl ⟨i, t, rfl, e⟩
  | .inr x, v, h => by
    obtain ⟨t, e⟩ := Value.isStrOf_shape (x := x) (v := v) h
    exact .inr ⟨x, t, rfl, e⟩
theorem keyIs_int (i : Int) (t : Tok) : keyIs (.inl i) (.int i t) = true := by simp [keyIs, Value.isInt]
theorem keyIs_str (x : Str) (t : Tok) : keyIs (.inr x) (.str x t) = true := by simp [keyIs, Value.isStrOf]
theorem key_ll (a b : Int) : decide ((Sum.inl a : Key) = Sum.inl b) = (a == b) := by
  by_cases e : a = b
  · subst e; simp
  · have h : ¬ (Sum.inl a : Key) = Sum.inl b := fun q => e (Sum.inl.inj q)
    rw [decide_eq_false h]
    exact (beq_eq_false_iff_ne.mpr e).symm
theorem key_rr (a b : Str) : decide ((Sum.inr a : Key) = Sum.inr b) = decide (a = b) := by
  by_cases e : a = b
  · subst e; simp
  · have h : ¬ (Sum.inr a : Key) = Sum.inr b := fun q => e (Sum.inr.inj q)
    rw [decide_eq_false h, decide_eq_false e]
theorem key_lr (a : Int) (b : Str) : decide ((Sum.inl a : Key) = Sum.inr b) = false := decide_eq_false (fun q => nomatch q)
theorem key_rl (a : Str) (b : Int) : decide ((Sum.inr a : Key) = Sum.inl b) = false := decide_eq_false (fun q => nomatch q)

noncomputable def mixKind (prog : Program) (w : World) : PySem.KeyKind prog w Key where
  is := keyIs
  hash := keyH w
  inj := fun v a b ha hb => by
    rcases keyIs_shape ha with ⟨i, t, rfl, rfl⟩ | ⟨x, t, rfl, rfl⟩
    · rcases keyIs_shape hb with ⟨j, u, rfl, e⟩ | ⟨y, u, rfl, e⟩
      · injection e with e1 _; rw [e1]
      · exact nomatch e
    · rcases keyIs_shape hb with ⟨j, u, rfl, e⟩ | ⟨y, u, rfl, e⟩
      · exact nomatch e
      · injection e with e1 _; rw [e1]
  byValue := fun k v h => by
    rcases keyIs_shape h with ⟨i, t, rfl, rfl⟩ | ⟨x, t, rfl, rfl⟩ <;> rfl
  pyHash := fun hv h => by
    rcases keyIs_shape hv with ⟨i, t, rfl, rfl⟩ | ⟨x, t, rfl, rfl⟩
    · exact wpAny_pyHash_int h
    · exact wpAny_pyHash_str h
  eqBool := fun hu hv h => by
    rcases keyIs_shape hu with ⟨i, t, rfl, rfl⟩ | ⟨x, t, rfl, rfl⟩
    · rcases keyIs_shape hv with ⟨j, u, rfl, rfl⟩ | ⟨y, u, rfl, rfl⟩
      · rw [key_ll] at h; exact wpAny_eqBool_int h
      · rw [key_lr] at h; exact SeqAt.EqAt.int_str i t y u _ _ _ _ h
    · rcases keyIs_shape hv with ⟨j, u, rfl, rfl⟩ | ⟨y, u, rfl, rfl⟩
      · rw [key_rl] at h; exact SeqAt.EqAt.str_int x t j u _ _ _ _ h
      · rw [key_rr] at h; exact wpAny_eqBool_str h
  «strs» := fun k x t v h => by
    rcases keyIs_shape h with ⟨i, u, rfl, e⟩ | ⟨y, u, rfl, e⟩
    · exact nomatch e
    · injection e with e1 _
      subst e1
      cases v <;> rfl

theorem mixKind_int (prog : Program) (w : World) (i : Int) (t : Tok) : (mixKind prog w).is (.inl i) (.int i t) = true := keyIs_int i t
theorem mixKind_str (prog : Program) (w : World) (x : Str) (t : Tok) : (mixKind prog w).is (.inr x) (.str x t) = true := keyIs_str x t
end L2

namespace L2
open PySem PySem.Spec PyProof.Rows


inductive V where
  | non | bl (b : Bool) | int (i : Int) | str (x : Str) | byt (b : Array UInt8) | flt (b : UInt64) | ref (a : Addr) | ty (n : String)
  deriving DecidableEq

noncomputable def RelV : V → Value → Prop
  | .non, u => u = Value.none
  | .bl b, u => u = Value.bool b
  | .int i, u => ∃ t, u = Value.int i t
  | .str x, u => ∃ t, u = Value.str x t
  | .byt b, u => ∃ t, u = Value.bytes b t
  | .flt b, u => ∃ t, u = Value.float b t
  | .ref a, u => u = Value.ref a
  | .ty n, u => u = Value.type n

noncomputable abbrev Vals : List V → List Value → Prop := Paired RelV
theorem Vals.length {xs : List V} {us : List Value} (r : Vals xs us) : xs.length = us.length := Paired.length r
theorem Vals.get : ∀ {xs : List V} {us : List Value} {i : Nat} {x : V}, Vals xs us → xs[i]? = some x → ∃ u, us[i]? = some u ∧ RelV x u
  | _, _, _, _, .nil, e => by simp at e
  | _, _, 0, _, .cons r _, e => by simp at e; subst e; exact ⟨_, rfl, r⟩
  | _, _, i + 1, x, .cons _ t, e => by
    obtain ⟨u, h1, h2⟩ := Vals.get (i := i) (x := x) t (by simpa using e)
    exact ⟨u, by simpa using h1, h2⟩
theorem Vals.set {x : V} {u : Value} (r : RelV x u) : ∀ {xs : List V} {us : List Value} (i : Nat), Vals xs us → Vals (xs.set i x) (us.set i u)
  | _, _, _, .nil => .nil
  | _, _, 0, .cons _ t => .cons r t
  | _, _, i + 1, .cons q t => .cons q (Vals.set r i t)
theorem Vals.append : ∀ {xs ys : List V} {us ws : List Value}, Vals xs us → Vals ys ws → Vals (xs ++ ys) (us ++ ws)
  | _, _, _, _, .nil, s => s
  | _, _, _, _, .cons r t, s => .cons r (Vals.append t s)
theorem Vals.take : ∀ {xs : List V} {us : List Value} (n : Nat), Vals xs us → Vals (xs.take n) (us.take n)
  | _, _, 0, _ => .nil
  | _, _, _ + 1, .nil => .nil
  | _, _, n + 1, .cons r t => .cons r (Vals.take n t)
theorem Vals.drop : ∀ {xs : List V} {us : List Value} (n : Nat), Vals xs us → Vals (xs.drop n) (us.drop n)
  | _, _, 0, r => r
  | _, _, _ + 1, .nil => .nil
  | _, _, n + 1, .cons _ t => Vals.drop n t
noncomputable def RelO : Option V → Option Value → Prop
  | some v, some u => RelV v u
  | none, none => True
  | _, _ => False
noncomputable def KV {κ : Type} : List (κ × V) → List (κ × Value) → Prop := Paired fun (p : κ × V) (q : κ × Value) => p.1 = q.1 ∧ RelV p.2 q.2


noncomputable def kV : Key → V
  | .inl i => .int i
  | .inr x => .str x


inductive HO where
  
  | lst (xs : List V)
  
  | tup (xs : List V)
  
  | dK (kvs : List (Key × V)) | dT (kvs : List (List Key × V))
  
  | set (S : Int → Bool) (n : Nat)
  
  | ins (C dx : Addr) (fs : List (Str × V))
  
  | own (x : Addr)
  
  | xd (fs : List (Str × V))
  
  | met (f x : Addr)
  
  | rng (lo hi : Int)
  
  | frz (o : Obj) (u : HO)
  
  | tbl (ps : Array Value)
  
  | ext (φ : Heap → Prop)

set_option genInjectivity false
noncomputable abbrev Hp := Addr → Option HO
noncomputable def upd (H : Hp) (a : Addr) (o : HO) : Hp := fun b => if b = a then some o else H b
theorem upd_same {H : Hp} {a : Addr} {o : HO} : upd H a o a = some o := by unfold upd; rw [if_pos rfl]
theorem upd_ne {H : Hp} {a b : Addr} {o : HO} (h : b ≠ a) : upd H a o b = H b := by unfold upd; rw [if_neg h]
theorem upd_upd {H : Hp} {a : Addr} {o u : HO} : upd (upd H a o) a u = upd H a u := by
  funext b; unfold upd; split <;> rfl

theorem ne_of {H : Hp} {a b : Addr} {o u : HO} (h : H a = some o) (h' : H b = some u) (d : o ≠ u) : a ≠ b := by
  intro e; subst e; rw [h] at h'; exact d (Option.some.inj h')
theorem ne_of_none {H : Hp} {a b : Addr} {o : HO} (h : H a = some o) (h' : H b = none) : a ≠ b := by
  intro e; subst e; rw [h] at h'; cases h'


noncomputable def TupN (h : Heap) (a : Addr) (items : Array Value) : Prop := ∃ o, h.get? a = some o ∧ o.cls = .type "tuple" ∧ (∃ n, o.data = .seq items n) ∧ o.dict = none
theorem TupN.is {h : Heap} {a : Addr} {items : Array Value} (x : TupN h a items) : IsTup h a items := let ⟨o, h1, h2, h3, _⟩ := x; ⟨o, h1, h2, h3⟩
theorem TupN.new (h : Heap) (items : Array Value) : TupN (h.push { cls := .type "tuple", data := .seq items }) h.objs.size items := ⟨_, Heap.get?_push_size _ rfl, rfl, ⟨_, rfl⟩, rfl⟩
section
variable (P : Program) (w : World)
noncomputable def ObjOk (H : Hp) (h : Heap) (a : Addr) : HO → Prop
  | .lst xs => xs.length ≤ sizeLine ∧ ∃ (its : List Value) (n : Nat), Vals xs its ∧ h.get? a = some { cls := .type "list", data := .seq its.toArray n }
  | .tup xs => xs.length ≤ sizeLine ∧ ∃ its : List Value, Vals xs its ∧ TupN h a its.toArray
  | .dK kvs => kvs.length ≤ sizeLine ∧ (a == sysModules) = false ∧ ∃ vs, KV kvs vs ∧ h.DictOf (mixKind P w) a vs
  | .dT kvs => kvs.length ≤ sizeLine ∧ (a == sysModules) = false ∧ ∃ xs : List (List Key × Addr × Value),
      Paired (fun (p : List Key × V) (q : List Key × Addr × Value) => p.1 = q.1 ∧ H q.2.1 = some (.tup (p.1.map kV)) ∧ RelV p.2 q.2.2) kvs xs ∧
      ∃ o es ep, h.get? a = some o ∧ o.ExactDict ∧ o.data = .dict es ep ∧ es.toList = xs.map (entryOfKey (tupleKind (mixKind P w))) ∧ (xs.map (·.1)).Nodup
  | .set S n => h.SetOf (intKind P w) a S n
  | .ins C dx fs => H dx = some (.own a) ∧ fs.length ≤ 1000 ∧ dx ≠ a ∧ h.get? a = some (PySem.W.instObj C dx) ∧
      ∃ mA, h.Ns1 dx mA ∧ (∀ f, RelO (fs.lookup f) (mA f)) ∧ PySem.Within mA (fs.map (·.1))
  | .own _ => ∃ o, h.get? a = some o
  | .xd fs => ∃ mA, h.Ns1 a mA ∧ ∀ f, RelO (fs.lookup f) (mA f)
  | .rng lo hi => ∃ t u v, h.get? a = some { cls := .type "range", data := .fields #[.int lo t, .int hi u, .int 1 v] }
  | .frz o u => h.get? a = some o ∧ ObjOk H h a u
  | .tbl ps => h.get? a = some { cls := .none, data := .fields ps }
  | .met f x => h.get? a = some (PySem.W.methodObj (.ref f) (.ref x))
  | .ext φ => φ h ∧ (∃ o, h.get? a = some o) ∧ ∀ h1 h2 : Heap, φ h1 → (∀ o, h1.get? a = some o → h2.get? a = some o) → φ h2

noncomputable def HOk (H : Hp) (h : Heap) : Prop := ∀ a o, H a = some o → ObjOk P w H h a o
end

section
variable {P : Program} {w : World} {H H' : Hp} {h h' : Heap} {a : Addr} {o : HO}
theorem ObjOk.lt (x : ObjOk P w H h a o) : a < h.objs.size := by
  cases o with
  | lst xs => obtain ⟨_, _, _, _, e⟩ := x; exact Heap.lt_size e
  | tup xs => obtain ⟨_, _, _, p⟩ := x; exact p.is.lt
  | dK kvs => obtain ⟨_, _, _, _, o, _, _, e, _⟩ := x; exact Heap.lt_size e
  | dT kvs => obtain ⟨_, _, _, _, o, _, _, e, _⟩ := x; exact Heap.lt_size e
  | set S n => obtain ⟨o, _, _, _, e, _⟩ := x; exact Heap.lt_size e
  | ins C dx fs => obtain ⟨_, _, _, e, _⟩ := x; exact Heap.lt_size e
  | own y => obtain ⟨_, e⟩ := x; exact Heap.lt_size e
  | xd fs => obtain ⟨_, ⟨_, _, _, e, _⟩, _⟩ := x; exact Heap.lt_size e
  | rng lo hi => obtain ⟨_, _, _, e⟩ := x; exact Heap.lt_size e
  | frz ob u => obtain ⟨e, _⟩ := x; exact Heap.lt_size e
  | tbl ps => exact Heap.lt_size (show h.get? a = some _ from x)
  | met f y => exact Heap.lt_size (show h.get? a = some _ from x)
  | ext φ => obtain ⟨_, ⟨_, e⟩, _⟩ := x; exact Heap.lt_size e
theorem Paired.mapP {α β : Type} {F G : α → β → Prop} : ∀ {l₁ : List α} {l₂ : List β}, Paired F l₁ l₂ → (∀ a b, F a b → G a b) → Paired G l₁ l₂
  | _, _, .nil, _ => .nil
  | _, _, .cons r t, f => .cons (f _ _ r) (Paired.mapP t f)
theorem ObjOk.stay (x : ObjOk P w H h a o) (k : ∀ b u, (b = a ∨ H b = some (.own a)) → h.get? b = some u → h'.get? b = some u)
    (ho : ∀ b, H b = some (.own a) → H' b = some (.own a)) (ht : ∀ b xs, H b = some (.tup xs) → H' b = some (.tup xs)) : ObjOk P w H' h' a o := by
  induction o with
  | lst xs => obtain ⟨z, its, n, r, e⟩ := x; exact ⟨z, its, n, r, k _ _ (.inl rfl) e⟩
  | tup xs => obtain ⟨z, its, r, ob, e, c⟩ := x; exact ⟨z, its, r, ob, k _ _ (.inl rfl) e, c⟩
  | dK kvs => obtain ⟨z, y, vs, r, ob, es, ep, e, c⟩ := x; exact ⟨z, y, vs, r, ob, es, ep, k _ _ (.inl rfl) e, c⟩
  | dT kvs =>
    obtain ⟨z, y, xs, r, ob, es, ep, e, c⟩ := x
    exact ⟨z, y, xs, Paired.mapP r fun p q z => ⟨z.1, ht _ _ z.2.1, z.2.2⟩, ob, es, ep, k _ _ (.inl rfl) e, c⟩
  | set S n => obtain ⟨ob, es, ep, t, e, c⟩ := x; exact ⟨ob, es, ep, t, k _ _ (.inl rfl) e, c⟩
  | ins C dx fs =>
    obtain ⟨d, z, ne, e, mA, ⟨od, es, ep, e2, c⟩, r⟩ := x
    exact ⟨ho _ d, z, ne, k _ _ (.inl rfl) e, mA, ⟨od, es, ep, k _ _ (.inr d) e2, c⟩, r⟩
  | own y => obtain ⟨ob, e⟩ := x; exact ⟨ob, k _ _ (.inl rfl) e⟩
  | xd fs => obtain ⟨mA, ⟨od, es, ep, e, c⟩, r⟩ := x; exact ⟨mA, ⟨od, es, ep, k _ _ (.inl rfl) e, c⟩, r⟩
  | rng lo hi => obtain ⟨t, u, v, e⟩ := x; exact ⟨t, u, v, k _ _ (.inl rfl) e⟩
  | frz ob u ih => obtain ⟨e, q⟩ := x; exact ⟨k _ _ (.inl rfl) e, ih q⟩
  | tbl ps =>
    have e : h.get? a = some { cls := .none, data := .fields ps } := x
    show h'.get? a = some { cls := .none, data := .fields ps }
    exact k a _ (.inl rfl) e
  | met f y =>
    have e : h.get? a = some (PySem.W.methodObj (.ref f) (.ref y)) := x
    show h'.get? a = some (PySem.W.methodObj (.ref f) (.ref y))
    exact k a _ (.inl rfl) e
  | ext φ => obtain ⟨p, ⟨o, e⟩, st⟩ := x; exact ⟨st _ _ p fun o q => k _ _ (.inl rfl) q, ⟨o, k _ _ (.inl rfl) e⟩, st⟩
theorem HOk.lt (x : HOk P w H h) (e : H a = some o) : a < h.objs.size := (x a o e).lt
theorem HOk.fresh (x : HOk P w H h) (e : h.objs.size ≤ a) : H a = none := by
  cases q : H a with
  | none => rfl
  | some u => exact absurd (Nat.lt_of_lt_of_le (x.lt q) e) (Nat.lt_irrefl _)

theorem HOk.kept (x : HOk P w H h) (k : ∀ b u, h.get? b = some u → h'.get? b = some u) : HOk P w H h' := fun a o e =>
  (x a o e).stay (fun b u _ q => k b u q) (fun _ q => q) fun _ _ q => q

theorem HOk.laid (x : HOk P w H h) (k : ∀ b u, h.get? b = some u → h'.get? b = some u) (hp : h.objs.size ≤ a) (new : ObjOk P w (upd H a o) h' a o) : HOk P w (upd H a o) h' := fun b u e => by
  have hn := x.fresh hp
  by_cases hb : b = a
  · subst hb; rw [upd_same] at e; cases e; exact new
  · rw [upd_ne hb] at e
    exact (x b u e).stay (fun c v _ q => k c v q) (fun c q => by rw [upd_ne (ne_of_none q hn)]; exact q) fun c xs q => by rw [upd_ne (ne_of_none q hn)]; exact q
end


noncomputable def Rd (H : Hp) (a : Addr) (u : HO) : Prop := H a = some u ∨ ∃ o, H a = some (.frz o u)
theorem Rd.ok {P : Program} {w : World} {H : Hp} {h : Heap} {a : Addr} {u : HO} (r : Rd H a u) (x : HOk P w H h) : ObjOk P w H h a u := by
  rcases r with r | ⟨o, r⟩
  · exact x a u r
  · obtain ⟨_, q⟩ := x a _ r
    exact q

noncomputable def Mut : Option HO → Prop
  | some (.lst _) => True
  | some (.dK _) => True
  | some (.dT _) => True
  | some (.set _ _) => True
  | some (.ins _ _ _) => True
  | some (.ext _) => True
  | _ => False
section
variable {P : Program} {w : World} {H : Hp} {h h' : Heap} {x e : Addr} {o' : HO}

theorem HOk.write (ok : HOk P w H h) (mu : Mut (H x)) (he : e = x ∨ H e = some (.own x)) (k : ∀ b u, b ≠ e → h.get? b = some u → h'.get? b = some u) (heo : ∃ u, h'.get? e = some u)
    (new : ObjOk P w (upd H x o') h' x o') : HOk P w (upd H x o') h' := fun b u q => by
  have nown : ∀ c y, H c = some (.own y) → c ≠ x := fun c y r z => by subst z; rw [r] at mu; exact mu
  have ntup : ∀ c xs, H c = some (.tup xs) → c ≠ x := fun c xs r z => by subst z; rw [r] at mu; exact mu
  by_cases hb : b = x
  · subst hb; rw [upd_same] at q; cases q; exact new
  · rw [upd_ne hb] at q
    by_cases hbe : b = e
    · have q' : H b = some (.own x) := by
        rcases he with z | z
        · exact absurd (hbe.trans z) hb
        · rw [hbe]; exact z
      rw [q] at q'; cases q'
      obtain ⟨v, hv⟩ := heo
      exact ⟨v, by rw [hbe]; exact hv⟩
    · refine (ok b u q).stay (fun c v hc r => k c v ?_ r) (fun c r => by rw [upd_ne (nown c b r)]; exact r) fun c xs r => by rw [upd_ne (ntup c xs r)]; exact r
      rcases hc with rfl | hc
      · exact hbe
      · rintro rfl
        rcases he with z | z
        · exact nown c b hc z
        · rw [hc] at z; cases z; exact hb rfl
end


structure Un (fs ex : List Addr) (H H' : Hp) (h h' : Heap) : Prop where
  keep : ∀ b o, h.get? b = some o → H b = none → b ∉ fs → b ∉ ex → h'.get? b = some o
  slot : ∀ b o, h.get? b = some o → H b = none → b ∈ fs → b ∉ ex → ∃ sl, h'.get? b = some { o with slots := sl }
  free : ∀ b o, h.get? b = some o → H b = none → b ∉ ex → H' b = none
  there : ∀ b o, h.get? b = some o → b ∉ ex → ∃ o', h'.get? b = some o'
  tups : ∀ b xs, H b = some (.tup xs) → H' b = some (.tup xs)
  frzs : ∀ b o u, H b = some (.frz o u) → H' b = some (.frz o u)
  tbls : ∀ b ps, H b = some (.tbl ps) → ∃ more, H' b = some (.tbl (ps ++ more))
section
variable {fs fs' ex ex' : List Addr} {H H1 H2 : Hp} {h h1 h2 h' : Heap} {a x e : Addr} {o : HO}
theorem Un.any (u : Un fs ex H H1 h h1) {b : Addr} {ob : Obj} (q : h.get? b = some ob) (n : H b = none) (hx : b ∉ ex) : ∃ sl, h1.get? b = some { ob with slots := sl } := by
  by_cases hb : b ∈ fs
  · exact u.slot b ob q n hb hx
  · exact ⟨ob.slots, u.keep b ob q n hb hx⟩
theorem Un.kept (k : ∀ b u, h.get? b = some u → h'.get? b = some u) : Un fs ex H H h h' :=
  ⟨fun b ob q _ _ _ => k b ob q, fun b ob q _ _ _ => ⟨ob.slots, k b ob q⟩, fun _ _ _ n _ => n, fun b ob q _ => ⟨ob, k b ob q⟩, fun _ _ q => q, fun _ _ _ q => q, fun _ ps q => ⟨#[], by rw [q]; simp⟩⟩
theorem Un.refl : Un fs ex H H h h := Un.kept fun _ _ q => q
theorem Un.laid (k : ∀ b u, h.get? b = some u → h'.get? b = some u) (hp : h.objs.size ≤ a) (hn : H a = none) : Un fs ex H (upd H a o) h h' where
  keep := fun b u q _ _ _ => k b u q
  slot := fun b u q _ _ _ => ⟨u.slots, k b u q⟩
  free := fun b u q n _ => by rw [upd_ne (Nat.ne_of_lt (Nat.lt_of_lt_of_le (Heap.lt_size q) hp))]; exact n
  there := fun b u q _ => ⟨u, k b u q⟩
  tups := fun b xs q => by rw [upd_ne (ne_of_none q hn)]; exact q
  frzs := fun b u xs q => by rw [upd_ne (ne_of_none q hn)]; exact q
  tbls := fun b ps q => ⟨#[], by rw [upd_ne (ne_of_none q hn), q]; simp⟩
theorem Un.write (mu : Mut (H x)) (he : e = x ∨ H e = some (.own x)) (k : ∀ b u, b ≠ e → h.get? b = some u → h'.get? b = some u) (heo : ∃ u, h'.get? e = some u) : Un fs ex H (upd H x o) h h' := by
  have hx : ∀ b, H b = none → b ≠ x := fun b n z => by subst z; rw [n] at mu; exact mu
  have hb : ∀ b, H b = none → b ≠ e := fun b n z => by
    subst z
    rcases he with r | r
    · exact hx b n r
    · rw [n] at r; cases r
  have hm : ∀ b u, H b = some u → ¬ Mut (some u) → b ≠ x := fun b u q nm z => by subst z; rw [q] at mu; exact nm mu
  refine ⟨fun b u q n _ _ => k b u (hb b n) q, fun b u q n _ _ => ⟨u.slots, k b u (hb b n) q⟩, fun b u q n _ => by rw [upd_ne (hx b n)]; exact n, fun b u q _ => ?_,
    fun b xs q => by rw [upd_ne (hm b _ q fun z => z)]; exact q, fun b u xs q => by rw [upd_ne (hm b _ q fun z => z)]; exact q, fun b ps q => ⟨#[], by rw [upd_ne (hm b _ q fun z => z), q]; simp⟩⟩
  by_cases hbe : b = e
  · subst hbe; exact heo
  · exact ⟨u, k b u hbe q⟩
end


noncomputable def trk (h : Heap) (H : Hp) : List Addr := (List.range h.objs.size).filter fun a => (H a).isSome
noncomputable def hidT (h : Heap) (H : Hp) : Heap := PySem.W.hideAll h (trk h H)
theorem hidT_size (h : Heap) (H : Hp) : (hidT h H).objs.size = h.objs.size := PySem.W.hideAll_size _ _
theorem hidT_get {h : Heap} {H : Hp} {b : Addr} {o : Obj} (e : h.get? b = some o) (n : H b = none) : (hidT h H).get? b = some o :=
  PySem.W.hideAll_get _ e fun hm => by
    have q : (H b).isSome = true := (List.mem_filter.mp hm).2
    rw [n] at q; simp at q
theorem of_hidT {h : Heap} {H : Hp} {b : Addr} {o : Obj} (e : (hidT h H).get? b = some o) : h.get? b = some o ∧ H b = none := by
  have e' : h.get? b = some o := PySem.W.of_hideAll (trk h H) e
  refine ⟨e', ?_⟩
  cases q : H b with
  | none => rfl
  | some x =>
    have hm : b ∈ trk h H := List.mem_filter.mpr ⟨List.mem_range.mpr (Heap.lt_size e'), by simp [q]⟩
    have z : (hidT h H).get? b = none := PySem.W.hideAll_none (trk h H) hm
    rw [z] at e; cases e


noncomputable def allNews (g h : Heap) (L : Addr) : List (Addr × Obj) := (List.range h.objs.size).filterMap fun a => if a = L ∨ (g.get? a).isSome = true then none else (h.get? a).map fun o => (a, o)
noncomputable def rest (g h : Heap) (L d : Addr) : List (Addr × Obj) := (allNews g h L).filter fun p => decide (p.1 ≠ d)
end L2

namespace L2
open PySem PySem.Spec PyProof.Rows


structure Mod (K : PySem.W.Frag) (mg : Str → Option Value) (base : Heap) : Prop where
  kin : K.In base
  glob : base.Ns mainGlobals mg
  blt : ∃ mb, base.Ns builtinsNs mb ∧ ∀ x : Str, x ≠ "__name__" → mb x = bootBuiltins x
  nolimit : base.NoLimit


structure Cx where
  prog : Program
  w : World
  K : PySem.W.Frag
  mg : Str → Option Value
  base : Heap
  A : Around
  N : List Str
  s_0 : Shared
  H_0 : Hp
  env : Env
  outer : List Env
  stack : List Env
  ex : List Addr
  fn : Str → Bool
  calm : Bool
  pn : List (Addr × Obj)
  xe : Value → Shared → Prop

noncomputable def frs (l : List Env) : List Addr := l.filterMap (·.frame)
noncomputable abbrev Cx.fs (X : Cx) : List Addr := frs X.outer

noncomputable def Vis (sc : Scope) (x : Str) : Prop := sc.names.lookup x = some .local ∨ sc.names.lookup x = some .cell ∨ sc.names.lookup x = some .free
noncomputable def Loc (sc : Scope) (x : Str) : Prop := sc.names.lookup x = some .local ∨ sc.names.lookup x = some .cell
noncomputable def Look (env : Env) (h : Heap) (m : Str → Option Value) (x : Str) (u : Value) : Prop :=
  (env.kindOf x = some .local ∧ m x = some u) ∨ ((env.kindOf x = some .cell ∨ env.kindOf x = some .free) ∧ ∃ c, env.cells.lookup x = some c ∧ h.IsCell c (some u))

structure Cx.Ok (X : Cx) : Prop where
  mod : Mod X.K X.mg X.base
  kind : X.env.scope.kind = .function
  glob : X.env.globals = mainGlobals
  blt : X.env.builtins = builtinsNs
  above : X.s_0.heap.objs.size ≤ X.env.locals
  inj : ∀ x y c, X.env.cells.lookup x = some c → X.env.cells.lookup y = some c → x = y
  has : ∀ x, (X.env.kindOf x = some .cell ∨ X.env.kindOf x = some .free) → ∃ c, X.env.cells.lookup x = some c
  cab : ∀ x c, X.fn x = true → X.env.cells.lookup x = some c → X.s_0.heap.objs.size ≤ c
  hd : X.calm = true → X.A.handled = none
  frames : X.A.frames = some X.stack
  stk : X.stack = X.outer ∨ (X.stack = X.env :: X.outer ∧ X.env.frame = some X.env.locals)
  exf : ∀ b ∈ X.ex, b ≠ X.env.locals ∧ ∀ x c, X.env.cells.lookup x = some c → c ≠ b
  bs : ∀ b o, X.base.get? b = some o → X.s_0.heap.get? b = some o ∧ X.H_0 b = none
  bsz : X.base.objs.size ≤ X.s_0.heap.objs.size
  noex : ∀ b o, X.base.get? b = some o → b ∉ X.ex
  exfs : ∀ b ∈ X.ex, b ∉ X.fs
  funs : X.s_0.heap.FunFrames X.base X.outer
  frf : ∀ b ∈ X.fs, X.H_0 b = none

structure Inv (X : Cx) (pins : List (Addr × Obj)) (σ : List (Option V)) (H : Hp) (s : Shared) : Prop where
  ok : X.Ok
  os : s.os = X.s_0.os
  bare : AllBare s.gens
  base : Un X.fs X.ex X.H_0 H X.s_0.heap s.heap
  loc : ∃ m, s.heap.Ns X.env.locals m ∧ ∀ (i : Nat) (x : Str) (v : V), X.N[i]? = some x → σ[i]? = some (some v) → Vis X.env.scope x → ∃ u, RelV v u ∧ Look X.env s.heap m x u
  cell : ∀ x c, X.env.cells.lookup x = some c → ∃ v, s.heap.IsCell c v
  free : H X.env.locals = none
  freeC : ∀ x c, X.env.cells.lookup x = some c → H c = none
  pin : ∀ p ∈ X.pn ++ pins, s.heap.get? p.1 = some p.2 ∧ H p.1 = none ∧ p.1 ≠ X.env.locals ∧ p.1 ∉ X.fs ∧ ∀ v, p.2.data ≠ .cell v
  hok : HOk X.prog X.w H s.heap
  len : σ.length = X.N.length

section
variable {X : Cx} {pins : List (Addr × Obj)} {σ : List (Option V)} {H H' : Hp} {s : Shared} {h' : Heap}

theorem Cx.Ok.nofr (ok : X.Ok) {b : Addr} {o : Obj} (e : X.base.get? b = some o) : b ∉ X.fs := fun hb => by
  have := (ok.funs.mem hb).1
  rw [e] at this; cases this
theorem Inv.bs (I : Inv X pins σ H s) : ∀ b o, X.base.get? b = some o → s.heap.get? b = some o ∧ H b = none := fun b o e =>
  ⟨I.base.keep b o (I.ok.bs b o e).1 (I.ok.bs b o e).2 (I.ok.nofr e) (I.ok.noex b o e), I.base.free b o (I.ok.bs b o e).1 (I.ok.bs b o e).2 (I.ok.noex b o e)⟩
theorem Inv.bk (I : Inv X pins σ H s) : ∀ b o, X.base.get? b = some o → s.heap.get? b = some o := fun b o e => (I.bs b o e).1
theorem Inv.mod (I : Inv X pins σ H s) : Mod X.K X.mg X.base := I.ok.mod
theorem Inv.kIn (I : Inv X pins σ H s) : X.K.In s.heap := I.ok.mod.kin.keeps I.bk
theorem Inv.lt (I : Inv X pins σ H s) : X.env.locals < s.heap.objs.size := let ⟨_, hn, _⟩ := I.loc; hn.lt
theorem Inv.sz (I : Inv X pins σ H s) : X.s_0.heap.objs.size ≤ s.heap.objs.size := Nat.le_trans I.ok.above (Nat.le_of_lt I.lt)
theorem Inv.nofs (I : Inv X pins σ H s) {a : Addr} (h : s.heap.objs.size ≤ a) : a ∉ X.fs := fun hb => by
  obtain ⟨_, o, ho, _⟩ := I.ok.funs.mem hb
  exact absurd (Nat.lt_of_lt_of_le (Heap.lt_size ho) (Nat.le_trans I.sz h)) (Nat.lt_irrefl _)
theorem Inv.cne (I : Inv X pins σ H s) : ∀ x c, X.env.cells.lookup x = some c → c ≠ X.env.locals := fun x c e z => by
  obtain ⟨v, o, ho, hd⟩ := I.cell x c e
  obtain ⟨m, ⟨o', es, ep, ho', hd', _⟩, _⟩ := I.loc
  rw [z, ho'] at ho; cases ho; rw [hd'] at hd; cases hd
theorem Inv.funs (I : Inv X pins σ H s) : s.heap.FunFrames X.base X.outer := by
  have all : ∀ (l : List Env), (∀ b ∈ frs l, b ∈ X.fs) → X.s_0.heap.FunFrames X.base l → s.heap.FunFrames X.base l := by
    intro l
    induction l with
    | nil => intro _ _; trivial
    | cons env r ih =>
      intro hs hl
      obtain ⟨hk, ⟨L, o, hf, hn, ho, hd⟩, hr⟩ := hl
      have hL : L ∈ X.fs := hs L (by unfold frs; rw [List.filterMap_cons, hf]; exact List.mem_cons_self)
      obtain ⟨sl, e⟩ := I.base.slot L o ho (I.ok.frf L hL) hL fun z => I.ok.exfs L z hL
      exact ⟨hk, ⟨L, _, hf, hn, e, hd⟩, ih (fun b hb => hs b (by unfold frs; rw [List.filterMap_cons, hf]; exact List.mem_cons_of_mem _ hb)) hr⟩
  exact all X.outer (fun _ hb => hb) I.ok.funs


theorem Inv.stack (I : Inv X pins σ H s) : s.heap.FunFrames X.base X.stack := by
  rcases I.ok.stk with e | ⟨e, hf⟩
  · rw [e]; exact I.funs
  · rw [e]
    obtain ⟨m, hn, _⟩ := I.loc
    refine .cons (by rw [I.ok.kind]; decide) hf hn ?_ I.funs
    exact Heap.get?_none_of_le (Nat.le_trans I.ok.bsz I.ok.above)
theorem Inv.stkSub (I : Inv X pins σ H s) : ∀ b ∈ frs X.stack, b ∈ X.env.locals :: X.fs := fun b hb => by
  rcases I.ok.stk with e | ⟨e, hf⟩
  · rw [e] at hb; exact List.mem_cons_of_mem _ hb
  · rw [e] at hb
    unfold frs at hb
    rw [List.filterMap_cons, hf] at hb
    exact hb
theorem Inv.stkFree (I : Inv X pins σ H s) : ∀ b ∈ frs X.stack, H b = none := fun b hb => by
  rcases List.mem_cons.mp (I.stkSub b hb) with e | hb
  · rw [e]; exact I.free
  · obtain ⟨_, o, ho, _⟩ := I.ok.funs.mem hb
    exact I.base.free b o ho (I.ok.frf b hb) fun z => I.ok.exfs b z hb


theorem Inv.step {g' : Array GenState} {t' : Nat} {d' : Drawn} {ch : List Addr} (I : Inv X pins σ H s)
    (hch : ∀ b ∈ ch, (b ∈ X.ex ∨ X.s_0.heap.objs.size ≤ b) ∧ b ≠ X.env.locals ∧ (∀ x c, X.env.cells.lookup x = some c → c ≠ b) ∧ ∀ p ∈ X.pn ++ pins, p.1 ≠ b)
    (keep : ∀ b o, b ≠ X.env.locals → b ∉ X.fs → b ∉ ch → s.heap.get? b = some o → H b = none → h'.get? b = some o)
    (slot : ∀ b o, b ≠ X.env.locals → b ∈ X.fs → b ∉ ch → s.heap.get? b = some o → H b = none → ∃ sl, h'.get? b = some { o with slots := sl }) (free : ∀ b o, b ∉ ch → s.heap.get? b = some o → H b = none → H' b = none)
    (there : ∀ b o, b ∉ ch → s.heap.get? b = some o → ∃ o', h'.get? b = some o')
    (tups : ∀ b xs, H b = some (.tup xs) → H' b = some (.tup xs)) (frzs : ∀ b o u, H b = some (.frz o u) → H' b = some (.frz o u)) (tbls : ∀ b ps, H b = some (.tbl ps) → ∃ more, H' b = some (.tbl (ps ++ more)))
    (ns : ∀ m, s.heap.Ns X.env.locals m → h'.Ns X.env.locals m) (hok : HOk X.prog X.w H' h') (hg : AllBare g') :
    Inv X pins σ H' { s with heap := h', gens := g', drawn := d', toks := t' } := by
  have neL : ∀ b o, X.s_0.heap.get? b = some o → b ≠ X.env.locals := fun b o e => Nat.ne_of_lt (Nat.lt_of_lt_of_le (Heap.lt_size e) I.ok.above)
  have neC : ∀ b o, X.s_0.heap.get? b = some o → b ∉ X.ex → b ∉ ch := fun b o e hx hb => by
    rcases (hch b hb).1 with z | z
    · exact hx z
    · exact absurd (Nat.lt_of_lt_of_le (Heap.lt_size e) z) (Nat.lt_irrefl _)
  have cellK : ∀ x c, X.env.cells.lookup x = some c → ∀ v, s.heap.IsCell c v → h'.IsCell c v := fun x c e v ⟨o, ho, hd⟩ => by
    have nch : c ∉ ch := fun z => (hch c z).2.2.1 x c e rfl
    by_cases hc : c ∈ X.fs
    · obtain ⟨sl, q⟩ := slot c o (I.cne x c e) hc nch ho (I.freeC x c e)
      exact ⟨_, q, hd⟩
    · exact ⟨o, keep c o (I.cne x c e) hc nch ho (I.freeC x c e), hd⟩
  refine ⟨I.ok, I.os, hg, ⟨fun b o e n hb hx => ?_, fun b o e n hb hx => ?_, fun b o e n hx => ?_, fun b o e hx => ?_, fun b xs e => tups b xs (I.base.tups b xs e), fun b o xs e => frzs b o xs (I.base.frzs b o xs e), fun b ps e => ?_⟩, ?_, fun x c e => ?_, ?_, fun x c e => ?_, fun p hp => ?_, hok, I.len⟩
  · exact keep b o (neL b o e) hb (neC b o e hx) (I.base.keep b o e n hb hx) (I.base.free b o e n hx)
  · obtain ⟨sl, e1⟩ := I.base.slot b o e n hb hx
    obtain ⟨sl', e2⟩ := slot b _ (neL b o e) hb (neC b o e hx) e1 (I.base.free b o e n hx)
    exact ⟨sl', e2⟩
  · obtain ⟨o', e1⟩ := I.base.there b o e hx
    exact free b o' (neC b o e hx) e1 (I.base.free b o e n hx)
  · obtain ⟨o', e1⟩ := I.base.there b o e hx
    exact there b o' (neC b o e hx) e1
  · obtain ⟨m1, e1⟩ := I.base.tbls b ps e
    obtain ⟨m2, e2⟩ := tbls b _ e1
    exact ⟨m1 ++ m2, by rw [e2, Array.append_assoc]⟩
  · obtain ⟨m, hn, hl⟩ := I.loc
    refine ⟨m, ns m hn, fun i x v e1 e2 e3 => ?_⟩
    obtain ⟨u, r, l⟩ := hl i x v e1 e2 e3
    refine ⟨u, r, ?_⟩
    rcases l with l | ⟨k, c, e, z⟩
    · exact .inl l
    · exact .inr ⟨k, c, e, cellK x c e _ z⟩
  · obtain ⟨v, z⟩ := I.cell x c e
    exact ⟨v, cellK x c e v z⟩
  · obtain ⟨m, ⟨o, _, _, ho, _⟩, _⟩ := I.loc
    exact free _ o (fun z => (hch _ z).2.1 rfl) ho I.free
  · obtain ⟨v, o, ho, hd⟩ := I.cell x c e
    exact free c o (fun z => (hch c z).2.2.1 x c e rfl) ho (I.freeC x c e)
  · obtain ⟨e, n, ne, nf, d⟩ := I.pin p hp
    have nch : p.1 ∉ ch := fun z => (hch p.1 z).2.2.2 p hp rfl
    exact ⟨keep p.1 p.2 ne nf nch e n, free p.1 p.2 nch e n, ne, nf, d⟩

theorem Inv.un {t' : Nat} (I : Inv X pins σ H s) (u : Un X.fs [] H H' s.heap h') (hok : HOk X.prog X.w H' h') : Inv X pins σ H' { s with heap := h', toks := t' } := by
  obtain ⟨m, ⟨o, es, ep, ho, r⟩, _⟩ := id I.loc
  obtain ⟨sl, hL⟩ := u.any ho I.free (by simp)
  exact I.step (g' := s.gens) (d' := s.drawn) (ch := []) (fun _ z => nomatch z) (fun b o _ hb _ e n => u.keep b o e n hb (by simp)) (fun b o _ hb _ e n => u.slot b o e n hb (by simp)) (fun b o _ e n => u.free b o e n (by simp)) (fun b o _ e => u.there b o e (by simp)) u.tups u.frzs u.tbls (fun m' hm => by
    obtain ⟨o', es', ep', ho', r'⟩ := hm
    rw [ho] at ho'; cases ho'
    exact ⟨_, es', ep', hL, r'⟩) hok I.bare

theorem Inv.call {g' : Array GenState} {t' : Nat} {d' : Drawn} {ch : List Addr} (I : Inv X pins σ H s) (u : Un (frs X.stack) ch H H' s.heap h') (hok : HOk X.prog X.w H' h') (hg : AllBare g')
    (hch : ∀ b ∈ ch, (b ∈ X.ex ∨ X.s_0.heap.objs.size ≤ b) ∧ b ≠ X.env.locals ∧ (∀ x c, X.env.cells.lookup x = some c → c ≠ b) ∧ ∀ p ∈ X.pn ++ pins, p.1 ≠ b) :
    Inv X pins σ H' { s with heap := h', gens := g', drawn := d', toks := t' } := by
  obtain ⟨m, ⟨o, es, ep, ho, r⟩, _⟩ := id I.loc
  obtain ⟨sl, hL⟩ := u.any ho I.free fun z => (hch _ z).2.1 rfl
  exact I.step (ch := ch) hch (fun b o hL hb hc e n => u.keep b o e n (fun z => (List.mem_cons.mp (I.stkSub b z)).elim hL hb) hc) (fun b o _ _ hc e n => u.any e n hc) (fun b o hc e n => u.free b o e n hc) (fun b o hc e => u.there b o e hc) u.tups u.frzs u.tbls (fun m' hm => by
    obtain ⟨o', es', ep', ho', r'⟩ := hm
    rw [ho] at ho'; cases ho'
    exact ⟨_, es', ep', hL, r'⟩) hok hg

theorem Inv.turned {t' : Nat} {it : Addr} (I : Inv X pins σ H s) (k : ∀ b o, b ≠ it → s.heap.get? b = some o → h'.get? b = some o) (hn : H it = none) (hL : it ≠ X.env.locals)
    (h1 : it ∈ X.ex ∨ X.s_0.heap.objs.size ≤ it) (h2 : ∀ x c, X.env.cells.lookup x = some c → c ≠ it) (h3 : ∀ p ∈ X.pn ++ pins, p.1 ≠ it) : Inv X pins σ H { s with heap := h', toks := t' } := by
  have nit : ∀ b u, H b = some u → b ≠ it := fun b u e z => by rw [z, hn] at e; cases e
  refine I.step (g' := s.gens) (d' := s.drawn) (ch := [it]) (fun b hb => ?_) (fun b o _ _ hc e _ => k b o (fun z => hc (by simp [z])) e) (fun b o _ _ hc e _ => ⟨o.slots, k b o (fun z => hc (by simp [z])) e⟩) (fun _ _ _ _ n => n)
    (fun b o hc e => ⟨o, k b o (fun z => hc (by simp [z])) e⟩) (fun _ _ e => e) (fun _ _ _ e => e) (fun b ps e => ⟨#[], by rw [e]; simp⟩) (fun m hm => ?_) (fun b u e => ?_) I.bare
  · have e : b = it := by simpa using hb
    subst e
    exact ⟨h1, hL, h2, h3⟩
  · obtain ⟨o, es, ep, ho, r⟩ := hm
    exact ⟨o, es, ep, k _ o (Ne.symm hL) ho, r⟩
  · refine (I.hok b u e).stay (fun c v hc q => k c v ?_ q) (fun _ q => q) fun _ _ q => q
    rcases hc with z | z
    · rw [z]; exact nit b u e
    · exact nit c _ z
theorem Inv.tok (I : Inv X pins σ H s) (t : Nat) : Inv X pins σ H { s with toks := t } := I.un (h' := s.heap) (t' := t) Un.refl I.hok

theorem Inv.kept {t' : Nat} (I : Inv X pins σ H s) (k : ∀ b u, s.heap.get? b = some u → h'.get? b = some u) : Inv X pins σ H { s with heap := h', toks := t' } := I.un (Un.kept k) (I.hok.kept k)

theorem Inv.laid {a : Addr} {o : HO} {t' : Nat} (I : Inv X pins σ H s) (k : ∀ b u, s.heap.get? b = some u → h'.get? b = some u) (hp : s.heap.objs.size ≤ a) (new : ObjOk X.prog X.w (upd H a o) h' a o) :
    Inv X pins σ (upd H a o) { s with heap := h', toks := t' } := I.un (Un.laid k hp (I.hok.fresh hp)) (I.hok.laid k hp new)

theorem Inv.write {x e : Addr} {o : HO} {t' : Nat} (I : Inv X pins σ H s) (mu : Mut (H x)) (he : e = x ∨ H e = some (.own x)) (k : ∀ b u, b ≠ e → s.heap.get? b = some u → h'.get? b = some u) (heo : ∃ u, h'.get? e = some u)
    (new : ObjOk X.prog X.w (upd H x o) h' x o) : Inv X pins σ (upd H x o) { s with heap := h', toks := t' } := I.un (Un.write mu he k heo) (I.hok.write mu he k heo new)

theorem Inv.weak {σ' : List (Option V)} (I : Inv X pins σ H s) (hl : σ'.length = σ.length) (w : ∀ (i : Nat) v, σ'[i]? = some (some v) → σ[i]? = some (some v)) : Inv X pins σ' H s :=
  ⟨I.ok, I.os, I.bare, I.base, let ⟨m, hn, hl'⟩ := I.loc; ⟨m, hn, fun i x v e1 e2 e3 => hl' i x v e1 (w i v e2) e3⟩, I.cell, I.free, I.freeC, I.pin, I.hok, hl.trans I.len⟩
theorem Inv.pins_of {pins' : List (Addr × Obj)} (I : Inv X pins σ H s) (h : ∀ p ∈ pins', s.heap.get? p.1 = some p.2 ∧ H p.1 = none ∧ p.1 ≠ X.env.locals ∧ p.1 ∉ X.fs ∧ ∀ v, p.2.data ≠ .cell v) : Inv X pins' σ H s :=
  ⟨I.ok, I.os, I.bare, I.base, I.loc, I.cell, I.free, I.freeC, fun p hp => (List.mem_append.mp hp).elim (fun z => I.pin p (List.mem_append_left _ z)) (h p), I.hok, I.len⟩

theorem nodup_ix {N : List Str} (hN : N.Nodup) {i j : Nat} {x : Str} (a : N[i]? = some x) (b : N[j]? = some x) : i = j := by
  obtain ⟨h1, e1⟩ := List.getElem?_eq_some_iff.mp a
  obtain ⟨h2, e2⟩ := List.getElem?_eq_some_iff.mp b
  exact (List.getElem_inj hN).mp (e1.trans e2.symm)


theorem store_ok2 {M : Model} {A : Around} {E : Value → Shared → Prop} {i : Nat} {x : Str} {v : V} {u : Value} {Q : Unit → Shared → Prop} (I : Inv X pins σ H s) (hN : X.N.Nodup) (hi : X.N[i]? = some x) (hx : Loc X.env.scope x) (r : RelV v u)
    (h : ∀ s', Inv X pins (σ.set i (some v)) H s' → (∃ a, Heap.SameBut a s.heap s'.heap ∧ (a = X.env.locals ∨ X.env.cells.lookup x = some a)) → Q () s') (hf : X.fn x = true ∨ X.env.scope.names.lookup x = some .local := by first | exact .inl rfl | exact .inr rfl | assumption) : wpAny M A (storeName X.env x u) Q E s := by
  obtain ⟨m, hn, hl⟩ := id I.loc
  have hcls : (X.env.scope.kind == .class || (X.env.scope.kind == .module && X.env.locals != X.env.globals)) = false := by rw [I.ok.kind]; rfl
  have hiσ : i < σ.length := by rw [I.len]; exact (List.getElem?_eq_some_iff.mp hi).1
  have cne := I.cne
  have tracked : ∀ {a : Addr} {h' : Heap}, (∃ o, s.heap.get? a = some o ∧ H a = none) → Heap.SameBut a s.heap h' → HOk X.prog X.w H h' := fun {a h'} ha hs b ob e => by
    obtain ⟨_, _, hfree⟩ := ha
    refine (I.hok b ob e).stay (fun c w' hc q => (hs.2 c ?_).trans q) (fun _ q => q) fun _ _ q => q
    rintro rfl
    rcases hc with rfl | hc
    · rw [hfree] at e; cases e
    · rw [hfree] at hc; cases hc
  rcases hx with hk | hk
  · refine wpAny_storeName_local hk hn (fun h' hn' hs => ?_) hcls
    obtain ⟨oL, _, _, hoL, _⟩ := id hn
    refine h _ ⟨I.ok, I.os, I.bare, ⟨fun b o e n hb hx => ?_, fun b o e n hb hx => ?_, I.base.free, fun b o e hx => ?_, I.base.tups, I.base.frzs, I.base.tbls⟩, ⟨_, hn', fun j y v' e1 e2 e3 => ?_⟩, fun y c e => ?_, I.free, I.freeC, fun p hp => ?_, tracked ⟨oL, hoL, I.free⟩ hs, by simpa using I.len⟩ ⟨_, hs, .inl rfl⟩
    · exact (hs.2 b (Nat.ne_of_lt (Nat.lt_of_lt_of_le (Heap.lt_size e) I.ok.above))).trans (I.base.keep b o e n hb hx)
    · obtain ⟨sl, e1⟩ := I.base.slot b o e n hb hx
      exact ⟨sl, (hs.2 b (Nat.ne_of_lt (Nat.lt_of_lt_of_le (Heap.lt_size e) I.ok.above))).trans e1⟩
    · obtain ⟨o', e1⟩ := I.base.there b o e hx
      exact ⟨o', (hs.2 b (Nat.ne_of_lt (Nat.lt_of_lt_of_le (Heap.lt_size e) I.ok.above))).trans e1⟩
    · by_cases hj : j = i
      · subst hj
        rw [hi] at e1; cases e1
        rw [List.getElem?_set_self hiσ] at e2
        cases e2
        exact ⟨u, r, .inl ⟨hk, by simp⟩⟩
      · rw [List.getElem?_set_ne (Ne.symm hj)] at e2
        obtain ⟨u', r', q⟩ := hl j y v' e1 e2 e3
        refine ⟨u', r', ?_⟩
        rcases q with ⟨k, e⟩ | ⟨k, c, e, z⟩
        · refine .inl ⟨k, ?_⟩
          have : y ≠ x := fun e => hj (nodup_ix hN e1 (e ▸ hi))
          simp [this, e]
        · exact .inr ⟨k, c, e, z.sameBut hs (cne y c e)⟩
    · obtain ⟨w', z⟩ := I.cell y c e
      exact ⟨w', z.sameBut hs (cne y c e)⟩
    · obtain ⟨e, n, ne, nf, d⟩ := I.pin p hp
      exact ⟨(hs.2 p.1 ne).trans e, n, ne, nf, d⟩
  · have hfn : X.fn x = true := by
      rcases hf with z | z
      · exact z
      · rw [z] at hk; cases hk
    obtain ⟨c, hc⟩ := I.ok.has x (.inl hk)
    obtain ⟨w', z⟩ := I.cell x c hc
    refine wpAny_storeName_cell I.ok.kind hk hc z (fun h' hc' hs => ?_)
    obtain ⟨oc, hoc, hocd⟩ := id z
    refine h { s with heap := h' } ⟨I.ok, I.os, I.bare, ⟨fun b o e n hb hx => ?_, fun b o e n hb hx => ?_, I.base.free, fun b o e hx => ?_, I.base.tups, I.base.frzs, I.base.tbls⟩, ⟨m, hn.sameBut hs (Ne.symm (cne x c hc)), fun j y v' e1 e2 e3 => ?_⟩, fun y c' e => ?_, I.free, I.freeC, fun p hp => ?_, tracked ⟨oc, hoc, I.freeC x c hc⟩ hs, by simpa using I.len⟩ ⟨c, hs, .inr hc⟩
    · exact (hs.2 b (Nat.ne_of_lt (Nat.lt_of_lt_of_le (Heap.lt_size e) (I.ok.cab x c hfn hc)))).trans (I.base.keep b o e n hb hx)
    · obtain ⟨sl, e1⟩ := I.base.slot b o e n hb hx
      exact ⟨sl, (hs.2 b (Nat.ne_of_lt (Nat.lt_of_lt_of_le (Heap.lt_size e) (I.ok.cab x c hfn hc)))).trans e1⟩
    · obtain ⟨o', e1⟩ := I.base.there b o e hx
      exact ⟨o', (hs.2 b (Nat.ne_of_lt (Nat.lt_of_lt_of_le (Heap.lt_size e) (I.ok.cab x c hfn hc)))).trans e1⟩
    · by_cases hj : j = i
      · subst hj
        rw [hi] at e1; cases e1
        rw [List.getElem?_set_self hiσ] at e2
        cases e2
        exact ⟨u, r, .inr ⟨.inl hk, c, hc, hc'⟩⟩
      · rw [List.getElem?_set_ne (Ne.symm hj)] at e2
        obtain ⟨u', r', q⟩ := hl j y v' e1 e2 e3
        refine ⟨u', r', ?_⟩
        rcases q with q | ⟨k, c', e, z'⟩
        · exact .inl q
        · refine .inr ⟨k, c', e, z'.sameBut hs ?_⟩
          rintro rfl
          exact hj (nodup_ix hN e1 (I.ok.inj _ _ _ e hc ▸ hi))
    · by_cases hcc : c' = c
      · subst hcc; exact ⟨_, hc'⟩
      · obtain ⟨w2, z2⟩ := I.cell y c' e
        exact ⟨w2, z2.sameBut hs hcc⟩
    · obtain ⟨e, n, ne, nf, d⟩ := I.pin p hp
      refine ⟨(hs.2 p.1 ?_).trans e, n, ne, nf, d⟩
      intro q
      rw [q, hoc] at e
      have q' : oc = p.2 := Option.some.inj e
      exact d w' (by rw [← q']; exact hocd)
theorem store_ok {M : Model} {A : Around} {E : Value → Shared → Prop} {i : Nat} {x : Str} {v : V} {u : Value} {Q : Unit → Shared → Prop} (I : Inv X pins σ H s) (hN : X.N.Nodup) (hi : X.N[i]? = some x) (hx : Loc X.env.scope x) (r : RelV v u)
    (h : ∀ s', Inv X pins (σ.set i (some v)) H s' → Q () s') (hf : X.fn x = true ∨ X.env.scope.names.lookup x = some .local := by first | exact .inl rfl | exact .inr rfl | assumption) : wpAny M A (storeName X.env x u) Q E s :=
  store_ok2 I hN hi hx r (fun s' I' _ => h s' I') hf

theorem Inv.call' {s' : Shared} {ch : List Addr} (I : Inv X pins σ H s) (ho : s'.os = s.os) (u : Un (frs X.stack) ch H H' s.heap s'.heap) (hok : HOk X.prog X.w H' s'.heap) (hg : AllBare s'.gens)
    (hch : ∀ b ∈ ch, (b ∈ X.ex ∨ X.s_0.heap.objs.size ≤ b) ∧ b ≠ X.env.locals ∧ (∀ x c, X.env.cells.lookup x = some c → c ≠ b) ∧ ∀ p ∈ X.pn ++ pins, p.1 ≠ b) : Inv X pins σ H' s' := by
  obtain ⟨h', g', d', t', o'⟩ := s'
  have e : o' = s.os := ho
  subst e
  exact I.call (g' := g') (t' := t') (d' := d') u hok hg hch
end



noncomputable abbrev XK := Value → Option Addr → Hp → Prop
noncomputable abbrev St := List (Option V)
noncomputable abbrev VK := V → Hp → Prop

noncomputable abbrev TE := St → Hp → VK → Prop
noncomputable abbrev TT := St → Hp → (Bool → Hp → Prop) → Prop
noncomputable abbrev TA := St → Hp → (List V → Hp → Prop) → Prop

structure Ends where
  nx : St → Hp → Prop
  rt : VK
  bk : St → Hp → Prop := fun _ _ => False
  ct : St → Hp → Prop := fun _ _ => False
noncomputable abbrev TS := Ends → St → Hp → Prop

noncomputable def EP (X : Cx) (pins : List (Addr × Obj)) (σ : St) (Q : VK) (u : Value) (s' : Shared) : Prop := ∃ v H', Inv X pins σ H' s' ∧ RelV v u ∧ Q v H'
noncomputable def TP (X : Cx) (pins : List (Addr × Obj)) (σ : St) (Q : Bool → Hp → Prop) (b : Bool) (s' : Shared) : Prop := ∃ H', Inv X pins σ H' s' ∧ Q b H'
noncomputable def AP (X : Cx) (pins : List (Addr × Obj)) (σ : St) (Q : List V → Hp → Prop) (us : List Value) (s' : Shared) : Prop := ∃ vs H', Inv X pins σ H' s' ∧ Vals vs us ∧ Q vs H'
noncomputable def SP (X : Cx) (pins : List (Addr × Obj)) (D : Ends) (f : Flow) (s' : Shared) : Prop :=
  match f with
  | .next => ∃ σ' H', Inv X pins σ' H' s' ∧ D.nx σ' H'
  | .brk => ∃ σ' H', Inv X pins σ' H' s' ∧ D.bk σ' H'
  | .cont => ∃ σ' H', Inv X pins σ' H' s' ∧ D.ct σ' H'
  | .ret u => ∃ v σ' H', Inv X pins σ' H' s' ∧ RelV v u ∧ D.rt v H'

structure PE (X : Cx) (e : Expr) (t : TE) : Prop where
  run :
    ∀ (pins : List (Addr × Obj)) (s : Shared) (σ : St) (H : Hp) (Q : VK), Inv X pins σ H s → t σ H Q → wpAny (model X.prog X.w) X.A (eval e X.env) (EP X pins σ Q) X.xe s
instance {X : Cx} {e : Expr} {t : TE} : CoeFun (PE X e t) (fun _ =>
  ∀ (pins : List (Addr × Obj)) (s : Shared) (σ : St) (H : Hp) (Q : VK), Inv X pins σ H s → t σ H Q → wpAny (model X.prog X.w) X.A (eval e X.env) (EP X pins σ Q) X.xe s) := ⟨PE.run⟩
structure PT (X : Cx) (e : Expr) (t : TT) : Prop where
  run :
    ∀ (pins : List (Addr × Obj)) (s : Shared) (σ : St) (H : Hp) (Q : Bool → Hp → Prop), Inv X pins σ H s → t σ H Q → wpAny (model X.prog X.w) X.A (isTrue e X.env (eval e X.env)) (TP X pins σ Q) X.xe s
instance {X : Cx} {e : Expr} {t : TT} : CoeFun (PT X e t) (fun _ =>
  ∀ (pins : List (Addr × Obj)) (s : Shared) (σ : St) (H : Hp) (Q : Bool → Hp → Prop), Inv X pins σ H s → t σ H Q → wpAny (model X.prog X.w) X.A (isTrue e X.env (eval e X.env)) (TP X pins σ Q) X.xe s) := ⟨PT.run⟩

structure PW (X : Cx) (e : Expr) (t : TT) : Prop where
  run :
    ∀ (whole : Sem Value) (pins : List (Addr × Obj)) (s : Shared) (σ : St) (H : Hp) (Q : Bool → Hp → Prop), Inv X pins σ H s → t σ H Q → wpAny (model X.prog X.w) X.A (isTrue e X.env whole) (TP X pins σ Q) X.xe s
instance {X : Cx} {e : Expr} {t : TT} : CoeFun (PW X e t) (fun _ =>
  ∀ (whole : Sem Value) (pins : List (Addr × Obj)) (s : Shared) (σ : St) (H : Hp) (Q : Bool → Hp → Prop), Inv X pins σ H s → t σ H Q → wpAny (model X.prog X.w) X.A (isTrue e X.env whole) (TP X pins σ Q) X.xe s) := ⟨PW.run⟩
theorem PW.pt {X : Cx} {e : Expr} {t : TT} (h : PW X e t) : PT X e t := ⟨h.run _⟩

structure PA (X : Cx) (es : List Expr) (t : TA) : Prop where
  run :
    ∀ (pos : Pos) (pins : List (Addr × Obj)) (s : Shared) (σ : St) (H : Hp) (Q : List V → Hp → Prop), Inv X pins σ H s → t σ H Q → wpAny (model X.prog X.w) X.A (spliced (backTo pos (starEach es X.env))) (AP X pins σ Q) X.xe s
instance {X : Cx} {es : List Expr} {t : TA} : CoeFun (PA X es t) (fun _ =>
  ∀ (pos : Pos) (pins : List (Addr × Obj)) (s : Shared) (σ : St) (H : Hp) (Q : List V → Hp → Prop), Inv X pins σ H s → t σ H Q → wpAny (model X.prog X.w) X.A (spliced (backTo pos (starEach es X.env))) (AP X pins σ Q) X.xe s) := ⟨PA.run⟩
structure PS (X : Cx) (st : Stmt) (t : TS) : Prop where
  run :
    ∀ (pins : List (Addr × Obj)) (s : Shared) (σ : St) (H : Hp) (D : Ends), Inv X pins σ H s → t D σ H → wpAny (model X.prog X.w) X.A (exec st X.env) (SP X pins D) X.xe s
instance {X : Cx} {st : Stmt} {t : TS} : CoeFun (PS X st t) (fun _ =>
  ∀ (pins : List (Addr × Obj)) (s : Shared) (σ : St) (H : Hp) (D : Ends), Inv X pins σ H s → t D σ H → wpAny (model X.prog X.w) X.A (exec st X.env) (SP X pins D) X.xe s) := ⟨PS.run⟩
structure PSs (X : Cx) (st : List Stmt) (t : TS) : Prop where
  run :
    ∀ (pins : List (Addr × Obj)) (s : Shared) (σ : St) (H : Hp) (D : Ends), Inv X pins σ H s → t D σ H → wpAny (model X.prog X.w) X.A (execs st X.env) (SP X pins D) X.xe s
instance {X : Cx} {st : List Stmt} {t : TS} : CoeFun (PSs X st t) (fun _ =>
  ∀ (pins : List (Addr × Obj)) (s : Shared) (σ : St) (H : Hp) (D : Ends), Inv X pins σ H s → t D σ H → wpAny (model X.prog X.w) X.A (execs st X.env) (SP X pins D) X.xe s) := ⟨PSs.run⟩

theorem thn {α : Type} {t : Sem α} {Q Q' : α → Shared → Prop} {M : Model} {A : Around} {E : Value → Shared → Prop} {s : Shared} (h : wpAny M A t Q E s) (hQ : ∀ a s, Q a s → Q' a s) : wpAny M A t Q' E s := wpAny_mono h hQ fun _ _ x => x
end L2

namespace L2
open PySem PySem.Spec PyProof.Rows
section
variable {X : Cx}


noncomputable def tVar (i : Nat) : TE := fun σ H Q => ∃ v, σ[i]? = some (some v) ∧ Q v H
noncomputable def tC (v : V) : TE := fun _ H Q => Q v H
theorem pe_var {i : Nat} {x : Str} {pos : Pos} (hN : X.N[i]? = some x) (hv : Vis X.env.scope x) (hd : (x == ("__debug__" : Str)) = false := by decide) (hcd : (x == ("__classdict__" : Str)) = false := by decide) : PE X (.Name x pos) (tVar i) := by
  constructor
  intro pins s σ H Q I h
  obtain ⟨v, e, h⟩ := h
  obtain ⟨m, hn, hl⟩ := I.loc
  obtain ⟨u, r, l⟩ := hl i x v hN e hv
  have fin : EP X pins σ Q u s := ⟨v, H, I, r, h⟩
  rcases l with ⟨hk, hm⟩ | ⟨hk, c, hc, hcell⟩
  · exact wpAny_Name (wpAny_loadName_local I.ok.kind hk hn hm fin) hd
  · rcases hk with hk | hk
    · exact wpAny_Name (wpAny_loadName_cell I.ok.kind hk hc hcell fin) hd
    · exact wpAny_Name (wpAny_loadName_free I.ok.kind hk hc hcell fin hcd) hd
theorem pe_int {i j pos} : PE X (.Constant (.int i) j pos) (tC (.int i)) := ⟨fun _ _ _ H _ I h => wpAny_Constant_int ⟨.int i, H, I.tok _, ⟨_, rfl⟩, h⟩⟩
theorem pe_bl {b j pos} : PE X (.Constant (.bool b) j pos) (tC (.bl b)) := ⟨fun _ _ _ H _ I h => Constant_bool ⟨.bl b, H, I, rfl, h⟩⟩
theorem pe_non {j pos} : PE X (.Constant .none j pos) (tC .non) := ⟨fun _ _ _ H _ I h => Constant_none ⟨.non, H, I, rfl, h⟩⟩
theorem pe_str {x j pos} : PE X (.Constant (.str x) j pos) (tC (.str x)) := ⟨fun _ _ _ H _ I h => Calls.Constant_str ⟨.str x, H, I.tok _, ⟨_, rfl⟩, h⟩⟩


noncomputable def Gl (X : Cx) (x : Str) : Prop := X.env.kindOf x = some .globalImplicit
theorem ld_glob {E : Value → Shared → Prop} {pins : List (Addr × Obj)} {s : Shared} {σ : St} {H : Hp} {x : Str} {u : Value} {pos : Pos} {Q : Value → Shared → Prop} (I : Inv X pins σ H s) (hg : Gl X x) (hm : X.mg x = some u) (h : Q u s)
    (hd : (x == ("__debug__" : Str)) = false := by decide) : wpAny (model X.prog X.w) X.A (eval (.Name x pos) X.env) Q E s :=
  Calls.Name_function_global I.ok.kind hg (Calls.loadGlobal_global (by rw [I.ok.glob]; exact I.mod.glob.keeps I.bk) hm h) hd
theorem ld_blt {E : Value → Shared → Prop} {pins : List (Addr × Obj)} {s : Shared} {σ : St} {H : Hp} {x : Str} {u : Value} {pos : Pos} {Q : Value → Shared → Prop} (I : Inv X pins σ H s) (hg : Gl X x) (hm : X.mg x = none) (hv : bootBuiltins x = some u) (h : Q u s)
    (hn : x ≠ "__name__" := by decide) (hd : (x == ("__debug__" : Str)) = false := by decide) : wpAny (model X.prog X.w) X.A (eval (.Name x pos) X.env) Q E s := by
  obtain ⟨mb, h1, h2⟩ := I.mod.blt
  exact Calls.Name_function_global I.ok.kind hg (Calls.loadGlobal_builtin (by rw [I.ok.glob]; exact I.mod.glob.keeps I.bk) hm (by rw [I.ok.blt]; exact h1.keeps I.bk) ((h2 x hn).trans hv) h) hd

theorem pe_glob {x : Str} {v : V} {u : Value} {pos : Pos} (hg : Gl X x) (hm : X.mg x = some u) (r : RelV v u) (hd : (x == ("__debug__" : Str)) = false := by decide) : PE X (.Name x pos) (tC v) :=
  ⟨fun _ _ _ H _ I h => ld_glob I hg hm ⟨v, H, I, r, h⟩ hd⟩
theorem pe_bltn {x : Str} {v : V} {u : Value} {pos : Pos} (hg : Gl X x) (hm : X.mg x = none) (hv : bootBuiltins x = some u) (r : RelV v u) (hn : x ≠ "__name__" := by decide) (hd : (x == ("__debug__" : Str)) = false := by decide) : PE X (.Name x pos) (tC v) :=
  ⟨fun _ _ _ H _ I h => ld_blt I hg hm hv ⟨v, H, I, r, h⟩ hn hd⟩



variable {a b : Expr} {ta tb : TE} {pos : Pos}
structure PC (X : Cx) (op : CmpOp) (a b : Expr) (t : TE) : Prop where
  run :
    ∀ (pins : List (Addr × Obj)) (s : Shared) (σ : St) (H : Hp) (Q : VK), Inv X pins σ H s → t σ H Q →
      wpAny (model X.prog X.w) X.A (eval a X.env) (fun v s₁ => wpAny (model X.prog X.w) X.A (eval b X.env) (fun u s₂ => wpAny (model X.prog X.w) X.A (compareOp op v u) (EP X pins σ Q) X.xe s₂) X.xe s₁) X.xe s
instance {X : Cx} {op : CmpOp} {a b : Expr} {t : TE} : CoeFun (PC X op a b t) (fun _ =>
  ∀ (pins : List (Addr × Obj)) (s : Shared) (σ : St) (H : Hp) (Q : VK), Inv X pins σ H s → t σ H Q →
    wpAny (model X.prog X.w) X.A (eval a X.env) (fun v s₁ => wpAny (model X.prog X.w) X.A (eval b X.env) (fun u s₂ => wpAny (model X.prog X.w) X.A (compareOp op v u) (EP X pins σ Q) X.xe s₂) X.xe s₁) X.xe s) := ⟨PC.run⟩
noncomputable def tB (t : TE) : TT := fun σ H Q => t σ H fun x H1 => ∃ c, x = .bl c ∧ Q c H1
theorem pt_val {e : Expr} {t : TE} (h : PE X e t) (he : ∀ whole, isTrue e X.env whole = (do let v ← whole; standAt e.pos; holding [v] (truthy v)) := by intro _; rfl) : PT X e (tB t) := by
  constructor
  intro pins s σ H Q I hw
  refine isTrue_plain (thn (h pins s σ H _ I hw) fun v s1 ⟨x, H1, I1, r1, q1⟩ => ?_) (he _)
  obtain ⟨d, rfl, q⟩ := q1
  cases r1
  exact wpAny_truthy_bool ⟨H1, I1, q⟩


variable {tA tB' : TT} {rest : List Expr}
noncomputable def tAnd (t u : TT) : TT := fun σ H Q => t σ H fun c H1 => if c = true then u σ H1 Q else Q false H1
noncomputable def tOr (t u : TT) : TT := fun σ H Q => t σ H fun c H1 => if c = true then Q true H1 else u σ H1 Q
noncomputable def tNot (t : TT) : TT := fun σ H Q => t σ H fun c H1 => Q (!c) H1
theorem pw_and1 (ha : PT X a tA) : PW X (.BoolOp .And [a] pos) tA := by
  constructor
  intro wh pins s σ H Q I h
  refine isTrue_and (thn (ha pins s σ H Q I h) fun c s1 e => ?_)
  cases c with
  | true => exact isTrue_and_nil e
  | false => exact e
theorem pw_or1 (ha : PT X a tA) : PW X (.BoolOp .Or [a] pos) tA := by
  constructor
  intro wh pins s σ H Q I h
  refine isTrue_or (thn (ha pins s σ H Q I h) fun c s1 e => ?_)
  cases c with
  | false => exact isTrue_or_nil e
  | true => exact e
theorem pw_and (ha : PT X a tA) (hb : PW X (.BoolOp .And (b :: rest) pos) tB') : PW X (.BoolOp .And (a :: b :: rest) pos) (tAnd tA tB') := by
  constructor
  intro wh pins s σ H Q I h
  refine isTrue_and (thn (ha pins s σ H _ I h) fun c s1 ⟨H1, I1, q1⟩ => ?_)
  cases c with
  | true => exact hb wh pins s1 σ H1 Q I1 q1
  | false => exact ⟨H1, I1, q1⟩
theorem pw_or (ha : PT X a tA) (hb : PW X (.BoolOp .Or (b :: rest) pos) tB') : PW X (.BoolOp .Or (a :: b :: rest) pos) (tOr tA tB') := by
  constructor
  intro wh pins s σ H Q I h
  refine isTrue_or (thn (ha pins s σ H _ I h) fun c s1 ⟨H1, I1, q1⟩ => ?_)
  cases c with
  | true => exact ⟨H1, I1, q1⟩
  | false => exact hb wh pins s1 σ H1 Q I1 q1
theorem pt_not (ha : PT X a tA) : PT X (.UnaryOp .Not a pos) (tNot tA) := by
  constructor
  intro pins s σ H Q I h
  exact isTrue_not (ha pins s σ H (fun c H1 => Q (!c) H1) I h)

noncomputable def tAndV (ta tb : TE) : TE := fun σ H Q => ta σ H fun x H1 => ∃ c, x = .bl c ∧ if c = true then tb σ H1 Q else Q (.bl false) H1
noncomputable def tOrV (ta tb : TE) : TE := fun σ H Q => ta σ H fun x H1 => ∃ c, x = .bl c ∧ if c = true then Q (.bl true) H1 else tb σ H1 Q
noncomputable def tNotV (ta : TE) : TE := fun σ H Q => ta σ H fun x H1 => ∃ c, x = .bl c ∧ Q (.bl (!c)) H1
theorem pe_one {op} {t : TE} (h : PE X a t) : PE X (.BoolOp op [a] pos) t := ⟨fun pins s σ H Q I hw => BoolOp_one (h pins s σ H Q I hw)⟩
theorem pe_and (ha : PE X a ta) (hb : PE X (.BoolOp .And (b :: rest) pos) tb) : PE X (.BoolOp .And (a :: b :: rest) pos) (tAndV ta tb) := by
  constructor
  intro pins s σ H Q I h
  refine BoolOp_and (thn (ha pins s σ H _ I h) fun v s1 ⟨x, H1, I1, r1, q1⟩ => ?_)
  obtain ⟨c, rfl, q1⟩ := q1
  cases r1
  refine wpAny_truthy_bool ?_
  cases c with
  | true => exact hb pins s1 σ H1 Q I1 q1
  | false => exact ⟨.bl false, H1, I1, rfl, q1⟩
theorem pe_or (ha : PE X a ta) (hb : PE X (.BoolOp .Or (b :: rest) pos) tb) : PE X (.BoolOp .Or (a :: b :: rest) pos) (tOrV ta tb) := by
  constructor
  intro pins s σ H Q I h
  refine BoolOp_or (thn (ha pins s σ H _ I h) fun v s1 ⟨x, H1, I1, r1, q1⟩ => ?_)
  obtain ⟨c, rfl, q1⟩ := q1
  cases r1
  refine wpAny_truthy_bool ?_
  cases c with
  | false => exact hb pins s1 σ H1 Q I1 q1
  | true => exact ⟨.bl true, H1, I1, rfl, q1⟩
theorem pe_not (ha : PE X a ta) : PE X (.UnaryOp .Not a pos) (tNotV ta) := by
  constructor
  intro pins s σ H Q I h
  refine UnaryOp_ (thn (ha pins s σ H _ I h) fun v s1 ⟨x, H1, I1, r1, q1⟩ => ?_)
  obtain ⟨c, rfl, q1⟩ := q1
  cases r1
  exact not_of (wpAny_truthy_bool ⟨.bl (!c), H1, I1, rfl, q1⟩)

noncomputable def tIf (t : TT) (ta tb : TE) : TE := fun σ H Q => t σ H fun c H1 => if c = true then ta σ H1 Q else tb σ H1 Q
theorem pe_ifExp {c : Expr} (hc : PT X c tA) (ha : PE X a ta) (hb : PE X b tb) : PE X (.IfExp c a b pos) (tIf tA ta tb) := by
  constructor
  intro pins s σ H Q I h
  refine wpAny_IfExp (thn (hc pins s σ H _ I h) fun d s1 ⟨H1, I1, q1⟩ => ?_)
  cases d with
  | true => exact ha pins s1 σ H1 Q I1 q1
  | false => exact hb pins s1 σ H1 Q I1 q1
end
end L2

namespace L2
open PySem PySem.Spec PyProof.Rows


noncomputable def SqL (K : PySem.W.Frag) (H : Hp) (a : Addr) (xs : List V) : Prop :=
  Rd H a (.lst xs) ∨
    ∃ (o : Obj) (its : Array Value) (n : Nat), K.lookup a = some o ∧ o.cls = .type "list" ∧ o.dict = none ∧ o.data = .seq its n ∧ its.size ≤ sizeLine ∧ Vals xs its.toList
noncomputable def SqT (K : PySem.W.Frag) (H : Hp) (a : Addr) (xs : List V) : Prop :=
  Rd H a (.tup xs) ∨
    ∃ (o : Obj) (its : Array Value) (n : Nat), K.lookup a = some o ∧ o.cls = .type "tuple" ∧ o.data = .seq its n ∧ its.size ≤ sizeLine ∧ Vals xs its.toList
noncomputable def absV : Value → Option V
  | .none => some .non
  | .bool b => some (.bl b)
  | .int i _ => some (.int i)
  | .str x _ => some (.str x)
  | .bytes b _ => some (.byt b)
  | .float b _ => some (.flt b)
  | .ref a => some (.ref a)
  | .type n => some (.ty n)
  | _ => none
theorem RelV.abs {x : V} {u : Value} (r : RelV x u) : absV u = some x := by
  cases x with
  | non => cases r; rfl
  | bl _ => cases r; rfl
  | int _ => obtain ⟨t, rfl⟩ := r; rfl
  | str _ => obtain ⟨t, rfl⟩ := r; rfl
  | byt _ => obtain ⟨t, rfl⟩ := r; rfl
  | flt _ => obtain ⟨t, rfl⟩ := r; rfl
  | ref _ => cases r; rfl
  | ty _ => cases r; rfl
theorem RelV.inj {x y : V} {u : Value} (r : RelV x u) (q : RelV y u) : x = y := Option.some.inj (r.abs.symm.trans q.abs)
theorem Vals.inj : ∀ {xs ys : List V} {us : List Value}, Vals xs us → Vals ys us → xs = ys
  | _, _, _, .nil, .nil => rfl
  | _, _, _, .cons r t, .cons r' t' => by rw [r.inj r', Vals.inj t t']
section
variable {X : Cx} {pins : List (Addr × Obj)} {σ : St} {H : Hp} {s : Shared} {a : Addr} {xs ys : List V}
theorem SqL.of {K : PySem.W.Frag} (h : H a = some (.lst xs)) : SqL K H a xs := .inl (.inl h)
theorem SqT.of {K : PySem.W.Frag} (h : H a = some (.tup xs)) : SqT K H a xs := .inl (.inl h)
theorem Inv.list (I : Inv X pins σ H s) (h : SqL X.K H a xs) : ∃ its : List Value, Vals xs its ∧ PlainL s.heap a its.toArray ∧ xs.length ≤ sizeLine := by
  rcases h with h | ⟨o, its, n, hk, hc, hd, hs, hz, r⟩
  · obtain ⟨z, its, n, r, e⟩ := h.ok I.hok
    exact ⟨its, r, ⟨_, n, e, rfl, rfl, rfl⟩, z⟩
  · refine ⟨its.toList, r, ⟨o, n, I.kIn a o hk, hc, hd, by simpa using hs⟩, ?_⟩
    have e := r.length
    simp only [Array.length_toList] at e
    omega
theorem Inv.tuple (I : Inv X pins σ H s) (h : SqT X.K H a xs) : ∃ its : List Value, Vals xs its ∧ IsTup s.heap a its.toArray ∧ xs.length ≤ sizeLine := by
  rcases h with h | ⟨o, its, n, hk, hc, hs, hz, r⟩
  · obtain ⟨z, its, r, p⟩ := h.ok I.hok
    exact ⟨its, r, p.is, z⟩
  · refine ⟨its.toList, r, ⟨o, I.kIn a o hk, hc, n, by simpa using hs⟩, ?_⟩
    have e := r.length
    simp only [Array.length_toList] at e
    omega
theorem Inv.list_inj (I : Inv X pins σ H s) (h : SqL X.K H a xs) (h' : SqL X.K H a ys) : xs = ys := by
  obtain ⟨its, r, ⟨o, n, e, _, _, d⟩, _⟩ := I.list h
  obtain ⟨its', r', ⟨o', n', e', _, _, d'⟩, _⟩ := I.list h'
  rw [e] at e'; cases e'
  rw [d] at d'
  injection d' with d1 _
  have : its = its' := by simpa using congrArg Array.toList d1
  subst this
  exact r.inj r'
theorem Inv.tuple_inj (I : Inv X pins σ H s) (h : SqT X.K H a xs) (h' : SqT X.K H a ys) : xs = ys := by
  obtain ⟨its, r, ⟨o, e, _, n, d⟩, _⟩ := I.tuple h
  obtain ⟨its', r', ⟨o', e', _, n', d'⟩, _⟩ := I.tuple h'
  rw [e] at e'; cases e'
  rw [d] at d'
  injection d' with d1 _
  have : its = its' := by simpa using congrArg Array.toList d1
  subst this
  exact r.inj r'
end


noncomputable abbrev Cx.wish (X : Cx) (E : Value → Shared → Prop) : Cx := { X with xe := E }

noncomputable abbrev Cx.nox (X : Cx) : Cx := X.wish fun _ _ => False
theorem Cx.Ok.wish {X : Cx} (ok : X.Ok) (E : Value → Shared → Prop) : (X.wish E).Ok :=
  ⟨ok.mod, ok.kind, ok.glob, ok.blt, ok.above, ok.inj, ok.has, ok.cab, ok.hd, ok.frames, ok.stk, ok.exf, ok.bs, ok.bsz, ok.noex, ok.exfs, ok.funs, ok.frf⟩
theorem Cx.Ok.unwish {X : Cx} {E : Value → Shared → Prop} (ok : (X.wish E).Ok) : X.Ok :=
  ⟨ok.mod, ok.kind, ok.glob, ok.blt, ok.above, ok.inj, ok.has, ok.cab, ok.hd, ok.frames, ok.stk, ok.exf, ok.bs, ok.bsz, ok.noex, ok.exfs, ok.funs, ok.frf⟩
section
variable {X : Cx} {pins : List (Addr × Obj)} {σ : St} {H : Hp} {s : Shared} {E : Value → Shared → Prop}
theorem Inv.wish (I : Inv X pins σ H s) (E : Value → Shared → Prop) : Inv (X.wish E) pins σ H s := ⟨I.ok.wish E, I.os, I.bare, I.base, I.loc, I.cell, I.free, I.freeC, I.pin, I.hok, I.len⟩
theorem Inv.unwish (I : Inv (X.wish E) pins σ H s) : Inv X pins σ H s := ⟨I.ok.unwish, I.os, I.bare, I.base, I.loc, I.cell, I.free, I.freeC, I.pin, I.hok, I.len⟩
theorem SP.unwish {D : Ends} {f : Flow} {s' : Shared} (h : SP (X.wish E) pins D f s') : SP X pins D f s' := by
  cases f with
  | next => obtain ⟨σ', H', I, q⟩ := h; exact ⟨σ', H', I.unwish, q⟩
  | brk => obtain ⟨σ', H', I, q⟩ := h; exact ⟨σ', H', I.unwish, q⟩
  | cont => obtain ⟨σ', H', I, q⟩ := h; exact ⟨σ', H', I.unwish, q⟩
  | ret u => obtain ⟨v, σ', H', I, r, q⟩ := h; exact ⟨v, σ', H', I.unwish, r, q⟩
theorem PSs.nox {st : List Stmt} {t : TS} (h : PSs X.nox st t) : PSs X st t := ⟨fun pins s σ H D I hw =>
  wpAny_mono (h pins s σ H D (I.wish _) hw) (fun _ _ q => q.unwish) fun _ _ z => False.elim z⟩
end


section
variable {X : Cx} {st : Stmt} {rest : List Stmt} {t u : TS} {e : Expr} {te : TE} {pos : Pos}
noncomputable def tNext : TS := fun D σ H => D.nx σ H
noncomputable def tSeq (t u : TS) : TS := fun D σ H => t { D with nx := u D } σ H
theorem pss_nil : PSs X [] tNext := ⟨fun _ _ σ H _ I h => wpAny_execs_nil ⟨σ, H, I, h⟩⟩
theorem pss_cons (h1 : PS X st t) (h2 : PSs X rest u) : PSs X (st :: rest) (tSeq t u) := by
  constructor
  intro pins s σ H D I h
  refine wpAny_execs_cons (thn (h1 pins s σ H { D with nx := u D } I h) fun f s1 q => ?_)
  cases f with
  | next =>
    obtain ⟨σ', H', I', q⟩ := q
    exact h2 pins s1 σ' H' D I' q
  | ret v => exact q
  | brk => exact q
  | cont => exact q
theorem pss_one (h1 : PS X st t) : PSs X [st] t := by
  constructor
  intro pins s σ H D I h
  refine wpAny_execs_cons (thn (h1 pins s σ H D I h) fun f s1 q => ?_)
  cases f with
  | next => exact wpAny_execs_nil q
  | ret v => exact q
  | brk => exact q
  | cont => exact q
theorem Inv.quiet {pins : List (Addr × Obj)} {σ : St} {H : Hp} {s : Shared} (I : Inv X pins σ H s) : interactive X.env = false := by simp [interactive, I.ok.kind]

noncomputable def tDrop (te : TE) : TS := fun D σ H => te σ H fun _ H1 => D.nx σ H1
theorem ps_expr (he : PE X e te) (hs : swapsWith e none pos.line X.env = pure false := by rfl) : PS X (.Expr e pos) (tDrop te) := by
  constructor
  intro pins s σ H D I h
  exact wpAny_Expr_any (thn (he pins s σ H _ I h) fun v s1 ⟨x, H1, I1, r1, q1⟩ => ⟨σ, H1, I1, q1⟩) I.quiet hs
noncomputable def tRet (te : TE) : TS := fun D σ H => te σ H D.rt
theorem ps_ret (he : PE X e te) : PS X (.Return (some e) pos) (tRet te) := by
  constructor
  intro pins s σ H D I h
  exact wpAny_Return_some (thn (he pins s σ H _ I h) fun v s1 ⟨x, H1, I1, r1, q1⟩ => ⟨x, σ, H1, I1, r1, q1⟩)
noncomputable def tIfS (c : TT) (t u : TS) : TS := fun D σ H => c σ H fun b H1 => if b = true then t D σ H1 else u D σ H1
theorem ps_if {c : Expr} {a b : List Stmt} {tc : TT} (hc : PT X c tc) (ha : PSs X a t) (hb : PSs X b u) : PS X (.If c a b pos) (tIfS tc t u) := by
  constructor
  intro pins s σ H D I h
  refine wpAny_If (thn (hc pins s σ H _ I h) fun d s1 ⟨H1, I1, q1⟩ => ?_)
  cases d with
  | true => exact ha pins s1 σ H1 D I1 q1
  | false => exact hb pins s1 σ H1 D I1 q1

noncomputable def tNever : TS := fun _ _ _ => False
theorem ps_never : PS X st tNever := ⟨fun _ _ _ _ _ _ h => h.elim⟩
end


noncomputable abbrev TG := V → St → Hp → (St → Hp → Prop) → Prop
noncomputable abbrev TGs := List V → St → Hp → (St → Hp → Prop) → Prop
structure PG (X : Cx) (target : Expr) (t : TG) : Prop where
  run :
    ∀ (pins : List (Addr × Obj)) (s : Shared) (σ : St) (H : Hp) (v : V) (u : Value) (Q : St → Hp → Prop), Inv X pins σ H s → RelV v u → t v σ H Q →
      wpAny (model X.prog X.w) X.A (assign target X.env u) (fun _ s' => ∃ σ' H', Inv X pins σ' H' s' ∧ Q σ' H') X.xe s
instance {X : Cx} {target : Expr} {t : TG} : CoeFun (PG X target t) (fun _ =>
  ∀ (pins : List (Addr × Obj)) (s : Shared) (σ : St) (H : Hp) (v : V) (u : Value) (Q : St → Hp → Prop), Inv X pins σ H s → RelV v u → t v σ H Q →
    wpAny (model X.prog X.w) X.A (assign target X.env u) (fun _ s' => ∃ σ' H', Inv X pins σ' H' s' ∧ Q σ' H') X.xe s) := ⟨PG.run⟩

structure PGs (X : Cx) (ts : List Expr) (t : TGs) : Prop where
  run :
    ∀ (pins : List (Addr × Obj)) (s : Shared) (σ : St) (H : Hp) (vs : List V) (us : List Value) (Q : St → Hp → Prop), Inv X pins σ H s → Vals vs us → t vs σ H Q →
      wpAny (model X.prog X.w) X.A (assignInOrder ((assignEach ts X.env).map (·.2)) us) (fun _ s' => ∃ σ' H', Inv X pins σ' H' s' ∧ Q σ' H') X.xe s
instance {X : Cx} {ts : List Expr} {t : TGs} : CoeFun (PGs X ts t) (fun _ =>
  ∀ (pins : List (Addr × Obj)) (s : Shared) (σ : St) (H : Hp) (vs : List V) (us : List Value) (Q : St → Hp → Prop), Inv X pins σ H s → Vals vs us → t vs σ H Q →
    wpAny (model X.prog X.w) X.A (assignInOrder ((assignEach ts X.env).map (·.2)) us) (fun _ s' => ∃ σ' H', Inv X pins σ' H' s' ∧ Q σ' H') X.xe s) := ⟨PGs.run⟩

noncomputable abbrev TSet := V → V → V → Hp → (Hp → Prop) → Prop
structure PSet (X : Cx) (t : TSet) : Prop where
  run :
    ∀ (pins : List (Addr × Obj)) (s : Shared) (σ : St) (H : Hp) (o i v : V) (ov iv u : Value) (Q : Hp → Prop), Inv X pins σ H s → RelV o ov → RelV i iv → RelV v u → t o i v H Q →
      wpAny (model X.prog X.w) X.A (setItem ov iv u) (fun _ s' => ∃ H', Inv X pins σ H' s' ∧ Q H') X.xe s
instance {X : Cx} {t : TSet} : CoeFun (PSet X t) (fun _ =>
  ∀ (pins : List (Addr × Obj)) (s : Shared) (σ : St) (H : Hp) (o i v : V) (ov iv u : Value) (Q : Hp → Prop), Inv X pins σ H s → RelV o ov → RelV i iv → RelV v u → t o i v H Q →
    wpAny (model X.prog X.w) X.A (setItem ov iv u) (fun _ s' => ∃ H', Inv X pins σ H' s' ∧ Q H') X.xe s) := ⟨PSet.run⟩

noncomputable abbrev TIp := V → V → Hp → VK → Prop
structure PIp (X : Cx) (op : Operator) (t : TIp) : Prop where
  run :
    ∀ (pins : List (Addr × Obj)) (s : Shared) (σ : St) (H : Hp) (x y : V) (v u : Value) (Q : VK), Inv X pins σ H s → RelV x v → RelV y u → t x y H Q →
      wpAny (model X.prog X.w) X.A (inplaceOp op v u) (EP X pins σ Q) X.xe s
instance {X : Cx} {op : Operator} {t : TIp} : CoeFun (PIp X op t) (fun _ =>
  ∀ (pins : List (Addr × Obj)) (s : Shared) (σ : St) (H : Hp) (x y : V) (v u : Value) (Q : VK), Inv X pins σ H s → RelV x v → RelV y u → t x y H Q →
    wpAny (model X.prog X.w) X.A (inplaceOp op v u) (EP X pins σ Q) X.xe s) := ⟨PIp.run⟩
section
variable {X : Cx} {pos : Pos}
noncomputable def gName (i : Nat) : TG := fun v σ H Q => Q (σ.set i (some v)) H
theorem pg_name {i : Nat} {x : Str} (hN : X.N.Nodup) (hi : X.N[i]? = some x) (hx : Loc X.env.scope x) (hf : X.fn x = true ∨ X.env.scope.names.lookup x = some .local := by first | exact .inl rfl | exact .inr rfl | assumption) : PG X (.Name x pos) (gName i) := by
  constructor
  intro pins s σ H v u Q I r h
  exact wpAny_assign_Name (store_ok I hN hi hx r (fun s' I' => ⟨_, H, I', h⟩) hf)
noncomputable def gNil : TGs := fun vs σ H Q => vs = [] ∧ Q σ H
noncomputable def gCons (t : TG) (u : TGs) : TGs := fun vs σ H Q => ∃ v r, vs = v :: r ∧ t v σ H fun σ' H' => u r σ' H' Q
theorem pgs_nil : PGs X [] gNil := by
  constructor
  intro pins s σ H vs us Q I r h
  obtain ⟨e, h⟩ := h
  subst e
  cases r
  exact assignInOrder_nil ⟨σ, H, I, h⟩
theorem pgs_cons {e : Expr} {es : List Expr} {t : TG} {u : TGs} (h1 : PG X e t) (h2 : PGs X es u)
    (hs : (assignEach (e :: es) X.env).map (·.2) = assign e X.env :: (assignEach es X.env).map (·.2) := by rfl) : PGs X (e :: es) (gCons t u) := by
  constructor
  intro pins s σ H vs us Q I r h
  obtain ⟨v, vr, e1, h⟩ := h
  subst e1
  cases r with
  | cons r rr =>
    rw [hs]
    refine assignInOrder_cons (thn (h1 pins s σ H _ _ _ I r h) fun _ s1 ⟨σ1, H1, I1, q1⟩ => ?_)
    exact h2 pins s1 σ1 H1 _ _ Q I1 rr q1

noncomputable def gTup (K : PySem.W.Frag) (n : Nat) (t : TGs) : TG := fun v σ H Q => ∃ a xs, v = .ref a ∧ SqT K H a xs ∧ xs.length = n ∧ t xs σ H Q
theorem pg_tup {es : List Expr} {k : Nat} {t : TGs} {n : Nat} (hc : X.calm = true) (h : PGs X es t)
    (hn : (assignEach es X.env).length = n := by rfl) (hst : (assignEach es X.env).findIdx? (·.1) = none := by rfl) : PG X (.Tuple es k pos) (gTup X.K n t) := by
  constructor
  intro pins s σ H v u Q I r hw
  obtain ⟨a, xs, e1, hq, hl, hw⟩ := hw
  subst e1
  cases r
  obtain ⟨its, rv, ht, hz⟩ := I.tuple hq
  refine assign_Tuple_tuple (I.ok.hd hc) ht (by simp [hn, ← hl, rv.length]) hst fun h' hx => ?_
  have I1 : Inv X pins σ H { s with heap := h' } := I.kept (t' := s.toks) fun b o e => hx b o (Nat.ne_of_lt (Heap.lt_size e)) e
  exact h pins _ σ H xs _ Q I1 (by simpa using rv) hw

noncomputable def gSub (to ti : TE) (t : TSet) : TG := fun v σ H Q => to σ H fun o H1 => ti σ H1 fun i H2 => t o i v H2 fun H3 => Q σ H3
theorem pg_sub {o i : Expr} {to ti : TE} {t : TSet} (ho : PE X o to) (hi : PE X i ti) (hs : PSet X t)
    (ha : ∀ v, assign (.Subscript o i pos) X.env v = (do
      let ov ← holding [v] (eval o X.env)
      let iv ← holding [v, ov] (eval i X.env)
      standAt pos
      holding [v, ov, iv] (setItem ov iv v)
      release [v, ov, iv] []) := by intro _; rfl) : PG X (.Subscript o i pos) (gSub to ti t) := by
  constructor
  intro pins s σ H v u Q I r h
  rw [ha]
  refine wpAny_bind (wpAny_holding (thn (ho pins s σ H _ I h) fun ov s1 ⟨x, H1, I1, r1, q1⟩ => ?_))
  refine wpAny_bind (wpAny_holding (thn (hi pins s1 σ H1 _ I1 q1) fun iv s2 ⟨y, H2, I2, r2, q2⟩ => ?_))
  refine wpAny_bind (wpAny_standAt (wpAny_bind (wpAny_holding (thn (hs pins s2 σ H2 x y v ov iv u _ I2 r1 r2 r q2) fun _ s3 ⟨H3, I3, q3⟩ => ?_))))
  exact wpAny_release ⟨σ, H3, I3, q3⟩

noncomputable def tAsg (te : TE) (g : TG) : TS := fun D σ H => te σ H fun x H1 => g x σ H1 D.nx
theorem ps_asg {tg e : Expr} {te : TE} {g : TG} (he : PE X e te) (hg : PG X tg g) (hs : swapsWithSole [tg] e pos.line X.env = pure false := by rfl) (hw : swappedStores [tg] e X.env = pure none := by rfl)
    (h1 : (assignEach [tg] X.env).map (·.2) = [assign tg X.env] := by rfl) : PS X (.Assign [tg] e pos) (tAsg te g) := by
  constructor
  intro pins s σ H D I h
  refine wpAny_Assign_stores (thn (he pins s σ H _ I h) fun v s1 ⟨x, H1, I1, r1, q1⟩ => ?_) hs hw
  rw [h1]
  exact thn (hg pins s1 σ H1 x v _ I1 r1 q1) fun _ s2 q => q

noncomputable def tPar (i j : Nat) (ta : TA) : TS := fun D σ H => ta σ H fun vs H1 => ∃ v w, vs = [v, w] ∧ D.nx ((σ.set i (some v)).set j (some w)) H1
theorem ps_par {i j : Nat} {x y : Str} {a b : Expr} {ta : TA} {px py pt : Pos} {kt k2 pt2} (hc : X.calm = true) (hN : X.N.Nodup) (hi : X.N[i]? = some x) (hj : X.N[j]? = some y) (hij : i ≠ j)
    (hx : X.env.scope.names.lookup x = some .local) (hy : X.env.scope.names.lookup y = some .local) (ha : PA X [a, b] ta)
    (hw : swappedStores [.Tuple [.Name x px, .Name y py] kt pt] (.Tuple [a, b] k2 pt2) X.env = pure (some [x, y]))
    (hs : swapsWithSole [.Tuple [.Name x px, .Name y py] kt pt] (.Tuple [a, b] k2 pt2) pos.line X.env = pure false := by rfl) :
    PS X (.Assign [.Tuple [.Name x px, .Name y py] kt pt] (.Tuple [a, b] k2 pt2) pos) (tPar i j ta) := by
  constructor
  intro pins s σ H D I h
  rw [exec_Assign_arm]
  refine wpAny_bind (wpAny_standAt ?_)
  rw [hs]
  refine wpAny_bind (wpAny_pure ?_)
  rw [if_neg (by decide)]
  refine wpAny_bind (Tuple_ (thn (ha _ pins s σ H _ I h) fun us s1 ⟨vs, H1, I1, r1, q1⟩ => ?_))
  obtain ⟨v, w, e1, q1⟩ := q1
  subst e1
  obtain ⟨u1, u2, rfl, rv, rw'⟩ : ∃ u1 u2, us = [u1, u2] ∧ RelV v u1 ∧ RelV w u2 := by
    cases r1 with
    | cons p q =>
      cases q with
      | cons p' q' =>
        cases q'
        exact ⟨_, _, rfl, p, p'⟩
  refine wpAny_newObj_type ?_ (by show 2 ≤ sizeLine; decide)
  have I2 : Inv X pins σ H1 { s1 with heap := s1.heap.push { cls := .type "tuple", data := .seq [u1, u2].toArray } } := I1.kept (t' := s1.toks) fun b o e => Heap.get?_push_of_some _ e
  rw [hw]
  refine wpAny_bind (wpAny_pure ?_)
  show wpAny (model X.prog X.w) X.A (do rule "assign.swapped-stores"; let items ← unpackItems (.ref s1.heap.objs.size) 2 none; assignInOrder [fun v => bindName X.env y v, fun v => bindName X.env x v] items.reverse; pure Flow.next) _ _ _
  refine wpAny_bind (wpAny_rule (wpAny_bind (unpackItems_tuple (items := #[u1, u2]) (I.ok.hd hc) (IsTup.new s1.heap _) fun h' hx' => ?_)))
  have I3 := I2.kept (h' := h') (t' := s1.toks) fun b o e => hx' b o (Nat.ne_of_lt (Heap.lt_size e)) e
  show wpAny _ _ (assignInOrder [fun v => bindName X.env y v, fun v => bindName X.env x v] [u2, u1] >>= fun _ => pure Flow.next) _ _ _
  refine wpAny_bind (assignInOrder_cons (wpAny_bindName (store_ok I3 hN hj (.inl hy) rw' (fun s2 I4 => ?_) (.inr hy))))
  refine assignInOrder_cons (wpAny_bindName (store_ok I4 hN hi (.inl hx) rv (fun s3 I5 => assignInOrder_nil (wpAny_pure ?_)) (.inr hx)))
  rw [List.set_comm _ _ (Ne.symm hij)] at I5
  exact ⟨_, H1, I5, q1⟩

structure PGet (X : Cx) (t : V → V → Hp → VK → Prop) : Prop where
  run :
    ∀ (pins : List (Addr × Obj)) (s : Shared) (σ : St) (H : Hp) (o i : V) (ov iv : Value) (Q : VK), Inv X pins σ H s → RelV o ov → RelV i iv → t o i H Q →
      wpAny (model X.prog X.w) X.A (getItem ov iv) (EP X pins σ Q) X.xe s
instance {X : Cx} {t : V → V → Hp → VK → Prop} : CoeFun (PGet X t) (fun _ =>
  ∀ (pins : List (Addr × Obj)) (s : Shared) (σ : St) (H : Hp) (o i : V) (ov iv : Value) (Q : VK), Inv X pins σ H s → RelV o ov → RelV i iv → t o i H Q →
    wpAny (model X.prog X.w) X.A (getItem ov iv) (EP X pins σ Q) X.xe s) := ⟨PGet.run⟩
end


section
variable {X : Cx} {pos : Pos}

end



structure It where
  go : Nat → Hp → Prop
  yld : Nat → Hp → V → Hp → Prop
  stop : Nat → Hp → Prop

noncomputable def FpOk (X : Cx) (pins : List (Addr × Obj)) (H : Hp) (b : Addr) : Prop :=
  H b = none ∧ b ≠ X.env.locals ∧ b ∉ X.fs ∧ (b ∈ X.ex ∨ X.s_0.heap.objs.size ≤ b) ∧ (∀ x c, X.env.cells.lookup x = some c → c ≠ b) ∧ ∀ p ∈ X.pn ++ pins, p.1 ≠ b
theorem Inv.fpOk {X : Cx} {pins : List (Addr × Obj)} {σ : St} {H H' : Hp} {s : Shared} {b : Addr} (I : Inv X pins σ H s) (hb : s.heap.objs.size ≤ b) (hn : H' b = none) : FpOk X pins H' b := by
  refine ⟨hn, Nat.ne_of_gt (Nat.lt_of_lt_of_le I.lt hb), I.nofs hb, .inr (Nat.le_trans I.sz hb), fun x c e z => ?_, fun p hp z => ?_⟩
  · obtain ⟨v, q⟩ := I.cell x c e
    exact absurd (Nat.lt_of_lt_of_le q.lt (by rw [z]; exact hb)) (Nat.lt_irrefl _)
  · exact absurd (Nat.lt_of_lt_of_le (Heap.lt_size (I.pin p hp).1) (by rw [z]; exact hb)) (Nat.lt_irrefl _)
structure Turn (P : Program) (w : World) (K : PySem.W.Frag) (tg : Expr) (J : It) (fp : List Addr) (it : Addr) (tn : Nat → Heap → Prop) : Prop where
  mem : it ∈ fp
  obj : ∀ i h, tn i h → ∀ b ∈ fp, ∃ o, h.get? b = some o ∧ ∀ v, o.data ≠ .cell v
  keep : ∀ i h h', tn i h → (∀ b ∈ fp, ∀ o, h.get? b = some o → h'.get? b = some o) → tn i h'
  item : ∀ (X : Cx), X.prog = P → X.w = w → X.K = K → X.calm = true → ∀ (i : Nat) (pins : List (Addr × Obj)) (s : Shared) (σ : St) (H : Hp) (E : Value → Shared → Prop), Inv X pins σ H s → (∀ b ∈ fp, FpOk X pins H b) → tn i s.heap → J.go i H →
    wpAny (model P w) X.A (pyNext (.ref it)) (fun r s1 => ∃ u, r = some u ∧
      wpAny (model P w) X.A (letOwnedTupleGo tg (.ref it) u) (fun _ s2 => ∃ x H', Inv X pins σ H' s2 ∧ RelV x u ∧ J.yld i H x H' ∧ tn (i + 1) s2.heap ∧ ∀ b ∈ fp, H' b = none) E s1) E s
  done : ∀ (X : Cx), X.prog = P → X.w = w → X.K = K → X.calm = true → ∀ (i : Nat) (pins : List (Addr × Obj)) (s : Shared) (σ : St) (H : Hp) (E : Value → Shared → Prop), Inv X pins σ H s → (∀ b ∈ fp, FpOk X pins H b) → tn i s.heap → J.stop i H →
    wpAny (model P w) X.A (pyNext (.ref it)) (fun r s1 => r = none ∧ Inv X pins σ H s1) E s
  self : ∀ (A : Around) (i : Nat) (s : Shared) (Q : Value → Shared → Prop) (E : Value → Shared → Prop), tn i s.heap → Q (.ref it) s → wpAny (model P w) A (pyIter (.ref it)) Q E s
noncomputable abbrev TI := St → Hp → (It → Hp → Prop) → Prop

noncomputable def PIE (X : Cx) (pins : List (Addr × Obj)) (σ : St) (tg : Expr) (R : It → Hp → Prop) (itv : Value) (s2 : Shared) : Prop :=
  ∃ (it : Addr) (fp : List Addr) (tn : Nat → Heap → Prop) (J : It) (H' : Hp), itv = .ref it ∧ Inv X pins σ H' s2 ∧ Turn X.prog X.w X.K tg J fp it tn ∧ tn 0 s2.heap ∧ (∀ b ∈ fp, FpOk X pins H' b) ∧ R J H'
structure PI (X : Cx) (tg iter : Expr) (wi : TI) : Prop where
  run :
    ∀ (pins : List (Addr × Obj)) (s : Shared) (σ : St) (H : Hp) (R : It → Hp → Prop), Inv X pins σ H s → wi σ H R →
      wpAny (model X.prog X.w) X.A (eval iter X.env) (fun v s1 => wpAny (model X.prog X.w) X.A (pyIter v) (PIE X pins σ tg R) X.xe s1) X.xe s
instance {X : Cx} {tg iter : Expr} {wi : TI} : CoeFun (PI X tg iter wi) (fun _ =>
  ∀ (pins : List (Addr × Obj)) (s : Shared) (σ : St) (H : Hp) (R : It → Hp → Prop), Inv X pins σ H s → wi σ H R →
    wpAny (model X.prog X.w) X.A (eval iter X.env) (fun v s1 => wpAny (model X.prog X.w) X.A (pyIter v) (PIE X pins σ tg R) X.xe s1) X.xe s) := ⟨PI.run⟩


theorem go_of {M : Model} {A : Around} {E : Value → Shared → Prop} {s : Shared} {tg : Expr} {it : Addr} {u : Value} {o : Obj} {n : String} {vs : Array Value} {Q : Unit → Shared → Prop} (ho : s.heap.get? it = some o) (hc : o.cls = .type n) (hd : o.data = .fields vs)
    (hn : ["enumerate", "zip", "dict_itemiterator", "dict_reverseitemiterator", "odict_iterator", "itertools.zip_longest", "itertools.pairwise"].contains n = false) (hQ : Q () s) : wpAny M A (letOwnedTupleGo tg (.ref it) u) Q E s := by
  unfold letOwnedTupleGo
  cases tg <;> first
    | exact wpAny_pure hQ
    | (cases u <;> first
        | exact wpAny_pure hQ
        | (refine wpAny_bind (wpAny_load ho ?_)
           rw [hc, hd]
           show wpAny M A (if (["enumerate", "zip", "dict_itemiterator", "dict_reverseitemiterator", "odict_iterator", "itertools.zip_longest", "itertools.pairwise"].contains n && vs[0]? == some (rawInt _)) = true then _ else _) Q E s
           rw [if_neg (by intro h; rw [hn, Bool.false_and] at h; cases h)]
           exact wpAny_pure hQ))


noncomputable def Itl (K : PySem.W.Frag) (a : Addr) : It :=
  ⟨fun i H => ∃ xs x, SqL K H a xs ∧ xs[i]? = some x, fun i H x H' => H' = H ∧ ∀ xs, SqL K H a xs → xs[i]? = some x, fun i H => ∃ xs, SqL K H a xs ∧ xs.length ≤ i⟩
noncomputable def Itt (K : PySem.W.Frag) (a : Addr) : It :=
  ⟨fun i H => ∃ xs x, SqT K H a xs ∧ xs[i]? = some x, fun i H x H' => H' = H ∧ ∀ xs, SqT K H a xs → xs[i]? = some x, fun i H => ∃ xs, SqT K H a xs ∧ xs.length ≤ i⟩

noncomputable def Itr (lo : Int) (n : Nat) : It := ⟨fun i _ => i < n, fun i H x H' => H' = H ∧ x = .int (lo + i), fun i _ => n ≤ i⟩
theorem turn_list {P : Program} {w : World} {K : PySem.W.Frag} {tg : Expr} (a it : Addr) : Turn P w K tg (Itl K a) [it] it (fun i h => h.IsListIter it a i) where
  mem := by simp
  obj := fun i h st b hb => by
    have e : b = it := by simpa using hb
    subst e
    obtain ⟨o, e, c, d⟩ := st
    exact ⟨o, e, fun v z => by rw [d] at z; cases z⟩
  keep := fun i h h' st k => st.at fun o e => k it (by simp) o e
  item := by
    intro X hP hw hK hc i pins s σ H E I hf st hg
    subst hP hw hK
    obtain ⟨xs, x, hq, hx⟩ := hg
    obtain ⟨its, rv, p, hz⟩ := I.list hq
    obtain ⟨u, hu, ru⟩ := rv.get hx
    obtain ⟨f0, f1, f2, f3, f4, f5⟩ := hf it (by simp)
    refine wpAny_pyNext_list_item st p.isList (x := u) (by simpa using hu) fun h' st' sb => ?_
    have I1 : Inv X pins σ H { s with heap := h' } := I.turned (t' := s.toks) (fun b o hb e => (sb.2 b hb).trans e) f0 f1 f3 f4 f5
    obtain ⟨o, e, c, d⟩ := id st'
    exact ⟨u, rfl, go_of (s := { s with heap := h' }) e c d (by decide) ⟨x, H, I1, ru, ⟨rfl, fun ys hy => by rw [I.list_inj hy hq]; exact hx⟩, st', fun b hb => (hf b hb).1⟩⟩
  done := by
    intro X hP hw hK hc i pins s σ H E I hf st hg
    subst hP hw hK
    obtain ⟨xs, hq, hx⟩ := hg
    obtain ⟨its, rv, p, hz⟩ := I.list hq
    obtain ⟨f0, f1, f2, f3, f4, f5⟩ := hf it (by simp)
    have hl := rv.length
    exact wpAny_pyNext_list_end (I.ok.hd hc) st p.isList (by simp; omega) fun h' eb => ⟨rfl, I.turned (t' := s.toks) (fun b o hb e => eb b o hb e) f0 f1 f3 f4 f5⟩
  self := fun _ _ _ _ _ st h => wpAny_pyIter_listiter st h
theorem turn_tuple {P : Program} {w : World} {K : PySem.W.Frag} {tg : Expr} (a it : Addr) : Turn P w K tg (Itt K a) [it] it (fun i h => h.IsTupleIter it a i) where
  mem := by simp
  obj := fun i h st b hb => by
    have e : b = it := by simpa using hb
    subst e
    obtain ⟨o, e, c, d⟩ := st
    exact ⟨o, e, fun v z => by rw [d] at z; cases z⟩
  keep := fun i h h' st k => st.at fun o e => k it (by simp) o e
  item := by
    intro X hP hw hK hc i pins s σ H E I hf st hg
    subst hP hw hK
    obtain ⟨xs, x, hq, hx⟩ := hg
    obtain ⟨its, rv, p, hz⟩ := I.tuple hq
    obtain ⟨u, hu, ru⟩ := rv.get hx
    obtain ⟨f0, f1, f2, f3, f4, f5⟩ := hf it (by simp)
    refine wpAny_pyNext_tuple_item st (show s.heap.IsTuple a its.toArray from p) (x := u) (by simpa using hu) fun h' st' sb => ?_
    have I1 : Inv X pins σ H { s with heap := h' } := I.turned (t' := s.toks) (fun b o hb e => (sb.2 b hb).trans e) f0 f1 f3 f4 f5
    obtain ⟨o, e, c, d⟩ := id st'
    exact ⟨u, rfl, go_of (s := { s with heap := h' }) e c d (by decide) ⟨x, H, I1, ru, ⟨rfl, fun ys hy => by rw [I.tuple_inj hy hq]; exact hx⟩, st', fun b hb => (hf b hb).1⟩⟩
  done := by
    intro X hP hw hK hc i pins s σ H E I hf st hg
    subst hP hw hK
    obtain ⟨xs, hq, hx⟩ := hg
    obtain ⟨its, rv, p, hz⟩ := I.tuple hq
    obtain ⟨f0, f1, f2, f3, f4, f5⟩ := hf it (by simp)
    have hl := rv.length
    exact wpAny_pyNext_tuple_end (I.ok.hd hc) st (show s.heap.IsTuple a its.toArray from p) (by simp; omega) fun h' eb => ⟨rfl, I.turned (t' := s.toks) (fun b o hb e => eb b o hb e) f0 f1 f3 f4 f5⟩
  self := fun _ _ _ _ _ st h => wpAny_pyIter_tupleiter st h
theorem turn_range {P : Program} {w : World} {K : PySem.W.Frag} {tg : Expr} (it : Addr) (lo : Int) (n : Nat) : Turn P w K tg (Itr lo n) [it] it (fun i h => IsRangeIter h it (lo + (i : Nat) * 1) ((n : Int) - (i : Nat)) 1) where
  mem := by simp
  obj := fun i h st b hb => by
    have e : b = it := by simpa using hb
    subst e
    exact ⟨_, st, fun v z => by
      have z' : Data.fields _ = Data.cell v := z
      cases z'⟩
  keep := fun i h h' st k => k it (by simp) _ st
  item := by
    intro X hP hw hK hc i pins s σ H E I hf st hg
    subst hP hw hK
    obtain ⟨f0, f1, f2, f3, f4, f5⟩ := hf it (by simp)
    have W := Walks.range (prog := X.prog) (w := X.w) (I.ok.hd hc) it lo 1 n
    refine W.item i s _ _ hg st fun v h' tk hv st' kk => ?_
    obtain ⟨t, rfl⟩ := hv
    have I1 : Inv X pins σ H { s with heap := h', toks := tk } := I.turned (fun b o hb e => kk b o (by simpa using hb) e) f0 f1 f3 f4 f5
    refine ⟨_, rfl, go_of (s := { s with heap := h', toks := tk }) (n := "range_iterator") st' rfl rfl (by decide) ⟨.int (lo + i), H, I1, ⟨t, ?_⟩, ⟨rfl, rfl⟩, st', fun b hb => (hf b hb).1⟩⟩
    rw [Int.mul_one]
  done := by
    intro X hP hw hK hc i pins s σ H E I hf st hg
    subst hP hw hK
    obtain ⟨f0, f1, f2, f3, f4, f5⟩ := hf it (by simp)
    exact wpAny_pyNext_range_end (I.ok.hd hc) st (by have : n ≤ i := hg; omega) fun h' eb => ⟨rfl, I.turned (t' := s.toks) (fun b o hb e => eb b o hb e) f0 f1 f3 f4 f5⟩
  self := fun _ _ _ _ _ st h => wpAny_pyIter_rangeiter st h
end L2

namespace L2
open PySem PySem.Spec PyProof.Rows
section
variable {X : Cx} {tg : Expr}
noncomputable def iList (K : PySem.W.Frag) (tl : TE) : TI := fun σ H R => tl σ H fun x H1 => ∃ a, x = .ref a ∧ (∃ xs, SqL K H1 a xs) ∧ R (Itl K a) H1
noncomputable def iTup (K : PySem.W.Frag) (tl : TE) : TI := fun σ H R => tl σ H fun x H1 => ∃ a, x = .ref a ∧ (∃ xs, SqT K H1 a xs) ∧ R (Itt K a) H1
theorem pi_list {l : Expr} {tl : TE} (hl : PE X l tl) : PI X tg l (iList X.K tl) := by
  constructor
  intro pins s σ H R I h
  refine thn (hl pins s σ H _ I h) fun v s1 ⟨x, H1, I1, r1, q1⟩ => ?_
  obtain ⟨a, e, ⟨xs, hq⟩, q⟩ := q1
  subst e
  cases r1
  obtain ⟨its, rv, p, hz⟩ := I1.list hq
  refine wpAny_pyIter_list p.isList ?_
  refine ⟨s1.heap.objs.size, [s1.heap.objs.size], _, _, H1, rfl, I1.kept (t' := s1.toks) fun b o e => Heap.get?_push_of_some _ e, turn_list a _, ⟨_, Heap.get?_push_size _ rfl, rfl, rfl⟩, fun b hb => ?_, q⟩
  have e : b = s1.heap.objs.size := by simpa using hb
  subst e
  exact I1.fpOk (Nat.le_refl _) (I1.hok.fresh (Nat.le_refl _))
theorem pi_tup {l : Expr} {tl : TE} (hl : PE X l tl) : PI X tg l (iTup X.K tl) := by
  constructor
  intro pins s σ H R I h
  refine thn (hl pins s σ H _ I h) fun v s1 ⟨x, H1, I1, r1, q1⟩ => ?_
  obtain ⟨a, e, ⟨xs, hq⟩, q⟩ := q1
  subst e
  cases r1
  obtain ⟨its, rv, p, hz⟩ := I1.tuple hq
  refine wpAny_pyIter_tuple (show s1.heap.IsTuple a its.toArray from p) ?_
  refine ⟨s1.heap.objs.size, [s1.heap.objs.size], _, _, H1, rfl, I1.kept (t' := s1.toks) fun b o e => Heap.get?_push_of_some _ e, turn_tuple a _, ⟨_, Heap.get?_push_size _ rfl, rfl, rfl⟩, fun b hb => ?_, q⟩
  have e : b = s1.heap.objs.size := by simpa using hb
  subst e
  exact I1.fpOk (Nat.le_refl _) (I1.hok.fresh (Nat.le_refl _))

theorem range_it {pins : List (Addr × Obj)} {σ : St} {H : Hp} {s : Shared} {R : It → Hp → Prop} {E : Value → Shared → Prop} {lo hi : Int} {t u v : Tok} {tk : Nat} (I : Inv X pins σ H s) (h1 : -(2 ^ 62) ≤ lo) (h2 : lo < 2 ^ 62) (h3 : -(2 ^ 62) ≤ hi) (h4 : hi < 2 ^ 62)
    (q : R (Itr lo (hi - lo).toNat) H) : wpAny (model X.prog X.w) X.A (pyIter (.ref s.heap.objs.size)) (PIE X pins σ tg R) E { s with heap := s.heap.push { cls := .type "range", data := .fields #[.int lo t, .int hi u, .int 1 v] }, toks := tk } := by
  refine wpAny_pyIter_range (IsRange.new ..) (small_one h1 h2 h3 h4) ?_
  have I1 : Inv X pins σ H { s with heap := s.heap.push { cls := .type "range", data := .fields #[.int lo t, .int hi u, .int 1 v] }, toks := tk } := I.kept fun b o e => Heap.get?_push_of_some _ e
  refine ⟨(s.heap.push { cls := .type "range", data := .fields #[.int lo t, .int hi u, .int 1 v] }).objs.size, [(s.heap.push { cls := .type "range", data := .fields #[.int lo t, .int hi u, .int 1 v] }).objs.size], _, _, H, rfl,
    I1.kept (t' := tk) fun b o e => Heap.get?_push_of_some _ e, turn_range _ lo (hi - lo).toNat, ?_, fun b hb => ?_, q⟩
  · have e1 : lo + ((0 : Nat) : Int) * 1 = lo := by simp
    have e2 : (((hi - lo).toNat : Nat) : Int) - ((0 : Nat) : Int) = Builtin.Range.rangeSize lo hi 1 := by rw [rangeSize_one]; split <;> omega
    show IsRangeIter _ _ (lo + ((0 : Nat) : Int) * 1) ((((hi - lo).toNat : Nat) : Int) - ((0 : Nat) : Int)) 1
    rw [e1, e2]
    exact Heap.get?_push_size _ rfl
  · have e : b = (s.heap.push { cls := .type "range", data := .fields #[.int lo t, .int hi u, .int 1 v] }).objs.size := by simpa using hb
    subst e
    exact I1.fpOk (Nat.le_refl _) (I1.hok.fresh (Nat.le_refl _))
noncomputable def iRng1 (ta : TA) : TI := fun σ H R => ta σ H fun vs H1 => ∃ j : Int, vs = [.int j] ∧ -(2 ^ 62) ≤ j ∧ j < 2 ^ 62 ∧ R (Itr 0 j.toNat) H1
theorem pi_range1 {a : Expr} {ta : TA} {p pos : Pos} (hg : Gl X "range") (hm : X.mg "range" = none) (ha : PA X [a] ta) (hs : starEach [a] X.env = [(false, eval a X.env)] := by rfl) : PI X tg (.Call (.Name "range" p) [a] [] pos) (iRng1 ta) := by
  constructor
  intro pins s σ H R I h
  refine Call_ (ld_blt I hg hm boot_range (PyProof.Rows.callWith_type1 (thn (ha pos pins s σ H _ I h) fun us s1 ⟨vs, H1, I1, r1, q1⟩ => ?_) hs rfl))
  obtain ⟨j, e, q1, q2, q⟩ := q1
  subst e
  cases r1 with
  | cons r rr =>
    cases rr
    obtain ⟨t, rfl⟩ := r
    exact call_range_1 (range_it I1 (by omega) (by omega) q1 q2 (by simpa using q))
noncomputable def tFor (wi : TI) (g : TG) (tb : TS) : TS := fun D σ H => wi σ H fun J H1 => ∃ W : Nat → Nat → St → Hp → Prop, (∃ m, W 0 m σ H1) ∧ ∀ i m σ H, W i m σ H →
  (J.stop i H ∧ D.nx σ H) ∨ (J.go i H ∧ ∃ N : St → Hp → Prop, (∀ σ' H', N σ' H' → ∃ m', m' < m ∧ W (i + 1) m' σ' H') ∧ ∀ x H', J.yld i H x H' → g x σ H' fun σ2 H2 => tb { D with nx := N, ct := N, bk := D.nx } σ2 H2)

noncomputable def pinsAt (fp : List Addr) (h : Heap) : List (Addr × Obj) := fp.filterMap fun b => (h.get? b).map fun o => (b, o)
theorem mem_pinsAt {fp : List Addr} {h : Heap} {b : Addr} {o : Obj} (hb : b ∈ fp) (e : h.get? b = some o) : (b, o) ∈ pinsAt fp h := List.mem_filterMap.mpr ⟨b, hb, by rw [e]; rfl⟩
theorem of_pinsAt {fp : List Addr} {h : Heap} {p : Addr × Obj} (hp : p ∈ pinsAt fp h) : p.1 ∈ fp ∧ h.get? p.1 = some p.2 := by
  obtain ⟨b, hb, e⟩ := List.mem_filterMap.mp hp
  cases q : h.get? b with
  | none => rw [q] at e; cases e
  | some o =>
    rw [q] at e
    have e' : (b, o) = p := Option.some.inj e
    subst e'
    exact ⟨hb, q⟩
theorem Inv.pinned {pins : List (Addr × Obj)} {σ : St} {H : Hp} {s : Shared} {fp : List Addr} (I : Inv X pins σ H s) (hf : ∀ b ∈ fp, FpOk X pins H b) (ho : ∀ b ∈ fp, ∃ o, s.heap.get? b = some o ∧ ∀ v, o.data ≠ .cell v) : Inv X (pins ++ pinsAt fp s.heap) σ H s :=
  I.pins_of fun p hp => (List.mem_append.mp hp).elim (fun z => I.pin p (List.mem_append_right _ z)) fun z => by
    obtain ⟨hb, e⟩ := of_pinsAt z
    obtain ⟨f0, f1, f2, _⟩ := hf p.1 hb
    obtain ⟨o, e', d⟩ := ho p.1 hb
    rw [e] at e'; cases e'
    exact ⟨e, f0, f1, f2, d⟩
theorem Inv.unpinned {pins pl : List (Addr × Obj)} {σ : St} {H : Hp} {s : Shared} (I : Inv X (pins ++ pl) σ H s) : Inv X pins σ H s := I.pins_of fun p hp => I.pin p (List.mem_append_right _ (List.mem_append_left _ hp))
theorem ps_for {iter : Expr} {body : List Stmt} {wi : TI} {g : TG} {tb : TS} {pos : Pos} (hp : PassesOwn (model X.prog X.w) X.A X.env X.xe) (hc : X.calm = true) (hi : PI X tg iter wi) (hg : PG X tg g) (hb : PSs X body tb)
    (hs : ∀ x, foldedSetIterable iter X.env x = pure x := by intro _; rfl) : PS X (.For tg iter body [] pos) (tFor wi g tb) := by
  constructor
  intro pins s σ H D I h
  refine wpAny_For (thn (hi pins s σ H _ I h) fun v s1 h1 => thn h1 fun itv s2 h2 => ?_) hs
  obtain ⟨it, fp, tn, J, H2, e, I2, T, st2, f2, W, ⟨m0, w0⟩, turn⟩ := h2
  subst e
  -- what stays true of the iterator's objects through the loop
  have stat : ∀ {H' : Hp}, (∀ b ∈ fp, H' b = none) → ∀ b ∈ fp, FpOk X pins H' b := fun hn b hb => ⟨hn b hb, (f2 b hb).2⟩
  refine codeAny_forLoop_any (fun n s' => ∃ i σ' H', Inv X pins σ' H' s' ∧ tn i s'.heap ∧ (∀ b ∈ fp, H' b = none) ∧ W i n σ' H') ?_ m0 ⟨0, σ, H2, I2, st2, fun b hb => (f2 b hb).1, w0⟩
  rintro n s3 ⟨i, σ3, H3, I3, st3, fr3, w3⟩
  rcases turn i n σ3 H3 w3 with ⟨stop, qn⟩ | ⟨go, N, hN, step⟩
  · refine wpAny_passesOwn hp (thn (T.done X rfl rfl rfl hc i pins s3 σ3 H3 X.xe I3 (stat fr3) st3 stop) fun r s4 ⟨hr, I4⟩ => ?_)
    subst hr
    exact wpAny_execs_nil ⟨σ3, H3, I4, qn⟩
  · refine wpAny_passesOwn hp (thn (T.item X rfl rfl rfl hc i pins s3 σ3 H3 X.xe I3 (stat fr3) st3 go) fun r s4 ⟨u, hr, h4⟩ => ?_)
    subst hr
    refine wpAny_passesOwn hp (thn h4 fun _ s5 ⟨x, H5, I5, r5, y5, st5, fr5⟩ => ?_)
    have I5' := I5.pinned (stat fr5) (T.obj _ _ st5)
    refine wpAny_passesOwn hp (thn (hg _ s5 σ3 H5 x u _ I5' r5 (step x H5 y5)) fun _ s6 ⟨σ6, H6, I6, q6⟩ => ?_)
    refine wpAny_passesOwn hp (thn (hb _ s6 σ6 H6 _ I6 q6) fun f s7 q7 => ?_)
    have again : ∀ {σ7 : St} {H7 : Hp}, Inv X (pins ++ pinsAt fp s5.heap) σ7 H7 s7 → N σ7 H7 → ∃ m, m < n ∧ ∃ i σ' H', Inv X pins σ' H' s7 ∧ tn i s7.heap ∧ (∀ b ∈ fp, H' b = none) ∧ W i m σ' H' := fun {σ7 H7} I7 n7 => by
      obtain ⟨m', hm, w7⟩ := hN σ7 H7 n7
      refine ⟨m', hm, i + 1, σ7, H7, I7.unpinned, T.keep _ _ _ st5 fun b hb o e => (I7.pin (b, o) (List.mem_append_right _ (List.mem_append_right _ (mem_pinsAt hb e)))).1, fun b hb => ?_, w7⟩
      obtain ⟨o, e, d⟩ := T.obj _ _ st5 b hb
      exact (I7.pin (b, o) (List.mem_append_right _ (List.mem_append_right _ (mem_pinsAt hb e)))).2.1
    cases f with
    | next => obtain ⟨σ7, H7, I7, n7⟩ := q7; exact again I7 n7
    | cont => obtain ⟨σ7, H7, I7, n7⟩ := q7; exact again I7 n7
    | brk => obtain ⟨σ7, H7, I7, q7⟩ := q7; exact ⟨σ7, H7, I7.unpinned, q7⟩
    | ret v => obtain ⟨x7, σ7, H7, I7, r7, q7⟩ := q7; exact ⟨x7, σ7, H7, I7.unpinned, r7, q7⟩
end



theorem for_tup {K : PySem.W.Frag} {a : Addr} {xs : List V} {g : TG} {tb : TS} {D : Ends} {σ : St} {H : Hp} (Pv : Nat → St → Hp → Prop) (h0 : Pv 0 σ H) (hl : ∀ i σ H, i ≤ xs.length → Pv i σ H → SqT K H a xs)
    (hs : ∀ i x σ H, xs[i]? = some x → Pv i σ H → g x σ H fun σ2 H2 => tb { D with nx := Pv (i + 1), ct := Pv (i + 1), bk := D.nx } σ2 H2) (hd : ∀ σ H, Pv xs.length σ H → D.nx σ H) :
    ∃ W : Nat → Nat → St → Hp → Prop, (∃ m, W 0 m σ H) ∧ ∀ i m σ H, W i m σ H →
      ((Itt K a).stop i H ∧ D.nx σ H) ∨ ((Itt K a).go i H ∧ ∃ N : St → Hp → Prop, (∀ σ' H', N σ' H' → ∃ m', m' < m ∧ W (i + 1) m' σ' H') ∧ ∀ x H', (Itt K a).yld i H x H' → g x σ H' fun σ2 H2 => tb { D with nx := N, ct := N, bk := D.nx } σ2 H2) := by
  refine ⟨fun i m σ H => m = xs.length - i ∧ i ≤ xs.length ∧ Pv i σ H, ⟨xs.length, by simp, Nat.zero_le _, h0⟩, ?_⟩
  rintro i m σ H ⟨rfl, hi, p⟩
  have q := hl i σ H hi p
  by_cases hlt : i < xs.length
  · refine .inr ⟨⟨xs, xs[i], q, by simp [hlt]⟩, Pv (i + 1), fun σ' H' p' => ⟨xs.length - (i + 1), by omega, rfl, hlt, p'⟩, fun x H' y => ?_⟩
    obtain ⟨e, y⟩ := y
    subst e
    exact hs i x σ _ (y xs q) p
  · have e : i = xs.length := by omega
    subst e
    exact .inl ⟨⟨xs, q, Nat.le_refl _⟩, hd σ H p⟩
theorem for_range {lo : Int} {n : Nat} {g : TG} {tb : TS} {D : Ends} {σ : St} {H : Hp} (Pv : Nat → St → Hp → Prop) (h0 : Pv 0 σ H)
    (hs : ∀ i σ H, i < n → Pv i σ H → g (.int (lo + i)) σ H fun σ2 H2 => tb { D with nx := Pv (i + 1), ct := Pv (i + 1), bk := D.nx } σ2 H2) (hd : ∀ σ H, Pv n σ H → D.nx σ H) :
    ∃ W : Nat → Nat → St → Hp → Prop, (∃ m, W 0 m σ H) ∧ ∀ i m σ H, W i m σ H →
      ((Itr lo n).stop i H ∧ D.nx σ H) ∨ ((Itr lo n).go i H ∧ ∃ N : St → Hp → Prop, (∀ σ' H', N σ' H' → ∃ m', m' < m ∧ W (i + 1) m' σ' H') ∧ ∀ x H', (Itr lo n).yld i H x H' → g x σ H' fun σ2 H2 => tb { D with nx := N, ct := N, bk := D.nx } σ2 H2) := by
  refine ⟨fun i m σ H => m = n - i ∧ i ≤ n ∧ Pv i σ H, ⟨n, by simp, Nat.zero_le _, h0⟩, ?_⟩
  rintro i m σ H ⟨rfl, hi, p⟩
  by_cases hlt : i < n
  · refine .inr ⟨hlt, Pv (i + 1), fun σ' H' p' => ⟨n - (i + 1), by omega, rfl, hlt, p'⟩, fun x H' y => ?_⟩
    obtain ⟨e, y⟩ := y
    subst e y
    exact hs i σ _ hlt p
  · have e : i = n := by omega
    subst e
    exact .inl ⟨Nat.le_refl _, hd σ H p⟩

end L2

namespace L2
open PySem PySem.Spec PyProof.Rows

noncomputable abbrev R2 := V → V → Hp → VK → Prop

structure OpR (X : Cx) (f : Value → Value → Sem Value) (r : R2) : Prop where
  run :
    ∀ (pins : List (Addr × Obj)) (s : Shared) (σ : St) (H : Hp) (x y : V) (v u : Value) (Q : VK), Inv X pins σ H s → RelV x v → RelV y u → r x y H Q →
      wpAny (model X.prog X.w) X.A (f v u) (EP X pins σ Q) X.xe s
instance {X : Cx} {f : Value → Value → Sem Value} {r : R2} : CoeFun (OpR X f r) (fun _ =>
  ∀ (pins : List (Addr × Obj)) (s : Shared) (σ : St) (H : Hp) (x y : V) (v u : Value) (Q : VK), Inv X pins σ H s → RelV x v → RelV y u → r x y H Q →
    wpAny (model X.prog X.w) X.A (f v u) (EP X pins σ Q) X.xe s) := ⟨OpR.run⟩

structure UnR (X : Cx) (f : Value → Sem Value) (r : V → Hp → VK → Prop) : Prop where
  run :
    ∀ (pins : List (Addr × Obj)) (s : Shared) (σ : St) (H : Hp) (x : V) (v : Value) (Q : VK), Inv X pins σ H s → RelV x v → r x H Q →
      wpAny (model X.prog X.w) X.A (f v) (EP X pins σ Q) X.xe s
instance {X : Cx} {f : Value → Sem Value} {r : V → Hp → VK → Prop} : CoeFun (UnR X f r) (fun _ =>
  ∀ (pins : List (Addr × Obj)) (s : Shared) (σ : St) (H : Hp) (x : V) (v : Value) (Q : VK), Inv X pins σ H s → RelV x v → r x H Q →
    wpAny (model X.prog X.w) X.A (f v) (EP X pins σ Q) X.xe s) := ⟨UnR.run⟩

structure CallR (X : Cx) (f : Value) (r : List V → Hp → VK → Prop) : Prop where
  run :
    ∀ (pins : List (Addr × Obj)) (s : Shared) (σ : St) (H : Hp) (xs : List V) (us : List Value) (Q : VK), Inv X pins σ H s → Vals xs us → r xs H Q →
      wpAny (model X.prog X.w) X.A (call f us) (EP X pins σ Q) X.xe s
instance {X : Cx} {f : Value} {r : List V → Hp → VK → Prop} : CoeFun (CallR X f r) (fun _ =>
  ∀ (pins : List (Addr × Obj)) (s : Shared) (σ : St) (H : Hp) (xs : List V) (us : List Value) (Q : VK), Inv X pins σ H s → Vals xs us → r xs H Q →
    wpAny (model X.prog X.w) X.A (call f us) (EP X pins σ Q) X.xe s) := ⟨CallR.run⟩

noncomputable def TruR (X : Cx) (r : V → Hp → (Bool → Hp → Prop) → Prop) : Prop :=
  ∀ (pins : List (Addr × Obj)) (s : Shared) (σ : St) (H : Hp) (x : V) (v : Value) (Q : Bool → Hp → Prop), Inv X pins σ H s → RelV x v → r x H Q →
    wpAny (model X.prog X.w) X.A (truthy v) (TP X pins σ Q) X.xe s

noncomputable def tOp (r : R2) (ta tb : TE) : TE := fun σ H Q => ta σ H fun x H1 => tb σ H1 fun y H2 => r x y H2 Q
noncomputable def tUn (r : V → Hp → VK → Prop) (ta : TE) : TE := fun σ H Q => ta σ H fun x H1 => r x H1 Q

noncomputable def rI (C : Int → Int → Prop) (g : Int → Int → V) : R2 := fun x y H Q => ∃ i j, x = .int i ∧ y = .int j ∧ C i j ∧ Q (g i j) H
noncomputable def rI0 (g : Int → Int → V) : R2 := fun x y H Q => ∃ i j, x = .int i ∧ y = .int j ∧ Q (g i j) H
noncomputable def rU (g : Int → V) : V → Hp → VK → Prop := fun x H Q => ∃ i, x = .int i ∧ Q (g i) H

section
variable {X : Cx} {a b c : Expr} {ta tb tc : TE} {pos : Pos}

theorem binT (ha : PE X a ta) (hb : PE X b tb) {pins : List (Addr × Obj)} {s : Shared} {σ : St} {H : Hp} {R : V → V → Hp → Prop} (I : Inv X pins σ H s)
    (h : ta σ H fun x H1 => tb σ H1 fun y H2 => R x y H2) {Q : Value → Shared → Prop} {f : Value → Value → Sem Value}
    (hf : ∀ v u s2 x y H2, Inv X pins σ H2 s2 → RelV x v → RelV y u → R x y H2 → wpAny (model X.prog X.w) X.A (f v u) Q X.xe s2) :
    wpAny (model X.prog X.w) X.A (eval a X.env) (fun v s₁ => wpAny (model X.prog X.w) X.A (eval b X.env) (fun u s₂ => wpAny (model X.prog X.w) X.A (f v u) Q X.xe s₂) X.xe s₁) X.xe s := by
  refine thn (ha pins s σ H _ I h) fun v s1 ⟨x, H1, I1, r1, q1⟩ => ?_
  refine thn (hb pins s1 σ H1 _ I1 q1) fun u s2 ⟨y, H2, I2, r2, q2⟩ => ?_
  exact hf v u s2 x y H2 I2 r1 r2 q2

theorem pe_op {op : Operator} {r : R2} (ho : OpR X (binaryOp op) r) (ha : PE X a ta) (hb : PE X b tb) : PE X (.BinOp a op b pos) (tOp r ta tb) := by
  constructor
  intro pins s σ H Q I h
  exact wpAny_BinOp (binT ha hb I h fun v u s2 x y H2 I2 rx ry q => ho pins s2 σ H2 x y v u Q I2 rx ry q)
theorem pe_un {op : UnaryOp} {r : V → Hp → VK → Prop} (ho : UnR X (unaryOp op) r) (ha : PE X a ta) : PE X (.UnaryOp op a pos) (tUn r ta) := by
  constructor
  intro pins s σ H Q I h
  exact UnaryOp_ (thn (ha pins s σ H _ I h) fun v s1 ⟨x, H1, I1, r1, q1⟩ => ho pins s1 σ H1 x v Q I1 r1 q1)

theorem opI {f : Value → Value → Sem Value} {C : Int → Int → Prop} {g : Int → Int → Int}
    (rule : ∀ (i j : Int) (t u : Tok) (s : Shared) (Q : Value → Shared → Prop) (E : Value → Shared → Prop), C i j → Q (.int (g i j) s.toks) { s with toks := s.toks + 1 } → wpAny (model X.prog X.w) X.A (f (.int i t) (.int j u)) Q E s) :
    OpR X f (rI C fun i j => .int (g i j)) := by
  constructor
  intro pins s σ H x y v u Q I rx ry h
  obtain ⟨i, j, rfl, rfl, hc, q⟩ := h
  obtain ⟨t, rfl⟩ := rx
  obtain ⟨t', rfl⟩ := ry
  exact rule i j t t' s _ _ hc ⟨.int (g i j), H, I.tok _, ⟨_, rfl⟩, q⟩
theorem opI0 {f : Value → Value → Sem Value} {g : Int → Int → Int}
    (rule : ∀ (i j : Int) (t u : Tok) (s : Shared) (Q : Value → Shared → Prop) (E : Value → Shared → Prop), Q (.int (g i j) s.toks) { s with toks := s.toks + 1 } → wpAny (model X.prog X.w) X.A (f (.int i t) (.int j u)) Q E s) :
    OpR X f (rI0 fun i j => .int (g i j)) := by
  constructor
  intro pins s σ H x y v u Q I rx ry h
  obtain ⟨i, j, rfl, rfl, q⟩ := h
  obtain ⟨t, rfl⟩ := rx
  obtain ⟨t', rfl⟩ := ry
  exact rule i j t t' s _ _ ⟨.int (g i j), H, I.tok _, ⟨_, rfl⟩, q⟩
theorem opB0 {f : Value → Value → Sem Value} {g : Int → Int → Bool}
    (rule : ∀ (i j : Int) (t u : Tok) (s : Shared) (Q : Value → Shared → Prop) (E : Value → Shared → Prop), Q (.bool (g i j)) s → wpAny (model X.prog X.w) X.A (f (.int i t) (.int j u)) Q E s) :
    OpR X f (rI0 fun i j => .bl (g i j)) := by
  constructor
  intro pins s σ H x y v u Q I rx ry h
  obtain ⟨i, j, rfl, rfl, q⟩ := h
  obtain ⟨t, rfl⟩ := rx
  obtain ⟨t', rfl⟩ := ry
  exact rule i j t t' s _ _ ⟨.bl (g i j), H, I, rfl, q⟩

noncomputable def CDiv (i j : Int) : Prop := 0 < j ∧ j < 1073741824
noncomputable def CPow (i j : Int) : Prop := 0 ≤ j ∧ j ≤ 1000000 ∧ i.natAbs < 2 ^ 64
noncomputable def CMul (i j : Int) : Prop := (-(2 ^ 64) < i ∧ i < 2 ^ 64) ∨ (-(2 ^ 64) < j ∧ j < 2 ^ 64)
theorem CMul.ok {i j : Int} (h : CMul i j) : IntMulOk i j := by
  rcases h with ⟨h1, h2⟩ | ⟨h1, h2⟩
  · exact .of_left (intBits_le_64 h1 h2)
  · exact .of_right (intBits_le_64 h1 h2)
theorem op_add : OpR X (binaryOp .Add) (rI0 fun i j => .int (i + j)) := opI0 fun _ _ _ _ _ _ _ q => add_int q
theorem op_sub : OpR X (binaryOp .Sub) (rI0 fun i j => .int (i - j)) := opI0 fun _ _ _ _ _ _ _ q => sub_int q
theorem op_mul : OpR X (binaryOp .Mult) (rI CMul fun i j => .int (i * j)) := opI fun _ _ _ _ _ _ _ hc q => mul_int q hc.ok

theorem op_fdiv : OpR X (binaryOp .FloorDiv) (rI CDiv fun i j => .int (i / j)) := opI fun i j _ _ _ _ _ hc q => by
  have h1 : (0 : Int) < j := hc.1
  have h2 : j < 1073741824 := hc.2
  exact floordiv_int (by omega) (by rw [Int.fdiv_eq_ediv_of_nonneg i (by omega)]; exact q) (.inl (PyProof.noPylong_small (by omega)))
theorem op_mod : OpR X (binaryOp .Mod) (rI (fun _ j => 0 < j) fun i j => .int (i % j)) := opI fun i j _ _ _ _ _ hc q => by
  have h1 : (0 : Int) < j := hc
  exact mod_int' (by omega) (by rw [Int.fmod_eq_emod_of_nonneg i (by omega)]; exact q)
theorem op_pow : OpR X (binaryOp .Pow) (rI CPow fun i j => .int (i ^ j.toNat)) := opI fun _ _ _ _ _ _ _ hc q => pow_int_small hc.1 hc.2.1 hc.2.2 q
theorem unI {f : Value → Sem Value} {g : Int → Int}
    (rule : ∀ (i : Int) (t : Tok) (s : Shared) (Q : Value → Shared → Prop) (E : Value → Shared → Prop), Q (.int (g i) s.toks) { s with toks := s.toks + 1 } → wpAny (model X.prog X.w) X.A (f (.int i t)) Q E s) :
    UnR X f (rU fun i => .int (g i)) := by
  constructor
  intro pins s σ H x v Q I rx h
  obtain ⟨i, rfl, q⟩ := h
  obtain ⟨t, rfl⟩ := rx
  exact rule i t s _ _ ⟨.int (g i), H, I.tok _, ⟨_, rfl⟩, q⟩
theorem un_neg : UnR X (unaryOp .USub) (rU fun i => .int (-i)) := unI fun _ _ _ _ _ q => neg_int q
end



noncomputable def scal : V → V → Bool
  | .non, .non => true | .non, .int _ => true | .int _, .non => true | .non, .bl _ => true | .bl _, .non => true | .non, .str _ => true | .str _, .non => true
  | .int _, .int _ => true | .bl _, .bl _ => true | .str _, .str _ => true | .byt _, .byt _ => true
  | .int _, .str _ => true | .str _, .int _ => true | .bl _, .str _ => true | .str _, .bl _ => true
  | _, _ => false
noncomputable def rEq : R2 := fun x y H Q => scal x y = true ∧ Q (.bl (decide (x = y))) H
noncomputable def rNe : R2 := fun x y H Q => scal x y = true ∧ Q (.bl (!decide (x = y))) H

theorem dec_int {i j : Int} : decide (V.int i = V.int j) = (i == j) := by
  rw [Bool.eq_iff_iff]
  simp
theorem dec_bl {i j : Bool} : decide (V.bl i = V.bl j) = (i == j) := by
  rw [Bool.eq_iff_iff]
  simp
theorem dec_str {i j : Str} : decide (V.str i = V.str j) = (i == j) := by
  rw [Bool.eq_iff_iff]
  simp
theorem dec_byt {i j : Array UInt8} : decide (V.byt i = V.byt j) = (i.toList == j.toList) := by
  rw [Bool.eq_iff_iff]
  cases i
  cases j
  simp

section
variable {X : Cx} {a b c : Expr} {ta tb tc : TE} {pos : Pos}
theorem fin_bl {pins : List (Addr × Obj)} {σ : St} {H : Hp} {s : Shared} {Q : VK} {k k' : Bool} (I : Inv X pins σ H s) (q : Q (.bl k) H) (e : k = k') : EP X pins σ Q (.bool k') s := by
  subst e
  exact ⟨.bl k, H, I, rfl, q⟩
theorem op_eq : OpR X (compareOp .Eq) rEq := by
  constructor
  intro pins s σ H x y v u Q I rx ry h
  obtain ⟨hs, q⟩ := h
  cases x with
  | non =>
    cases rx
    cases y with
    | non => cases ry; exact PySem.EqNone.eq_none_none (fin_bl I q (by simp))
    | bl j => cases ry; exact PySem.EqNone.eq_none_bool (fin_bl I q (by simp))
    | int j => obtain ⟨t', rfl⟩ := ry; exact PySem.EqNone.eq_none_int (fin_bl I q (by simp))
    | str j => obtain ⟨t', rfl⟩ := ry; exact PySem.EqNone.eq_none_str (fin_bl I q (by simp))
    | _ => exact absurd (show false = true from hs) Bool.false_ne_true
  | bl i =>
    cases rx
    cases y with
    | non => cases ry; exact PySem.EqNone.eq_bool_none (fin_bl I q (by simp))
    | bl j => cases ry; exact eq_bool (fin_bl I q dec_bl)
    | str j => obtain ⟨t', rfl⟩ := ry; exact PySem.EqMixed.eq_bool_str (fin_bl I q (by simp))
    | _ => exact absurd (show false = true from hs) Bool.false_ne_true
  | int i =>
    obtain ⟨t, rfl⟩ := rx
    cases y with
    | non => cases ry; exact PySem.EqNone.eq_int_none (fin_bl I q (by simp))
    | int j => obtain ⟨t', rfl⟩ := ry; exact eq_int (fin_bl I q dec_int)
    | str j => obtain ⟨t', rfl⟩ := ry; exact PySem.EqMixed.eq_int_str (fin_bl I q (by simp))
    | _ => exact absurd (show false = true from hs) Bool.false_ne_true
  | str i =>
    obtain ⟨t, rfl⟩ := rx
    cases y with
    | non => cases ry; exact PySem.EqNone.eq_str_none (fin_bl I q (by simp))
    | bl j => cases ry; exact PySem.EqMixed.eq_str_bool (fin_bl I q (by simp))
    | int j => obtain ⟨t', rfl⟩ := ry; exact PySem.EqMixed.eq_str_int (fin_bl I q (by simp))
    | str j => obtain ⟨t', rfl⟩ := ry; exact eq_str (fin_bl I q dec_str)
    | _ => exact absurd (show false = true from hs) Bool.false_ne_true
  | byt i =>
    obtain ⟨t, rfl⟩ := rx
    cases y with
    | byt j => obtain ⟨t', rfl⟩ := ry; exact PySem.W.eq_bytes (fin_bl I q dec_byt)
    | _ => exact absurd (show false = true from hs) Bool.false_ne_true
  | _ => cases y <;> exact absurd (show false = true from hs) Bool.false_ne_true
theorem op_ne : OpR X (compareOp .NotEq) rNe := by
  constructor
  intro pins s σ H x y v u Q I rx ry h
  obtain ⟨hs, q⟩ := h
  cases x with
  | non =>
    cases rx
    cases y with
    | non => cases ry; exact PySem.EqNone.ne_none_none (fin_bl I q (by simp))
    | bl j => cases ry; exact PySem.EqNone.ne_none_bool (fin_bl I q (by simp))
    | int j => obtain ⟨t', rfl⟩ := ry; exact PySem.EqNone.ne_none_int (fin_bl I q (by simp))
    | str j => obtain ⟨t', rfl⟩ := ry; exact PySem.EqNone.ne_none_str (fin_bl I q (by simp))
    | _ => exact absurd (show false = true from hs) Bool.false_ne_true
  | bl i =>
    cases rx
    cases y with
    | non => cases ry; exact PySem.EqNone.ne_bool_none (fin_bl I q (by simp))
    | bl j => cases ry; exact ne_bool (fin_bl I q (congrArg not dec_bl))
    | str j => obtain ⟨t', rfl⟩ := ry; exact PySem.EqMixed.ne_bool_str (fin_bl I q (by simp))
    | _ => exact absurd (show false = true from hs) Bool.false_ne_true
  | int i =>
    obtain ⟨t, rfl⟩ := rx
    cases y with
    | non => cases ry; exact PySem.EqNone.ne_int_none (fin_bl I q (by simp))
    | int j => obtain ⟨t', rfl⟩ := ry; exact ne_int (fin_bl I q (congrArg not dec_int))
    | str j => obtain ⟨t', rfl⟩ := ry; exact PySem.EqMixed.ne_int_str (fin_bl I q (by simp))
    | _ => exact absurd (show false = true from hs) Bool.false_ne_true
  | str i =>
    obtain ⟨t, rfl⟩ := rx
    cases y with
    | non => cases ry; exact PySem.EqNone.ne_str_none (fin_bl I q (by simp))
    | bl j => cases ry; exact PySem.EqMixed.ne_str_bool (fin_bl I q (by simp))
    | int j => obtain ⟨t', rfl⟩ := ry; exact PySem.EqMixed.ne_str_int (fin_bl I q (by simp))
    | str j => obtain ⟨t', rfl⟩ := ry; exact ne_str (fin_bl I q (congrArg not dec_str))
    | _ => exact absurd (show false = true from hs) Bool.false_ne_true
  | byt i =>
    obtain ⟨t, rfl⟩ := rx
    cases y with
    | byt j => obtain ⟨t', rfl⟩ := ry; exact PySem.W.ne_bytes (fin_bl I q (congrArg not dec_byt))
    | _ => exact absurd (show false = true from hs) Bool.false_ne_true
  | _ => cases y <;> exact absurd (show false = true from hs) Bool.false_ne_true

theorem op_lt : OpR X (compareOp .Lt) (rI0 fun i j => .bl (decide (i < j))) := opB0 fun _ _ _ _ _ _ _ q => lt_int q
theorem op_le : OpR X (compareOp .LtE) (rI0 fun i j => .bl (decide (i ≤ j))) := opB0 fun _ _ _ _ _ _ _ q => le_int q
theorem op_gt : OpR X (compareOp .Gt) (rI0 fun i j => .bl (decide (j < i))) := opB0 fun _ _ _ _ _ _ _ q => gt_int q
theorem op_ge : OpR X (compareOp .GtE) (rI0 fun i j => .bl (decide (j ≤ i))) := opB0 fun _ _ _ _ _ _ _ q => ge_int q
theorem op_isN : OpR X (compareOp .Is) (fun x y H Q => y = .non ∧ Q (.bl (decide (x = .non))) H) := by
  constructor
  intro pins s σ H x y v u Q I rx ry h
  obtain ⟨rfl, q⟩ := h
  cases ry
  refine is_none_gen (fin_bl I q ?_)
  cases x <;> first
    | (cases rx; rfl)
    | (obtain ⟨t, rfl⟩ := rx; rfl)
theorem nomark (b : Expr) {op : CmpOp} (h : op ≠ .In := by decide) (h2 : op ≠ .NotIn := by decide) : behindInMarks op b = false := by
  have e1 : (op == CmpOp.In) = false := by cases op <;> first | rfl | exact absurd rfl h
  have e2 : (op == CmpOp.NotIn) = false := by cases op <;> first | rfl | exact absurd rfl h2
  cases b <;> simp [behindInMarks, e1, e2]

theorem pe_cmpR {op : CmpOp} {r : R2} (ho : OpR X (compareOp op) r) (ha : PE X a ta) (hb : PE X b tb) (hm : behindInMarks op b = false) : PE X (.Compare a [op] [b] pos) (tOp r ta tb) := by
  constructor
  intro pins s σ H Q I h
  exact wpAny_Compare1 (binT ha hb I h fun v u s2 x y H2 I2 rx ry q => ho pins s2 σ H2 x y v u Q I2 rx ry q) hm

noncomputable def tTest (t : TE) : TT := fun σ H Q => t σ H fun x H' => ∃ k, x = .bl k ∧ Q k H'
theorem pt_cmpR {op : CmpOp} {r : R2} (ho : OpR X (compareOp op) r) (ha : PE X a ta) (hb : PE X b tb) (hm : behindInMarks op b = false) : PT X (.Compare a [op] [b] pos) (tTest (tOp r ta tb)) := by
  constructor
  intro pins s σ H Q I h
  refine wpAny_isTrue_Compare1 (thn (ha pins s σ H _ I h) fun v s1 ⟨x, H1, I1, r1, q1⟩ => thn (hb pins s1 σ H1 _ I1 q1) fun u s2 ⟨y, H2, I2, r2, q2⟩ =>
    thn (ho pins s2 σ H2 x y v u _ I2 r1 r2 q2) fun c s3 ⟨z, H3, I3, r3, k, e, q3⟩ => ?_) hm
  subst e
  cases r3
  exact wpAny_truthy_bool ⟨H3, I3, q3⟩

noncomputable def tChain (r r' : R2) (ta tb tc : TE) : TE := fun σ H Q => ta σ H fun x H1 => tb σ H1 fun y H2 => r x y H2 fun z H3 => ∃ k, z = .bl k ∧
  (if k = true then tc σ H3 fun w' H4 => r' y w' H4 Q else Q (.bl false) H3)
theorem pe_chain {op op' : CmpOp} {r r' : R2} (ho : OpR X (compareOp op) r) (ho' : OpR X (compareOp op') r') (ha : PE X a ta) (hb : PE X b tb) (hc : PE X c tc)
    (hm : lastMarks [op, op'] [b, c] = false := by with_unfolding_all rfl) : PE X (.Compare a [op, op'] [b, c] pos) (tChain r r' ta tb tc) := by
  constructor
  intro pins s σ H Q I h
  refine Compare_chain (thn (ha pins s σ H _ I h) fun v s1 ⟨x, H1, I1, r1, q1⟩ => chain_link (thn (hb pins s1 σ H1 _ I1 q1) fun u s2 ⟨y, H2, I2, r2, q2⟩ =>
    thn (ho pins s2 σ H2 x y v u _ I2 r1 r2 q2) fun d s3 ⟨z, H3, I3, r3, k, e, q3⟩ => ?_)) hm
  subst e
  cases r3
  refine wpAny_truthy_bool ?_
  cases k with
  | false => exact ite_ff ⟨.bl false, H3, I3, rfl, q3⟩
  | true => exact ite_tt (chain_last (thn (hc pins s3 σ H3 _ I3 q3) fun w' s4 ⟨z', H4, I4, r4, q4⟩ => ho' pins s4 σ H4 y z' u w' Q I4 r2 r4 q4))
theorem pt_chain {op op' : CmpOp} {r r' : R2} (ho : OpR X (compareOp op) r) (ho' : OpR X (compareOp op') r') (ha : PE X a ta) (hb : PE X b tb) (hc : PE X c tc)
    (hm : lastMarks [op, op'] [b, c] = false := by with_unfolding_all rfl) : PT X (.Compare a [op, op'] [b, c] pos) (tTest (tChain r r' ta tb tc)) := by
  constructor
  intro pins s σ H Q I h
  refine isTrue_chain (thn (ha pins s σ H _ I h) fun v s1 ⟨x, H1, I1, r1, q1⟩ => test_link (thn (hb pins s1 σ H1 _ I1 q1) fun u s2 ⟨y, H2, I2, r2, q2⟩ =>
    thn (ho pins s2 σ H2 x y v u _ I2 r1 r2 q2) fun d s3 ⟨z, H3, I3, r3, k, e, q3⟩ => ?_)) hm
  subst e
  cases r3
  refine wpAny_truthy_bool ?_
  cases k with
  | false =>
    obtain ⟨k', e', q'⟩ := q3
    cases e'
    exact ite_ff ⟨H3, I3, q'⟩
  | true =>
    refine ite_tt (test_last (thn (hc pins s3 σ H3 _ I3 q3) fun w' s4 ⟨z', H4, I4, r4, q4⟩ => thn (ho' pins s4 σ H4 y z' u w' _ I4 r2 r4 q4) fun d' s5 ⟨z2, H5, I5, r5, k2, e2, q5⟩ => ?_))
    subst e2
    cases r5
    exact wpAny_truthy_bool ⟨H5, I5, q5⟩



noncomputable def TruV (K : PySem.W.Frag) (x : V) (H : Hp) (k : Bool) : Prop :=
  match x with
  | .non => k = false
  | .bl b => k = b
  | .int i => k = (i != 0)
  | .str y => y.length ≤ sizeLine ∧ k = ((y.length : Int) != 0)
  | .byt y => y.size ≤ sizeLine ∧ k = ((y.size : Int) != 0)
  | .ref p => (∃ xs, SqL K H p xs ∧ k = !xs.isEmpty) ∨ (∃ xs, SqT K H p xs ∧ k = !xs.isEmpty) ∨ ∃ kvs, H p = some (.dK kvs) ∧ k = !kvs.isEmpty
  | _ => False
theorem isEmpty_kv {κ : Type} {kvs : List (κ × V)} {vs : List (κ × Value)} (r : KV kvs vs) : (!vs.isEmpty) = !kvs.isEmpty := by
  cases r <;> rfl
theorem isEmpty_of {xs : List V} {its : List Value} (r : Vals xs its) : (!its.toArray.isEmpty) = !xs.isEmpty := by
  cases r <;> simp
theorem line63 : (sizeLine : Nat) < 2 ^ 63 := by rw [sizeLine_eq]; decide
theorem tru_ok : TruR X (fun x H Q => ∃ k, TruV X.K x H k ∧ Q k H) := by
  intro pins s σ H x v Q I rx h
  obtain ⟨k, e, q⟩ := h
  have hl := line63
  have hs : sizeLine = 16777216 := sizeLine_eq
  cases x with
  | non =>
    cases rx
    have e' : k = false := e
    subst e'
    exact truthy_none ⟨H, I, q⟩
  | bl b =>
    cases rx
    have e' : k = b := e
    subst e'
    exact wpAny_truthy_bool ⟨H, I, q⟩
  | int i =>
    obtain ⟨t, rfl⟩ := rx
    have e' : k = (i != 0) := e
    subst e'
    exact PySem.P.truthy_int ⟨H, I, q⟩
  | str y =>
    obtain ⟨t, rfl⟩ := rx
    obtain ⟨hy, e'⟩ : y.length ≤ sizeLine ∧ k = ((y.length : Int) != 0) := e
    subst e'
    exact PySem.P.truthy_str (by omega) ⟨H, I.tok _, q⟩
  | byt y =>
    obtain ⟨t, rfl⟩ := rx
    obtain ⟨hy, e'⟩ : y.size ≤ sizeLine ∧ k = ((y.size : Int) != 0) := e
    subst e'
    exact PySem.W.truthy_bytes (by omega) ⟨H, I.tok _, q⟩
  | ref p =>
    cases rx
    have e' : (∃ xs, SqL X.K H p xs ∧ k = !xs.isEmpty) ∨ (∃ xs, SqT X.K H p xs ∧ k = !xs.isEmpty) ∨ ∃ kvs, H p = some (.dK kvs) ∧ k = !kvs.isEmpty := e
    rcases e' with ⟨xs, hx, e'⟩ | ⟨xs, hx, e'⟩ | ⟨kvs, hx, e'⟩
    · subst e'
      obtain ⟨its, r, pl, hz⟩ := I.list hx
      have hlen := r.length
      exact wpAny_truthy_list pl.isList (by simp only [List.size_toArray]; omega) ⟨H, I.tok _, by rw [isEmpty_of r]; exact q⟩
    · subst e'
      obtain ⟨its, r, pl, hz⟩ := I.tuple hx
      have hlen := r.length
      exact truthy_tuple pl (by simp only [List.size_toArray]; omega) ⟨H, I.tok _, by rw [isEmpty_of r]; exact q⟩
    · subst e'
      obtain ⟨hz, hS, vs, r, m⟩ : kvs.length ≤ sizeLine ∧ (p == sysModules) = false ∧ ∃ vs, KV kvs vs ∧ s.heap.DictOf (mixKind X.prog X.w) p vs := I.hok p _ hx
      have hlen : kvs.length = vs.length := Paired.length r
      exact wpAny_truthy_dict hS m (by omega) ⟨H, I.tok _, by rw [isEmpty_kv r]; exact q⟩
  | _ => exact (show False from e).elim

theorem pt_truth (ha : PE X a ta) (he : ∀ whole, isTrue a X.env whole = (do let v ← whole; standAt a.pos; holding [v] (truthy v))) :
    PT X a (fun σ H Q => ta σ H fun x H' => ∃ k, TruV X.K x H' k ∧ Q k H') := by
  constructor
  intro pins s σ H Q I h
  exact isTrue_plain (thn (ha pins s σ H _ I h) fun v s1 ⟨x, H1, I1, r1, q1⟩ => tru_ok pins s1 σ H1 x v Q I1 r1 q1) (he _)


theorem op_add_str : OpR X (binaryOp .Add) (fun x y H Q => ∃ i j, x = .str i ∧ y = .str j ∧ i.length + j.length ≤ sizeLine ∧ Q (.str (i ++ j)) H) := by
  constructor
  intro pins s σ H x y v u Q I rx ry h
  obtain ⟨i, j, rfl, rfl, hz, q⟩ := h
  obtain ⟨t, rfl⟩ := rx
  obtain ⟨t', rfl⟩ := ry
  exact add_str (fun t' tk => ⟨.str (i ++ j), H, I.tok _, ⟨_, rfl⟩, q⟩) hz
theorem vals1 {x : V} {us : List Value} (r : Vals [x] us) : ∃ u, us = [u] ∧ RelV x u := by
  cases r with
  | cons r1 r2 => cases r2; exact ⟨_, rfl, r1⟩
theorem vals2 {x y : V} {us : List Value} (r : Vals [x, y] us) : ∃ u w', us = [u, w'] ∧ RelV x u ∧ RelV y w' := by
  cases r with
  | cons r1 r2 =>
    cases r2 with
    | cons r3 r4 => cases r4; exact ⟨_, _, rfl, r1, r3⟩
theorem call_abs : CallR X (.builtin "abs") (fun xs H Q => ∃ i, xs = [.int i] ∧ Q (.int (if i < 0 then -i else i)) H) := by
  constructor
  intro pins s σ H xs us Q I r h
  obtain ⟨i, rfl, q⟩ := h
  obtain ⟨u, rfl, t, rfl⟩ := vals1 r
  exact call_abs_int fun u tk => ⟨.int (if i < 0 then -i else i), H, I.tok _, ⟨_, rfl⟩, q⟩
theorem call_max2 (hc : X.calm = true) : CallR X (.builtin "max") (fun xs H Q => ∃ i j, xs = [.int i, .int j] ∧ Q (.int (if j > i then j else i)) H) := by
  constructor
  intro pins s σ H xs us Q I r h
  obtain ⟨i, j, rfl, q⟩ := h
  obtain ⟨u, w', rfl, ⟨t, rfl⟩, ⟨t', rfl⟩⟩ := vals2 r
  refine max_two_ints (I.ok.hd hc) fun h' tk k => ⟨_, H, I.kept k, ?_, q⟩
  by_cases hj : j > i
  · rw [if_pos hj, if_pos hj]; exact ⟨_, rfl⟩
  · rw [if_neg hj, if_neg hj]; exact ⟨_, rfl⟩
theorem call_min2 (hc : X.calm = true) : CallR X (.builtin "min") (fun xs H Q => ∃ i j, xs = [.int i, .int j] ∧ Q (.int (if j < i then j else i)) H) := by
  constructor
  intro pins s σ H xs us Q I r h
  obtain ⟨i, j, rfl, q⟩ := h
  obtain ⟨u, w', rfl, ⟨t, rfl⟩, ⟨t', rfl⟩⟩ := vals2 r
  refine min_two_ints (I.ok.hd hc) fun h' tk k => ⟨_, H, I.kept k, ?_, q⟩
  by_cases hj : j < i
  · rw [if_pos hj, if_pos hj]; exact ⟨_, rfl⟩
  · rw [if_neg hj, if_neg hj]; exact ⟨_, rfl⟩
theorem call_int1 : CallR X (.type "int") (fun xs H Q => (∃ i, xs = [.int i] ∧ Q (.int i) H) ∨ ∃ k, xs = [.bl k] ∧ Q (.int (if k then 1 else 0)) H) := by
  constructor
  intro pins s σ H xs us Q I r h
  rcases h with ⟨i, rfl, q⟩ | ⟨k, rfl, q⟩
  · obtain ⟨u, rfl, t, rfl⟩ := vals1 r
    exact call_int_int ⟨.int i, H, I, ⟨_, rfl⟩, q⟩
  · obtain ⟨u, rfl, r1⟩ := vals1 r
    cases r1
    exact call_int_bool ⟨.int (if k then 1 else 0), H, I.tok _, ⟨_, rfl⟩, q⟩
theorem call_str_int : CallR X (.type "str") (fun xs H Q => ∃ i, xs = [.int i] ∧ i.natAbs.log2 < 1920 ∧ Q (.str (toString i)) H) := by
  constructor
  intro pins s σ H xs us Q I r h
  obtain ⟨i, rfl, hz, q⟩ := h
  obtain ⟨u, rfl, t, rfl⟩ := vals1 r
  exact PySem.P.str_of_int hz ⟨.str _, H, I.tok _, ⟨_, rfl⟩, q⟩
end
end L2

namespace L2
open PySem PySem.Spec PyProof.Rows


structure ObjM (h : Heap) (x dx C : Addr) (mA : Str → Option Value) : Prop where
  obj : h.get? x = some (PySem.W.instObj C dx)
  ns : h.Ns1 dx mA
  ne : dx ≠ x

theorem lookIn_ns {h : Heap} {dx : Addr} {mA : Str → Option Value} (n : h.Ns1 dx mA) : ∃ od, h.get? dx = some od ∧ ∀ name, PySem.W.lookIn name od = some (mA name) := by
  obtain ⟨o, es, ep, ho, hd, hk, _, hm⟩ := n
  refine ⟨o, ho, fun name => ?_⟩
  have e := hm name
  unfold nsFind findBy at e
  rw [← Array.find?_toList] at e
  unfold PySem.W.lookIn
  rw [hd]
  dsimp only
  split
  · rename_i y q
    rw [q] at e
    exact congrArg some e
  · rename_i q
    rw [q] at e
    have a : es.toList.any (·.refKey) = false := by
      rw [List.any_eq_false]
      intro y hy
      obtain ⟨z, t, hkey⟩ := hk y (Array.mem_toList_iff.mp hy)
      simp [DictEntry.refKey, hkey]
    have a' : ¬ es.toList.any (·.refKey) = true := by rw [a]; exact Bool.false_ne_true
    rw [if_neg a']
    exact congrArg some e

theorem ObjM.look {h : Heap} {x dx C : Addr} {mA : Str → Option Value} (I : ObjM h x dx C mA) : ∃ od, PySem.W.InstAt h x (PySem.W.instObj C dx) C (some od) ∧ ∀ name, PySem.W.lookIn name od = some (mA name) :=
  let ⟨od, ho, hl⟩ := lookIn_ns I.ns
  ⟨od, ⟨I.obj, rfl, rfl, ho⟩, hl⟩

section
variable {prog : Program} {w : World} {A : Around} {E : Value → Shared → Prop} {s : Shared} {K : PySem.W.Frag} {x dx C f : Addr} {mA : Str → Option Value} {name : Str} {v : Value}

end


theorem RelO.some_of {v : V} {o : Option Value} (r : RelO (some v) o) : ∃ u, o = some u ∧ RelV v u := by
  cases o with
  | none => exact (show False from r).elim
  | some u => exact ⟨u, rfl, r⟩
section
variable {P : Program} {w : World} {H H' : Hp} {h h' : Heap} {a C dx : Addr} {fs fs' : List (Str × V)}
theorem ins_get (hok : HOk P w H h) (e : H a = some (.ins C dx fs)) : ∃ mA, ObjM h a dx C mA ∧ (∀ f, RelO (fs.lookup f) (mA f)) ∧ PySem.Within mA (fs.map (·.1)) ∧ fs.length ≤ 1000 ∧ H dx = some (.own a) := by
  obtain ⟨d, z, ne, ob, mA, n, r, q⟩ := (show ObjOk P w H h a (.ins C dx fs) from hok a _ e)
  exact ⟨mA, ⟨ob, n, ne⟩, r, q, z, d⟩
end


structure Cls (K : PySem.W.Frag) (C : Addr) : Prop where
  pg : PySem.W.plainGet K C Str.empty = true
  hd : PySem.W.hasDictIn K C = true
  po : PySem.W.plainOver K C = true
  sa : PySem.W.findIn K (.ref C) "__setattr__" = some (some (.builtin "object.__setattr__"))
theorem Cls.get {K : PySem.W.Frag} {C : Addr} (c : Cls K C) (f : Str) : PySem.W.plainGet K C f = true := c.pg

section
variable {X : Cx} {pins : List (Addr × Obj)} {σ : St} {H : Hp} {s : Shared} {a C dx : Addr} {fs : List (Str × V)} {f : Str} {v : V} {A : Around} {E : Value → Shared → Prop}

end



structure InOp (X : Cx) (op : Operator) (rd : V → V → Hp → VK → Prop) : Prop where
  run :
    ∀ (pins : List (Addr × Obj)) (s : Shared) (σ : St) (H : Hp) (x y : V) (u v : Value) (Q : VK), Inv X pins σ H s → RelV x u → RelV y v → rd x y H Q → wpAny (model X.prog X.w) X.A (inplaceOp op u v) (EP X pins σ Q) X.xe s
instance {X : Cx} {op : Operator} {rd : V → V → Hp → VK → Prop} : CoeFun (InOp X op rd) (fun _ =>
  ∀ (pins : List (Addr × Obj)) (s : Shared) (σ : St) (H : Hp) (x y : V) (u v : Value) (Q : VK), Inv X pins σ H s → RelV x u → RelV y v → rd x y H Q → wpAny (model X.prog X.w) X.A (inplaceOp op u v) (EP X pins σ Q) X.xe s) := ⟨InOp.run⟩

section
variable {X : Cx} {o e value : Expr} {f : Str} {pos pos' tpos : Pos} {ta tv : TE}
end


section
variable {X : Cx} {pins : List (Addr × Obj)} {σ : St} {H : Hp} {s : Shared} {A : Around} {E : Value → Shared → Prop} {Q : Value → Shared → Prop} {c : Value} {b : Bool}

inductive TyOf (K : PySem.W.Frag) (H : Hp) : V → Value → Prop where
  | non : TyOf K H .non (.type "NoneType")
  | bl (x : Bool) : TyOf K H (.bl x) (.type "bool")
  | int (i : Int) : TyOf K H (.int i) (.type "int")
  | str (x : Str) : TyOf K H (.str x) (.type "str")
  | flt (x : UInt64) : TyOf K H (.flt x) (.type "float")
  | lst {a : Addr} {xs : List V} (e : H a = some (.lst xs)) : TyOf K H (.ref a) (.type "list")
  | frz {a : Addr} {o : Obj} {xs : List V} (e : H a = some (.frz o (.lst xs))) : TyOf K H (.ref a) (.type "list")
  | tup {a : Addr} {xs : List V} (e : H a = some (.tup xs)) : TyOf K H (.ref a) (.type "tuple")
  | dK {a : Addr} {kvs : List (Key × V)} (e : H a = some (.dK kvs)) : TyOf K H (.ref a) (.type "dict")
  | dT {a : Addr} {kvs : List (List Key × V)} (e : H a = some (.dT kvs)) : TyOf K H (.ref a) (.type "dict")
  | ins {a C dx : Addr} {fs : List (Str × V)} (e : H a = some (.ins C dx fs)) (cl : Cls K C) (ha : PySem.W.findIn K (.ref C) "__class__" = some (some (.builtin "object.__class__")))
      (hn : PySem.W.specialIn K (.builtin "object.__class__") "__get__" = some (some (.builtin "getset_descriptor.__get__"))) (htk : PySem.W.takesIn K (.builtin "object.__class__") = some true)
      (hm : PySem.W.mroIn K C (.type "object") = some true) : TyOf K H (.ref a) (.ref C)

theorem isinst_ok {x : V} {u t : Value} (I : Inv X pins σ H s) (rx : RelV x u) (ty : TyOf X.K H x t) (e : PySem.W.kitOne X.K t c = some b) (h : ∀ tk, Q (.bool b) { s with toks := tk }) :
    wpAny (model X.prog X.w) A (call (.builtin "isinstance") [u, c]) Q E s := by
  cases ty with
  | non => cases (show u = Value.none from rx); exact PySem.W.kia_one PySem.W.kitx_none I.kIn True.intro e (fun z => nomatch z) h
  | bl y => cases (show u = Value.bool y from rx); exact PySem.W.kia_one PySem.W.kitx_bool I.kIn True.intro e (fun z => nomatch z) h
  | int i => obtain ⟨t, q⟩ := (show ∃ t, u = Value.int i t from rx); cases q; exact PySem.W.kia_one PySem.W.kitx_int I.kIn True.intro e (fun z => nomatch z) h
  | str y => obtain ⟨t, q⟩ := (show ∃ t, u = Value.str y t from rx); cases q; exact PySem.W.kia_one PySem.W.kitx_str I.kIn True.intro e (fun z => nomatch z) h
  | flt y => obtain ⟨t, q⟩ := (show ∃ t, u = Value.float y t from rx); cases q; exact PySem.W.kia_one PySem.W.kitx_float I.kIn True.intro e (fun z => nomatch z) h
  | @lst a xs ea =>
    cases (show u = Value.ref a from rx)
    obtain ⟨_, _, n, _, h1⟩ := (show ObjOk X.prog X.w H s.heap a (.lst xs) from I.hok a _ ea)
    exact PySem.W.kia_one PySem.W.kitx_list I.kIn ⟨_, h1, rfl⟩ e (fun z => nomatch z) h
  | @frz a ob xs ea =>
    cases (show u = Value.ref a from rx)
    obtain ⟨_, _, _, n, _, h1⟩ := (show ObjOk X.prog X.w H s.heap a (.frz ob (.lst xs)) from I.hok a _ ea)
    exact PySem.W.kia_one PySem.W.kitx_list I.kIn ⟨_, h1, rfl⟩ e (fun z => nomatch z) h
  | @tup a xs ea =>
    cases (show u = Value.ref a from rx)
    obtain ⟨_, _, _, p⟩ := (show ObjOk X.prog X.w H s.heap a (.tup xs) from I.hok a _ ea)
    obtain ⟨o, h1, h2, _⟩ := p
    exact PySem.W.kia_one PySem.W.kitx_tuple I.kIn ⟨o, h1, h2⟩ e (fun z => nomatch z) h
  | @dK a kvs ea =>
    cases (show u = Value.ref a from rx)
    obtain ⟨_, _, vs, _, p⟩ := (show ObjOk X.prog X.w H s.heap a (.dK kvs) from I.hok a _ ea)
    obtain ⟨o, es, ep, h1, h2, _⟩ := p
    exact PySem.W.kia_one PySem.W.kitx_dict I.kIn ⟨o, h1, h2.1⟩ e (fun z => nomatch z) h
  | @dT a kvs ea =>
    cases (show u = Value.ref a from rx)
    obtain ⟨_, _, xs, _, o, es, ep, h1, h2, _⟩ := (show ObjOk X.prog X.w H s.heap a (.dT kvs) from I.hok a _ ea)
    exact PySem.W.kia_one PySem.W.kitx_dict I.kIn ⟨o, h1, h2.1⟩ e (fun z => nomatch z) h
  | @ins a C dx fs ea cl ha hn htk hm =>
    cases (show u = Value.ref a from rx)
    obtain ⟨mA, O, _⟩ := ins_get I.hok ea
    obtain ⟨od, J, _⟩ := O.look
    exact PySem.W.kia_one (PySem.W.kitx_own (cl.get _) cl.hd ha hn htk hm) I.kIn J e (fun z => nomatch z) h
end
end L2

namespace L2
open PySem PySem.Spec PyProof.Rows


structure Room (k : Nat) (A : Around) : Prop where
  hd : A.handled = none
  dp : A.depth + 3 * k + 5 < recursionLimit
  un : A.units + 16 * k + 200 < cLine
  gd : A.guards = some []
theorem Room.mono {j k : Nat} {A : Around} (r : Room k A) (h : j ≤ k) : Room j A := ⟨r.hd, by have := r.dp; omega, by have := r.un; omega, r.gd⟩
theorem Room.deeper {k : Nat} {A : Around} (r : Room (k + 1) A) (env : Env) : Room k (A.deeper env) :=
  ⟨r.hd, by have := r.dp; show A.depth + 1 + 3 * k + 5 < _; omega, by have := r.un; show A.units + 3 + 16 * k + 200 < _; omega, r.gd⟩
theorem Room.depth {k : Nat} {A : Around} (r : Room k A) : A.depth < recursionLimit := by have := r.dp; omega
theorem Room.units {k : Nat} {A : Around} (r : Room k A) : A.units + 64 < cLine := by have := r.un; omega
noncomputable def tNil : TA := fun _ H Q => Q [] H
noncomputable def tCons (ta : TE) (tr : TA) : TA := fun σ H Q => ta σ H fun x H1 => tr σ H1 fun xs H2 => Q (x :: xs) H2
section
variable {X : Cx} {e : Expr} {es : List Expr} {te : TE} {t : TA} {pos : Pos}
theorem pa_nil : PA X [] tNil := ⟨fun _ _ _ _ H Q I h => Calls.spliced_nil ⟨[], H, I, .nil, h⟩⟩
theorem pa_cons (ha : PE X e te) (hr : PA X es t) (hs : starEach (e :: es) X.env = (false, eval e X.env) :: starEach es X.env := by rfl) : PA X (e :: es) (tCons te t) := by
  constructor
  intro pos pins s σ H Q I h
  rw [hs]
  show wpAny _ _ (spliced ((false, eval e X.env) :: backTo pos (starEach es X.env))) _ _ s
  refine Calls.spliced_cons (thn (ha pins s σ H _ I h) fun u s1 ⟨x, H1, I1, r1, q1⟩ => ?_)
  exact thn (hr pos pins s1 σ H1 _ I1 q1) fun us s2 ⟨xs, H2, I2, r2, q2⟩ => ⟨x :: xs, H2, I2, .cons r1 r2, q2⟩


noncomputable def tTup (t : TA) : TE := fun σ H Q => t σ H fun xs H1 => xs.length ≤ sizeLine ∧ ∀ p, H1 p = none → Q (.ref p) (upd H1 p (.tup xs))
noncomputable def tLst (t : TA) : TE := fun σ H Q => t σ H fun xs H1 => xs.length ≤ sizeLine ∧ ∀ p, H1 p = none → Q (.ref p) (upd H1 p (.lst xs))
theorem pe_tup {x1} (h : PA X es t) : PE X (.Tuple es x1 pos) (tTup t) := by
  constructor
  intro pins s σ H Q I hq
  refine wpAny_Tuple_spliced (thn (h pos pins s σ H _ I hq) fun us s1 ⟨xs, H1, I1, r, z, q⟩ => ⟨by rw [← r.length]; exact z, ?_⟩)
  have hf : H1 s1.heap.objs.size = none := I1.hok.fresh (Nat.le_refl _)
  refine ⟨.ref s1.heap.objs.size, upd H1 s1.heap.objs.size (.tup xs), I1.laid (t' := s1.toks) (fun b u e => Heap.get?_push_of_some _ e) (Nat.le_refl _) ?_, rfl, q _ hf⟩
  exact ⟨z, us, r, ⟨_, Heap.get?_push_size _ rfl, rfl, ⟨_, rfl⟩, rfl⟩⟩
theorem pe_lst (h : PA X es t) : PE X (.List es pos) (tLst t) := by
  constructor
  intro pins s σ H Q I hq
  refine wpAny_List_spliced (thn (h pos pins s σ H _ I hq) fun us s1 ⟨xs, H1, I1, r, z, q⟩ => ⟨by rw [← r.length]; exact z, ?_⟩)
  have hf : H1 s1.heap.objs.size = none := I1.hok.fresh (Nat.le_refl _)
  refine ⟨.ref s1.heap.objs.size, upd H1 s1.heap.objs.size (.lst xs), I1.laid (t' := s1.toks) (fun b u e => Heap.get?_push_of_some _ e) (Nat.le_refl _) ?_, rfl, q _ hf⟩
  exact ⟨z, us, 0, r, Heap.get?_push_size _ rfl⟩
end



noncomputable abbrev Sp := List V → Hp → VK → XK → Prop

noncomputable abbrev CXT := List Env → Hp → Shared → XK → Value → Shared → Prop


structure Env0 (P : Program) (w : World) (K : PySem.W.Frag) (mg : Str → Option Value) (base : Heap) (A : Around) (outer : List Env) (s : Shared) (H : Hp) : Prop where
  frames : A.frames = some outer
  mod : Mod K mg base
  bs : ∀ b o, base.get? b = some o → s.heap.get? b = some o ∧ H b = none
  bsz : base.objs.size ≤ s.heap.objs.size
  funs : s.heap.FunFrames base outer
  frf : ∀ b ∈ frs outer, H b = none
  hok : HOk P w H s.heap
  bare : AllBare s.gens

noncomputable def CE (outer : List Env) (P : Program) (w : World) (H : Hp) (s : Shared) (Q : VK) (u : Value) (s' : Shared) : Prop :=
  ∃ v H', s'.os = s.os ∧ AllBare s'.gens ∧ Un (frs outer) [] H H' s.heap s'.heap ∧ HOk P w H' s'.heap ∧ RelV v u ∧ Q v H'
noncomputable def CR (CX : CXT) (outer : List Env) (P : Program) (w : World) (H : Hp) (s : Shared) (Q : VK) (E : XK) (r : Result) (s' : Shared) : Prop :=
  match r with
  | .ok (.ret u) => CE outer P w H s Q u s'
  | .ok _ => False
  | .error e => CX outer H s E e s'
structure FnOk (P : Program) (w : World) (K : PySem.W.Frag) (mg : Str → Option Value) (base : Heap) (CX : CXT) (k : Nat) (f : Addr) (fd : FuncData) (ps : List Str) (sp : Sp) : Prop where
  len : ∀ vs H Q E, sp vs H Q E → vs.length = ps.length
  run : ∀ (A : Around) (outer : List Env) (s : Shared) (H : Hp) (args : Args) (us : List Value) (vs : List V) (Q : VK) (E : XK), Room k A → Env0 P w K mg base A outer s H → BindsTo s fd args (ps.zip us) → Vals vs us → sp vs H Q E →
    codeAny (model P w) A (.call (.ref f) args) (CR CX outer P w H s Q E) s
section
variable {X : Cx} {pins : List (Addr × Obj)} {σ : St} {H : Hp} {s s' : Shared}

theorem Inv.env0 (I : Inv X pins σ H s) : Env0 X.prog X.w X.K X.mg X.base X.A X.stack s H :=
  ⟨I.ok.frames, I.ok.mod, I.bs, Nat.le_trans I.ok.bsz I.sz, I.stack, I.stkFree, I.hok, I.bare⟩

theorem Inv.after {Q : VK} {u : Value} (I : Inv X pins σ H s) (h : CE X.stack X.prog X.w H s Q u s') : EP X pins σ Q u s' := by
  obtain ⟨v, H', os, bare, un, hok, r, q⟩ := h
  obtain ⟨hh, g, d, t, os'⟩ := s'
  obtain rfl : os' = s.os := os
  exact ⟨v, H', I.call (h' := hh) (g' := g) (d' := d) (t' := t) (ch := []) un hok bare (fun b z => absurd z (by simp)), r, q⟩
end



noncomputable def tCall (sp : Sp) (dvs : List V) (E : XK) (t : TA) : TE := fun σ H Q => t σ H fun vs H1 => sp (vs ++ dvs) H1 Q E

noncomputable def Binds (K : PySem.W.Frag) (fd : FuncData) (ps : List Str) (ds : List Value) : Prop :=
  ∀ (s : Shared) (us : List Value), K.In s.heap → (us ++ ds).length = ps.length → BindsTo s fd ⟨us, []⟩ (ps.zip (us ++ ds))

theorem Binds.all {K : PySem.W.Frag} {fd : FuncData} {ps : List Str} (h : ∀ us : List Value, us.length = ps.length → bindArgs fd ⟨us, []⟩ = pure (ps.zip us)) : Binds K fd ps [] := fun s us _ hl => by
  rw [List.append_nil] at hl ⊢
  exact .of_eq (h us hl)


noncomputable def Passes (CX : CXT) (X : Cx) (E : XK) : Prop := ∀ (pins : List (Addr × Obj)) (σ : St) (H : Hp) (s : Shared) (e : Value) (s' : Shared), Inv X pins σ H s → CX X.stack H s E e s' → X.xe e s'

section
variable {X : Cx} {CX : CXT} {k : Nat} {f C : Addr} {fd : FuncData} {ps : List Str} {sp : Sp} {dvs : List V} {ds : List Value} {E : XK} {x m : Str} {p pos apos : Pos} {e o : Expr} {es : List Expr} {ta : TE} {t : TA}


theorem run_fn {pins : List (Addr × Obj)} {σ : St} {H : Hp} {s : Shared} {Q : VK} {us : List Value} {vs : List V} (F : FnOk X.prog X.w X.K X.mg X.base CX k f fd ps sp) (hr : Room k X.A) (hb : Binds X.K fd ps ds) (hd : Vals dvs ds) (hx : Passes CX X E)
    (I : Inv X pins σ H s) (r : Vals vs us) (h : sp (vs ++ dvs) H Q E) : wpAny (model X.prog X.w) X.A (call (.ref f) us) (EP X pins σ Q) X.xe s := by
  have r2 : Vals (vs ++ dvs) (us ++ ds) := r.append hd
  have hl : (us ++ ds).length = ps.length := by rw [← r2.length]; exact F.len _ _ _ _ h
  refine wpAny_call (codeAny_mono (F.run X.A X.stack s H ⟨us, []⟩ (us ++ ds) (vs ++ dvs) Q E hr I.env0 (hb s us I.kIn hl) r2 h) fun r s' hq => ?_)
  cases r with
  | error e => exact hx pins σ H s e s' I hq
  | ok fl =>
    cases fl with
    | ret u => exact I.after hq
    | next => exact False.elim hq
    | brk => exact False.elim hq
    | cont => exact False.elim hq

theorem pe_call (F : FnOk X.prog X.w X.K X.mg X.base CX k f fd ps sp) (hr : Room k X.A) (hg : Gl X x) (hm : X.mg x = some (.ref f)) (hk : PySem.W.keepIn X.K (.ref f) = true) (hb : Binds X.K fd ps ds) (hd : Vals dvs ds) (hx : Passes CX X E)
    (ha : PA X (e :: es) t) (hdb : (x == ("__debug__" : Str)) = false := by decide) (he : starEach (e :: es) X.env = (false, eval e X.env) :: starEach es X.env := by rfl) (hpl : (backTo pos (starEach es X.env)).any (·.1) = false := by rfl) :
    PE X (.Call (.Name x p) (e :: es) [] pos) (tCall sp dvs E t) := by
  constructor
  intro pins s σ H Q I h
  refine wpAny_Call_Name_kw (ld_glob I hg hm ?_ hdb)
  refine PySem.W.callWith_K (h₀ := X.base) I.ok.mod.kin hk (thn (ha pos pins s σ H _ I h) fun us s1 ⟨vs, H1, I1, r, q⟩ => ⟨I1.kIn, ?_⟩) he hpl
  exact run_fn F hr hb hd hx I1 r q
end



structure PK (X : Cx) (kws : List Keyword) (t : TA) : Prop where
  run :
    ∀ (pos : Pos) (pins : List (Addr × Obj)) (s : Shared) (σ : St) (H : Hp) (Q : List V → Hp → Prop), Inv X pins σ H s → t σ H Q → wpAny (model X.prog X.w) X.A (evalAll ((backToKw pos (keywordEach kws X.env)).map (·.2))) (AP X pins σ Q) X.xe s
instance {X : Cx} {kws : List Keyword} {t : TA} : CoeFun (PK X kws t) (fun _ =>
  ∀ (pos : Pos) (pins : List (Addr × Obj)) (s : Shared) (σ : St) (H : Hp) (Q : List V → Hp → Prop), Inv X pins σ H s → t σ H Q → wpAny (model X.prog X.w) X.A (evalAll ((backToKw pos (keywordEach kws X.env)).map (·.2))) (AP X pins σ Q) X.xe s) := ⟨PK.run⟩
section
variable {X : Cx} {CX : CXT} {k : Nat} {f C : Addr} {fd : FuncData} {ps ks : List Str} {sp : Sp} {E : XK} {x m : Str} {p pos apos kpos : Pos} {e o : Expr} {es : List Expr} {kws : List Keyword} {te ta : TE} {t tk : TA} {nm : Option Str}
theorem pk_nil : PK X [] tNil := ⟨fun _ _ _ _ H Q I h => wpAny_evalAll_nil ⟨[], H, I, .nil, h⟩⟩
theorem pk_cons (ha : PE X e te) (hr : PK X kws t) : PK X (⟨nm, e, kpos⟩ :: kws) (tCons te t) := by
  constructor
  intro pos pins s σ H Q I h
  show wpAny _ _ (evalAll ((do let v ← eval e X.env; standAt pos; pure v) :: (backToKw pos (keywordEach kws X.env)).map (·.2))) _ _ s
  refine wpAny_evalAll_cons (wpAny_bind (thn (ha pins s σ H _ I h) fun u s1 ⟨x, H1, I1, r1, q1⟩ => wpAny_bind (wpAny_standAt (wpAny_pure ?_))))
  exact thn (hr pos pins s1 σ H1 _ I1 q1) fun us s2 ⟨xs, H2, I2, r2, q2⟩ => ⟨x :: xs, H2, I2, .cons r1 r2, q2⟩


structure KBinds (K : PySem.W.Frag) (fd : FuncData) (ps ks : List Str) (g : List Value → List Value → List Value) (gV : List V → List V → List V) : Prop where
  to : ∀ (s : Shared) (us ws : List Value), K.In s.heap → (g us ws).length = ps.length → BindsTo s fd ⟨us, ks.zip ws⟩ (ps.zip (g us ws))
  rel : ∀ {vs : List V} {us : List Value} {zs : List V} {ws : List Value}, Vals vs us → Vals zs ws → Vals (gV vs zs) (g us ws)
noncomputable def tCallK (sp : Sp) (gV : List V → List V → List V) (E : XK) (t tk : TA) : TE := fun σ H Q => t σ H fun vs H1 => tk σ H1 fun zs H2 => sp (gV vs zs) H2 Q E
variable {g : List Value → List Value → List Value} {gV : List V → List V → List V}
theorem run_fnk {pins : List (Addr × Obj)} {σ : St} {H : Hp} {s : Shared} {Q : VK} {us ws : List Value} {vs zs : List V} (F : FnOk X.prog X.w X.K X.mg X.base CX k f fd ps sp) (hr : Room k X.A) (hb : KBinds X.K fd ps ks g gV) (hx : Passes CX X E)
    (I : Inv X pins σ H s) (r : Vals vs us) (rz : Vals zs ws) (h : sp (gV vs zs) H Q E) : wpAny (model X.prog X.w) X.A (call (.ref f) us (ks.zip ws)) (EP X pins σ Q) X.xe s := by
  have r2 := hb.rel r rz
  have hl : (g us ws).length = ps.length := by rw [← r2.length]; exact F.len _ _ _ _ h
  refine wpAny_call (codeAny_mono (F.run X.A X.stack s H ⟨us, ks.zip ws⟩ (g us ws) (gV vs zs) Q E hr I.env0 (hb.to s us ws I.kIn hl) r2 h) fun r s' hq => ?_)
  cases r with
  | error e => exact hx pins σ H s e s' I hq
  | ok fl =>
    cases fl with
    | ret u => exact I.after hq
    | next => exact False.elim hq
    | brk => exact False.elim hq
    | cont => exact False.elim hq

theorem pe_callK (F : FnOk X.prog X.w X.K X.mg X.base CX k f fd ps sp) (hr : Room k X.A) (hg : Gl X x) (hm : X.mg x = some (.ref f)) (hk : PySem.W.keepIn X.K (.ref f) = true) (hb : KBinds X.K fd ps ks g gV) (hx : Passes CX X E)
    (ha : PA X (e :: es) t) (hkw : PK X kws tk) (hall : (backToKw pos (keywordEach kws X.env)).all (·.1.isSome) = true := by rfl) (hks : (backToKw pos (keywordEach kws X.env)).filterMap (·.1) = ks := by rfl)
    (hdb : (x == ("__debug__" : Str)) = false := by decide) (he : starEach (e :: es) X.env = (false, eval e X.env) :: starEach es X.env := by rfl)
    (hpl : ((backTo pos (starEach (e :: es) X.env)).any (·.1) || (backToKw pos (keywordEach kws X.env)).any (·.1.isNone)) = false := by rfl) :
    PE X (.Call (.Name x p) (e :: es) kws pos) (tCallK sp gV E t tk) := by
  constructor
  intro pins s σ H Q I h
  refine wpAny_Call_Name_kw (ld_glob I hg hm ?_ hdb)
  refine PySem.W.callWith_KW (h₀ := X.base) I.ok.mod.kin hk hall (thn (ha pos pins s σ H _ I h) fun us s1 ⟨vs, H1, I1, r, q⟩ => ?_) hpl he
  refine thn (hkw pos pins s1 σ H1 _ I1 q) fun ws s2 ⟨zs, H2, I2, rz, q2⟩ => ⟨I2.kIn, ?_⟩
  rw [hks]
  exact run_fnk F hr hb hx I2 r rz q2
end



structure FnScope (N P : List Str) (sc : Scope) : Prop where
  kind : sc.kind = .function
  co : sc.isCoroutine = false
  gen : sc.isGenerator = false
  nd : N.Nodup
  pre : N.take P.length = P
  par : ∀ x ∈ P, sc.names.lookup x = some .local ∨ sc.names.lookup x = some .cell
  nofree : ∀ y ∈ sc.names, y.2 ≠ .free

theorem bindL_out {kindOf : Str → Option NameKind} {x : Str} : ∀ {binds : List (Str × Value)} {m : Str → Option Value}, (∀ v, (x, v) ∉ binds) → bindL kindOf binds m x = m x
  | [], _, _ => rfl
  | (n, v) :: r, m, h => by
    unfold bindL
    rw [bindL_out fun w hw => h w (List.mem_cons_of_mem _ hw)]
    split
    · have : x ≠ n := by rintro rfl; exact h v List.mem_cons_self
      simp [this]
    · rfl
theorem bindC_out {kindOf : Str → Option NameKind} {x : Str} : ∀ {binds : List (Str × Value)} {m : Str → Option Value}, (∀ v, (x, v) ∉ binds) → bindC kindOf binds m x = m x
  | [], _, _ => rfl
  | (n, v) :: r, m, h => by
    unfold bindC
    rw [bindC_out fun w hw => h w (List.mem_cons_of_mem _ hw)]
    split
    · rfl
    · have : x ≠ n := by rintro rfl; exact h v List.mem_cons_self
      simp [this]
theorem bindL_get {kindOf : Str → Option NameKind} {x : Str} {v : Value} : ∀ {P : List Str} {vs : List Value} {i : Nat} {m : Str → Option Value}, P.Nodup → P[i]? = some x → vs[i]? = some v → kindOf x = some .local →
    bindL kindOf (P.zip vs) m x = some v
  | [], _, _, _, _, h, _, _ => by simp at h
  | _ :: _, [], _, _, _, _, h, _ => by simp at h
  | p :: P, w :: vs, 0, m, nd, h1, h2, hk => by
    simp at h1 h2; subst h1; subst h2
    show bindL kindOf ((p, w) :: P.zip vs) m p = _
    unfold bindL
    rw [bindL_out fun v hv => (List.nodup_cons.mp nd).1 (List.of_mem_zip hv).1, if_pos hk]
    simp
  | p :: P, w :: vs, i + 1, m, nd, h1, h2, hk => by
    show bindL kindOf ((p, w) :: P.zip vs) m x = _
    unfold bindL
    exact bindL_get (i := i) (List.nodup_cons.mp nd).2 (by simpa using h1) (by simpa using h2) hk
theorem bindC_get {kindOf : Str → Option NameKind} {x : Str} {v : Value} : ∀ {P : List Str} {vs : List Value} {i : Nat} {m : Str → Option Value}, P.Nodup → P[i]? = some x → vs[i]? = some v → kindOf x ≠ some .local →
    bindC kindOf (P.zip vs) m x = some v
  | [], _, _, _, _, h, _, _ => by simp at h
  | _ :: _, [], _, _, _, _, h, _ => by simp at h
  | p :: P, w :: vs, 0, m, nd, h1, h2, hk => by
    simp at h1 h2; subst h1; subst h2
    show bindC kindOf ((p, w) :: P.zip vs) m p = _
    unfold bindC
    rw [bindC_out fun v hv => (List.nodup_cons.mp nd).1 (List.of_mem_zip hv).1, if_neg hk]
    simp
  | p :: P, w :: vs, i + 1, m, nd, h1, h2, hk => by
    show bindC kindOf ((p, w) :: P.zip vs) m x = _
    unfold bindC
    exact bindC_get (i := i) (List.nodup_cons.mp nd).2 (by simpa using h1) (by simpa using h2) hk


noncomputable def start (N : List Str) (vs : List V) : St := vs.map some ++ List.replicate (N.length - vs.length) none


noncomputable def cxOf (CX : CXT) (P : Program) (w : World) (K : PySem.W.Frag) (mg : Str → Option Value) (base : Heap) (N : List Str) (qual : Str) (scope : Scope) (f : Addr) (cd : Value) (A : Around) (outer : List Env) (s : Shared) (H : Hp) (E : XK) : Cx where
  prog := P
  w := w
  K := K
  mg := mg
  base := base
  A := A.deeper (envOfC qual scope s.heap.objs.size f cd)
  N := N
  s_0 := s
  H_0 := H
  env := envOfC qual scope s.heap.objs.size f cd
  outer := outer
  stack := envOfC qual scope s.heap.objs.size f cd :: outer
  ex := []
  calm := true
  fn := fun _ => true
  pn := []
  xe := fun e s' => wpAny (model P w) (A.deeper (envOfC qual scope s.heap.objs.size f cd)) (leaving (envOfC qual scope s.heap.objs.size f cd) e) (fun _ s'' => CX outer H s E e s'') (fun e' s'' => CX outer H s E e' s'') s'

theorem cell_has {sc : Scope} {n : Nat} {x : Str} (h : sc.names.lookup x = some .cell) : ∃ c, (cellsFrom n sc.names []).lookup x = some c := by
  have q := PySem.W.cellsFrom_some sc.names n [] (.inl h)
  exact Option.isSome_iff_exists.mp q

theorem inv_start {CX : CXT} {P : Program} {w : World} {K : PySem.W.Frag} {mg : Str → Option Value} {base : Heap} {N ps : List Str} {qual : Str} {scope : Scope} {f : Addr} {cd : Value} {A : Around} {outer : List Env} {s s1 : Shared} {H : Hp} {E : XK} {us : List Value} {vs : List V}
    (S : FnScope N ps scope) (hd : A.handled = none) (e0 : Env0 P w K mg base A outer s H) (hl : vs.length = ps.length) (r : Vals vs us)
    (x : InCallC s s.heap.objs.size (bindL (envOfC qual scope s.heap.objs.size f cd).kindOf (ps.zip us) fun _ => none) (cellsFrom (s.heap.objs.size + 1) scope.names []) (bindC (envOfC qual scope s.heap.objs.size f cd).kindOf (ps.zip us) fun _ => none) s1) :
    Inv (cxOf CX P w K mg base N qual scope f cd A outer s H E) [] (start N vs) H s1 := by
  have hpl : ps.length ≤ N.length := by have := congrArg List.length S.pre; rw [List.length_take] at this; omega
  obtain ⟨h1, tk, rfl, hk⟩ := x.done
  have noA : ∀ b : Addr, b ∉ (cxOf CX P w K mg base N qual scope f cd A outer s H E).ex := fun b z => absurd (show b ∈ ([] : List Addr) from z) (by simp)
  refine ⟨⟨e0.mod, S.kind, rfl, rfl, Nat.le_refl _, fun y z c h1 h2 => ?_, fun y hy => ?_, fun y c _ h => ?_, fun _ => hd, Around.frames_deeper e0.frames, .inr ⟨rfl, rfl⟩, fun b z => absurd z (noA b), e0.bs, e0.bsz, fun b _ _ => noA b, fun b z => absurd z (noA b), e0.funs, e0.frf⟩,
    rfl, e0.bare, Un.kept hk, ⟨_, x.toInCall.ns, fun i y v h1 h2 h3 => ?_⟩, fun y c h => ⟨_, x.cell y c h⟩, e0.hok.fresh (Nat.le_refl _), fun y c h => ?_, fun p hp => absurd (show p ∈ ([] : List (Addr × Obj)) from hp) (by simp), e0.hok.kept hk, ?_⟩
  · exact name_of_addr x.apart (PySem.mem_of_lookup h1) (PySem.mem_of_lookup h2)
  · have hy : scope.names.lookup y = some .cell ∨ scope.names.lookup y = some .free := hy
    rcases hy with hy | hy
    · exact cell_has hy
    · exact absurd rfl (S.nofree _ (PySem.mem_of_lookup hy))
  · exact Nat.le_of_lt (x.above y c (PySem.mem_of_lookup h))
  · have hi : i < vs.length := by
      unfold start at h2
      by_cases hi : i < vs.length
      · exact hi
      · rw [List.getElem?_append_right (by simpa using hi)] at h2
        rw [List.getElem?_replicate] at h2
        split at h2 <;> cases h2
    have ha : vs[i]? = some v := by
      unfold start at h2
      rw [List.getElem?_append_left (by simpa using hi), List.getElem?_map] at h2
      cases e : vs[i]? with
      | none => rw [e] at h2; cases h2
      | some a => rw [e] at h2; cases h2; rfl
    obtain ⟨u, hu, rv⟩ := r.get ha
    have hp : ps[i]? = some y := by
      rw [← S.pre, List.getElem?_take_of_lt (by omega)]; exact h1
    have ndP : ps.Nodup := by rw [← S.pre]; exact S.nd.sublist (List.take_sublist _ _)
    refine ⟨u, rv, ?_⟩
    rcases S.par y (List.mem_of_getElem? hp) with k | k
    · exact .inl ⟨k, bindL_get ndP hp hu k⟩
    · obtain ⟨c, e⟩ := cell_has (n := s.heap.objs.size + 1) k
      refine .inr ⟨.inl k, c, e, ?_⟩
      have q := x.cell y c e
      rw [bindC_get ndP hp hu (by show scope.names.lookup y ≠ _; rw [k]; decide)] at q
      exact q
  · exact e0.hok.fresh (Nat.le_of_lt (x.above y c (PySem.mem_of_lookup h)))
  · unfold start
    show _ = N.length
    rw [List.length_append, List.length_map, List.length_replicate]
    omega


theorem fn_of {CX : CXT} {P : Program} {w : World} {K : PySem.W.Frag} {mg : Str → Option Value} {base : Heap} {k : Nat} {f : Addr} {name qual : Str} {params : Arguments} {body : List Stmt} {scope : Scope} {dV kV doc pm cdv ct oc : Value} {an od : Option Addr}
    {osl : Array (Option Value)} {N ps : List Str} {sp : Sp} (lk : K.lookup f = some ⟨oc, od, .func (PySem.W.fnOf name qual params body scope dV kV doc pm an cdv ct), osl⟩) (hcd : PySem.W.codeIn K cdv qual = true) (S : FnScope N ps scope)
    (len : ∀ vs H Q E, sp vs H Q E → vs.length = ps.length)
    (hbody : ∀ (A : Around) (outer : List Env) (s : Shared) (H : Hp) (vs : List V) (Q : VK) (E : XK), Room k (A.deeper (envOfC qual scope s.heap.objs.size f cdv)) → sp vs H Q E →
      ∃ t, PSs (cxOf CX P w K mg base N qual scope f cdv A outer s H E) body t ∧ t { nx := fun _ H' => Q .non H', rt := Q } (start N vs) H) :
    FnOk P w K mg base CX (k + 1) f (PySem.W.fnOf name qual params body scope dV kV doc pm an cdv ct) ps sp := by
  refine ⟨len, fun A outer s H args us vs Q E hr e0 hb r hsp => ?_⟩
  have hl := len _ _ _ _ hsp
  have KX : K.In s.heap := e0.mod.kin.keeps fun b o e => (e0.bs b o e).1
  have lim : s.heap.NoLimit := e0.mod.nolimit.keeps fun b o e => (e0.bs b o e).1
  have hkind : ∀ y ∈ ps.zip us, scope.names.lookup y.1 = some .local ∨ (scope.names.lookup y.1 = some .cell ∧ ((cellsFrom (s.heap.objs.size + 1) scope.names []).lookup y.1).isSome = true) := fun ⟨n, v⟩ hy => by
    rcases S.par n (List.of_mem_zip hy).1 with q | q
    · exact .inl q
    · exact .inr ⟨q, PySem.W.cellsFrom_some _ _ _ (.inl q)⟩
  refine codeAny_call_function hr.depth (KX _ _ lk) rfl S.co S.gen rfl (PySem.W.codeRec_of KX hcd) (hb _ _ _ _ ?_)
  refine wpAny_newFunctionEnv_cells S.kind hkind fun env he s1 x => ?_
  subst he
  refine ⟨lim.keeps x.toInCall.keep, codeAny_func ?_⟩
  obtain ⟨t, ht, hq⟩ := hbody A outer s H vs Q E (hr.deeper _) hsp
  have I : Inv (cxOf CX P w K mg base N qual scope f cdv A outer s H E) [] (start N vs) H s1 := inv_start S hr.hd e0 hl r x
  refine wpAny_mono (ht [] s1 (start N vs) H _ I hq) (fun fl s' hs => ?_) fun e s' hs => hs
  have fin : ∀ {σ' : St} {H' : Hp} {v : V} {u : Value}, Inv (cxOf CX P w K mg base N qual scope f cdv A outer s H E) [] σ' H' s' → RelV v u → Q v H' → CE outer P w H s Q u s' :=
    fun {σ' H' v u} J rv q => ⟨v, H', J.os, J.bare, J.base, J.hok, rv, q⟩
  cases fl with
  | ret u =>
    obtain ⟨v, σ', H', J, rv, q⟩ := hs
    exact fin J rv q
  | next =>
    obtain ⟨σ', H', J, q⟩ := hs
    exact fin (v := V.non) (u := Value.none) J rfl q
  | brk =>
    obtain ⟨_, _, _, q⟩ := hs
    exact False.elim q
  | cont =>
    obtain ⟨_, _, _, q⟩ := hs
    exact False.elim q
end L2

namespace L2
open PySem PySem.Spec PyProof.Rows
section
variable {X : Cx} {x : Str} {p pos : Pos} {e : Expr} {es : List Expr} {t : TA} {id T : String} {r : List V → Hp → VK → Prop}

noncomputable def tCB (r : List V → Hp → VK → Prop) (t : TA) : TE := fun σ H Q => t σ H fun vs H1 => r vs H1 Q

theorem pe_callB (hc : CallR X (.builtin id) r) (hg : Gl X x) (hm : X.mg x = none) (hv : bootBuiltins x = some (.builtin id)) (ha : PA X (e :: es) t) (hn : x ≠ "__name__" := by decide) (hdb : (x == ("__debug__" : Str)) = false := by decide)
    (he : starEach (e :: es) X.env = (false, eval e X.env) :: starEach es X.env := by rfl) (hpl : (backTo pos (starEach es X.env)).any (·.1) = false := by rfl) : PE X (.Call (.Name x p) (e :: es) [] pos) (tCB r t) := by
  constructor
  intro pins s σ H Q I h
  refine wpAny_Call_Name_kw (ld_blt I hg hm hv ?_ hn hdb)
  exact PyProof.Rows.callWith_builtin1 (thn (ha pos pins s σ H _ I h) fun us s1 ⟨vs, H1, I1, r1, q1⟩ => hc pins s1 σ H1 vs us Q I1 r1 q1) he hpl

theorem pe_callTy (hc : CallR X (.type T) r) (hg : Gl X x) (hm : X.mg x = none) (hv : bootBuiltins x = some (.type T)) (ha : PA X (e :: es) t) (hn : x ≠ "__name__" := by decide) (hdb : (x == ("__debug__" : Str)) = false := by decide)
    (he : starEach (e :: es) X.env = (false, eval e X.env) :: starEach es X.env := by rfl) (hpl : (backTo pos (starEach es X.env)).any (·.1) = false := by rfl) : PE X (.Call (.Name x p) (e :: es) [] pos) (tCB r t) := by
  constructor
  intro pins s σ H Q I h
  refine wpAny_Call_Name_kw (ld_blt I hg hm hv ?_ hn hdb)
  exact PyProof.Rows.callWith_type1 (thn (ha pos pins s σ H _ I h) fun us s1 ⟨vs, H1, I1, r1, q1⟩ => hc pins s1 σ H1 vs us Q I1 r1 q1) he hpl

end
end L2

namespace HT
open PySem PyProof.Rows


section
open PySem.SeqAt
open PySem.AutoSeq1 (wpAny_loadPart')
open PySem.MeetsSeq PySem.MeetsSeq2 PySem.MeetsSeq3

end

section
variable {prog : Program} {w : World} {A : Around} {E : Value → Shared → Prop} {s : Shared}

theorem cat_tup {t b : Addr} {vs ws : List Value} {Q : Value → Shared → Prop} (ht : IsTup s.heap t vs.toArray) (hb : IsTup s.heap b ws.toArray) (hv : vs ≠ [])
    (h1 : ws = [] → Q (.ref t) s) (h2 : ws ≠ [] → Q (.ref s.heap.objs.size) { s with heap := s.heap.push { cls := .type "tuple", data := .seq (vs ++ ws).toArray } })
    (hsz : vs.length + ws.length ≤ sizeLine) : wpAny (model prog w) A (binaryOp .Add (.ref t) (.ref b)) Q E s := by
  obtain ⟨⟨cls, dd, data, sl⟩, ho, hc, n, hd⟩ := id ht
  obtain ⟨⟨cls2, dd2, data2, sl2⟩, ho2, hc2, n2, hd2⟩ := id hb
  simp only at hc hd hc2 hd2
  subst hc hd hc2 hd2
  have e : vs.toArray ++ ws.toArray = (vs ++ ws).toArray := by simp
  by_cases hw : ws = []
  · exact concat_meets ⟨_, ho, rfl⟩ ⟨_, ho2, rfl⟩ noFill_tuple_add seq_tuple_add PySem.F.slot_tuple_add PySem.F.entry_tuple_add (PySem.F.args_tuple_add_2 _ _)
      (tuple_addW1 t b vs.toArray ws.toArray n n2 dd dd2 sl sl2 (by simpa using hv) (by simp [hw])) ⟨ho, ho2, h1 hw⟩
  · refine concat_meets ⟨_, ho, rfl⟩ ⟨_, ho2, rfl⟩ noFill_tuple_add seq_tuple_add PySem.F.slot_tuple_add PySem.F.entry_tuple_add (PySem.F.args_tuple_add_2 _ _)
      (tuple_addW2 t b vs.toArray ws.toArray n n2 dd dd2 sl sl2 (by simpa using hv) (by simpa using hw) (by rw [List.size_toArray, List.size_toArray]; exact hsz)) ⟨ho, ho2, ?_⟩
    rw [e]
    exact h2 hw



noncomputable def sIx (n d : Nat) : Option Int → Nat
  | none => d
  | some v => if v < 0 then (v + (n : Int)).toNat else min v.toNat n
theorem sIx_none (n d : Nat) : sIx n d none = d := rfl
theorem sIx_nat (n d k : Nat) : sIx n d (some (k : Int)) = min k n := by
  show (if (k : Int) < 0 then ((k : Int) + (n : Int)).toNat else min (k : Int).toNat n) = min k n
  rw [if_neg (by omega), Int.toNat_natCast]
theorem sIx_le (n d : Nat) (hd : d ≤ n) (o : Option Int) : sIx n d o ≤ n := by
  cases o with
  | none => exact hd
  | some v =>
    show (if v < 0 then (v + (n : Int)).toNat else min v.toNat n) ≤ n
    by_cases hv : v < 0
    · rw [if_pos hv]; omega
    · rw [if_neg hv]; exact Nat.min_le_right _ _
theorem clip_eq (v : Int) (n d : Nat) : (if v < 0 then max (v + (n : Int)) 0 else min v (n : Int)) = ((sIx n d (some v) : Nat) : Int) := by
  show (if v < 0 then max (v + (n : Int)) 0 else min v (n : Int)) = (((if v < 0 then (v + (n : Int)).toNat else min v.toNat n) : Nat) : Int)
  by_cases hv : v < 0
  · simp only [if_pos hv]; omega
  · simp only [if_neg hv]; omega
theorem adjust_gen (lo hi : Option Int) (n : Nat) : Builtin.Slice.sliceAdjust lo hi 1 (n : Int) = (((sIx n 0 lo : Nat) : Int), ((sIx n n hi : Nat) : Int)) := by
  have h1 : ¬ ((1 : Int) < 0) := by omega
  unfold Builtin.Slice.sliceAdjust
  simp only [h1, if_false]
  refine Prod.ext ?_ ?_
  · cases lo with
    | none => rfl
    | some v => exact clip_eq v n 0
  · cases hi with
    | none => rfl
    | some v => exact clip_eq v n n
theorem places_gen (i j : Nat) : Builtin.Slice.slicePlaces (i : Int) (j : Int) 1 = j - i := by
  unfold Builtin.Slice.slicePlaces
  have h1 : (1 : Int) > 0 := by omega
  simp only [h1, if_true, Int.ediv_one]
  split <;> omega
theorem slicePart_ {v : Value} {o : Option Int} {Q : Option Int → Shared → Prop} (p : IsPart v o) (h : Q o s) : wpAny (model prog w) A (Builtin.Slice.slicePartIndex v) Q E s := by
  cases p with
  | none => exact slicePart_none h
  | int i t => exact slicePart_int h
theorem sliceApplied_gen {sl : Addr} {vl vu : Value} {lo hi : Option Int} {n : Nat} {Q : Int × Int × Nat → Shared → Prop} (hs : s.heap.IsSliceOf sl vl vu .none) (pl : IsPart vl lo) (pu : IsPart vu hi)
    (h : Q (((sIx n 0 lo : Nat) : Int), 1, sIx n n hi - sIx n 0 lo) s) : wpAny (model prog w) A (Builtin.Slice.sliceApplied (.ref sl) (pure (n : Int))) Q E s := by
  obtain ⟨os, hos, hcs, hds⟩ := id hs
  unfold Builtin.Slice.sliceApplied Builtin.Slice.sliceFields
  refine wpAny_bind (wpAny_bind (wpAny_field hos hds (x := vl) rfl (wpAny_bind (wpAny_field hos hds (x := vu) rfl (wpAny_bind (wpAny_field hos hds (x := .none) rfl (wpAny_pure ?_)))))))
  refine wpAny_bind (slicePart_none ?_)
  show wpAny _ _ (if ((1 : Int) == 0) = true then _ else _) _ _ s
  rw [if_neg (by decide)]
  refine wpAny_bind (slicePart_ pl (wpAny_bind (slicePart_ pu (wpAny_bind (wpAny_pure ?_)))))
  show wpAny _ _ (match Builtin.Slice.sliceAdjust lo hi 1 (n : Int) with | (lo, hi) => pure (lo, (1 : Int), Builtin.Slice.slicePlaces lo hi 1)) _ _ s
  rw [adjust_gen lo hi n]
  show wpAny _ _ (pure (((sIx n 0 lo : Nat) : Int), (1 : Int), Builtin.Slice.slicePlaces ((sIx n 0 lo : Nat) : Int) ((sIx n n hi : Nat) : Int) 1)) _ _ s
  rw [places_gen]
  exact wpAny_pure h
theorem pick_gen (xs : Array Value) (i k : Nat) : ((List.range k).filterMap fun (m : Nat) => xs[((i : Int) + (m : Int) * 1).toNat]?).toArray = ((xs.toList.drop i).take k).toArray := by
  have e : (fun (m : Nat) => xs[((i : Int) + (m : Int) * 1).toNat]?) = fun m => xs[i + m]? := by
    funext m
    have : ((i : Int) + (m : Int) * 1).toNat = i + m := by omega
    rw [this]
  rw [e]
  have := pick_run xs i k
  rw [List.filterMap_map] at this
  have e2 : ((fun x => xs[x]?) ∘ fun x => i + x) = fun m => xs[i + m]? := rfl
  rw [e2] at this
  rw [this]

theorem getItem_tuple_cut {t sl : Addr} {items : Array Value} {vl vu : Value} {lo hi : Option Int} {Q : Value → Shared → Prop} (ht : IsTup s.heap t items) (hs : s.heap.IsSliceOf sl vl vu .none) (pl : IsPart vl lo) (pu : IsPart vu hi)
    (hw : ¬ (sIx items.size 0 lo = 0 ∧ sIx items.size items.size hi = items.size))
    (h : Q (.ref s.heap.objs.size) { s with heap := s.heap.push { cls := .type "tuple", data := .seq ((items.toList.drop (sIx items.size 0 lo)).take (sIx items.size items.size hi - sIx items.size 0 lo)).toArray } })
    (hsz : items.size ≤ sizeLine) : wpAny (model prog w) A (getItem (.ref t) (.ref sl)) Q E s := by
  have htake : sizeOk (.seq ((items.toList.drop (sIx items.size 0 lo)).take (sIx items.size items.size hi - sIx items.size 0 lo)).toArray) := by
    show ((items.toList.drop (sIx items.size 0 lo)).take (sIx items.size items.size hi - sIx items.size 0 lo)).toArray.size ≤ sizeLine
    rw [List.size_toArray, List.length_take, List.length_drop, Array.length_toList]
    omega
  have hj : sIx items.size items.size hi ≤ items.size := sIx_le _ _ (Nat.le_refl _) hi
  obtain ⟨os, hos, hcs, hds⟩ := id hs
  have hTs : s.TypeIs (.ref sl) "slice" := ⟨os, hos, hcs⟩
  unfold getItem
  try with_reducible refine wpAny_holding ?_
  first | refine wpAny_bind (wpAny_pure ?_) | skip
  refine wpAny_bind (wpAny_sequenceKey ht.typeIs (by decide) ?_)
  refine wpAny_bind (wpAny_callSpecial?_slot (name := Str.ofString "__getitem__") ht.typeIs PyProof.Rows.slot_tuple_getitem
    (wpAny_call_entry PyProof.Rows.slot_tuple_getitem ht.typeIs entry_tuple_getitem ?_ (args_tuple_getitem _ _)))
  show wpAny _ _ (Builtin.Tuple.tupleItemsOf (.ref t) >>= _) _ _ s
  refine wpAny_bind (tupleItemsOf_ ht ?_)
  refine wpAny_bind (wpAny_typeOf hTs ?_)
  rw [if_pos (by decide)]
  refine wpAny_bind (sliceApplied_gen hs pl pu ?_)
  have hno : ¬ ((((sIx items.size 0 lo : Nat) : Int) == 0 && (1 : Int) == 1 && (sIx items.size items.size hi - sIx items.size 0 lo) == items.size) = true) := by
    intro q
    rw [Bool.and_eq_true, Bool.and_eq_true] at q
    have q1 : ((sIx items.size 0 lo : Nat) : Int) = 0 := eq_of_beq q.1.1
    have q2 : sIx items.size items.size hi - sIx items.size 0 lo = items.size := eq_of_beq q.2
    exact hw ⟨by omega, by omega⟩
  show wpAny _ _ (if (((sIx items.size 0 lo : Nat) : Int) == 0 && (1 : Int) == 1 && (sIx items.size items.size hi - sIx items.size 0 lo) == items.size) = true then _ else _) _ _ s
  rw [if_neg hno, pick_gen]
  first
    | exact wpAny_bind (m := Builtin.Tuple.tupleExact _) (wpAny_newObj_type (wpAny_pure ⟨_, rfl, wpAny_pure h⟩) htake)
    | exact wpAny_bind (m := Builtin.Tuple.tupleExact _) (wpAny_newObj_type (wpAny_bind (wpAny_pure (wpAny_pure ⟨_, rfl, wpAny_pure h⟩))) htake)
    | exact wpAny_bind (wpAny_bind (m := Builtin.Tuple.tupleExact _) (wpAny_newObj_type (wpAny_pure (wpAny_pure ⟨_, rfl, wpAny_pure h⟩)) htake))
    | exact wpAny_bind (wpAny_bind (m := Builtin.Tuple.tupleExact _) (wpAny_newObj_type (wpAny_pure ⟨_, rfl, wpAny_pure h⟩) htake))
end
end HT

namespace L2
open PySem PySem.Spec PyProof.Rows


noncomputable abbrev TO := St → Hp → (Option Int → Hp → Prop) → Prop

structure PO (X : Cx) (e : Option Expr) (t : TO) : Prop where
  run :
    ∀ (pins : List (Addr × Obj)) (s : Shared) (σ : St) (H : Hp) (Q : Option Int → Hp → Prop), Inv X pins σ H s → t σ H Q →
      wpAny (model X.prog X.w) X.A (evalPart e X.env) (fun u s' => ∃ o H', Inv X pins σ H' s' ∧ IsPart u o ∧ Q o H') X.xe s
instance {X : Cx} {e : Option Expr} {t : TO} : CoeFun (PO X e t) (fun _ =>
  ∀ (pins : List (Addr × Obj)) (s : Shared) (σ : St) (H : Hp) (Q : Option Int → Hp → Prop), Inv X pins σ H s → t σ H Q →
    wpAny (model X.prog X.w) X.A (evalPart e X.env) (fun u s' => ∃ o H', Inv X pins σ H' s' ∧ IsPart u o ∧ Q o H') X.xe s) := ⟨PO.run⟩
noncomputable def tNoPart : TO := fun _ H Q => Q none H
noncomputable def tPart (t : TE) : TO := fun σ H Q => t σ H fun x H1 => ∃ i, x = .int i ∧ Q (some i) H1

section
variable {X : Cx} {e : Expr} {te : TE} {lo hi : Option Expr} {tl th : TO} {pos p2 : Pos}

theorem po_none : PO X none tNoPart := by
  constructor
  intro pins s σ H Q I h
  rw [evalPart_none]
  exact wpAny_pure ⟨none, H, I, .none, h⟩
theorem po_some (h : PE X e te) : PO X (some e) (tPart te) := by
  constructor
  intro pins s σ H Q I hw
  rw [evalPart_some]
  refine thn (h pins s σ H _ I hw) fun u s1 ⟨x, H1, I1, r1, q1⟩ => ?_
  obtain ⟨i, rfl, q⟩ := q1
  obtain ⟨t, rfl⟩ := r1
  exact ⟨some i, H1, I1, .int i t, q⟩


structure SlR (X : Cx) (r : V → Option Int → Option Int → Hp → VK → Prop) : Prop where
  run :
    ∀ (pins : List (Addr × Obj)) (s : Shared) (σ : St) (H : Hp) (x : V) (v vl vu : Value) (lo hi : Option Int) (sl : Addr) (Q : VK), Inv X pins σ H s → RelV x v → s.heap.IsSliceOf sl vl vu .none → IsPart vl lo → IsPart vu hi → r x lo hi H Q →
      ∃ T id, typeLookup (.type T) "__getitem__" = pure (some (.builtin id)) ∧ s.TypeIs v T ∧ wpAny (model X.prog X.w) X.A (getItem v (.ref sl)) (EP X pins σ Q) X.xe s
instance {X : Cx} {r : V → Option Int → Option Int → Hp → VK → Prop} : CoeFun (SlR X r) (fun _ =>
  ∀ (pins : List (Addr × Obj)) (s : Shared) (σ : St) (H : Hp) (x : V) (v vl vu : Value) (lo hi : Option Int) (sl : Addr) (Q : VK), Inv X pins σ H s → RelV x v → s.heap.IsSliceOf sl vl vu .none → IsPart vl lo → IsPart vu hi → r x lo hi H Q →
    ∃ T id, typeLookup (.type T) "__getitem__" = pure (some (.builtin id)) ∧ s.TypeIs v T ∧ wpAny (model X.prog X.w) X.A (getItem v (.ref sl)) (EP X pins σ Q) X.xe s) := ⟨SlR.run⟩
noncomputable def tSl (r : V → Option Int → Option Int → Hp → VK → Prop) (te : TE) (tl th : TO) : TE := fun σ H Q => te σ H fun x H1 => tl σ H1 fun l H2 => th σ H2 fun u H3 => r x l u H3 Q

theorem pe_slice {r : V → Option Int → Option Int → Hp → VK → Prop} (hr : SlR X r) (he : PE X e te) (hl : PO X lo tl) (hu : PO X hi th) : PE X (.Subscript e (.Slice lo hi none p2) pos) (tSl r te tl th) := by
  constructor
  intro pins s σ H Q I h
  refine Subscript_ (thn (he pins s σ H _ I h) fun v s1 ⟨x, H1, I1, r1, q1⟩ => ?_)
  refine wpAny_Slice (thn (hl pins s1 σ H1 _ I1 q1) fun vl s2 ⟨l, H2, I2, pl, q2⟩ => thn (hu pins s2 σ H2 _ I2 q2) fun vu s3 ⟨u, H3, I3, pu, q3⟩ => ?_)
  rw [evalPart_none]
  refine wpAny_pure ?_
  have I4 : Inv X pins σ H3 { s3 with heap := s3.heap.push { cls := .type "slice", data := .fields #[vl, vu, .none] } } := I3.kept (t' := s3.toks) fun b ob q => Heap.get?_push_of_some _ q
  obtain ⟨T, id, hT, ht, hg⟩ := hr pins { s3 with heap := s3.heap.push { cls := .type "slice", data := .fields #[vl, vu, .none] } } σ H3 x v vl vu l u s3.heap.objs.size Q I4 r1 (Heap.IsSliceOf.new ..) pl pu q3
  show wpAny (model X.prog X.w) X.A (subscriptTail e (.Slice lo hi none p2) v (.ref s3.heap.objs.size)) (EP X pins σ Q) X.xe { s3 with heap := s3.heap.push { cls := .type "slice", data := .fields #[vl, vu, .none] } }
  exact tail_any (ops := [.ref s3.heap.objs.size, v]) ht hT hg (by with_unfolding_all rfl)


noncomputable def cutV (xs : List V) (lo hi : Option Int) : List V := (xs.drop (HT.sIx xs.length 0 lo)).take (HT.sIx xs.length xs.length hi - HT.sIx xs.length 0 lo)
theorem cutV_length (xs : List V) (lo hi : Option Int) : (cutV xs lo hi).length ≤ xs.length := by
  unfold cutV
  rw [List.length_take, List.length_drop]
  omega

noncomputable def rSlT (K : PySem.W.Frag) : V → Option Int → Option Int → Hp → VK → Prop := fun x lo hi H Q => ∃ a xs, x = .ref a ∧ SqT K H a xs ∧
  ¬ (HT.sIx xs.length 0 lo = 0 ∧ HT.sIx xs.length xs.length hi = xs.length) ∧ ∀ p, H p = none → Q (.ref p) (upd H p (.tup (cutV xs lo hi)))
theorem sl_tup : SlR X (rSlT X.K) := by
  constructor
  intro pins s σ H x v vl vu lo hi sl Q I rx hs pl pu h
  obtain ⟨a, xs, rfl, hx, hw, q⟩ := h
  cases rx
  obtain ⟨its, r, ht, hz⟩ := I.tuple hx
  have hlen : its.toArray.size = xs.length := by rw [List.size_toArray]; exact r.length.symm
  refine ⟨"tuple", _, PyProof.Rows.slot_tuple_getitem.lookup, ht.typeIs, ?_⟩
  refine HT.getItem_tuple_cut ht hs pl pu (by rw [hlen]; exact hw) ?_ (by rw [hlen]; exact hz)
  rw [hlen]
  refine ⟨.ref s.heap.objs.size, _, I.laid (t' := s.toks) (o := .tup (cutV xs lo hi)) (fun b ob q => Heap.get?_push_of_some _ q) (Nat.le_refl _) ?_, rfl, q _ (I.hok.fresh (Nat.le_refl _))⟩
  exact ⟨Nat.le_trans (cutV_length xs lo hi) hz, _, (r.drop (HT.sIx xs.length 0 lo)).take (HT.sIx xs.length xs.length hi - HT.sIx xs.length 0 lo), TupN.new _ _⟩


noncomputable def rCatT (K : PySem.W.Frag) : R2 := fun x y H Q => ∃ a b xs ys, x = .ref a ∧ y = .ref b ∧ SqT K H a xs ∧ SqT K H b ys ∧ xs ≠ [] ∧ xs.length + ys.length ≤ sizeLine ∧
  (ys = [] → Q (.ref a) H) ∧ (ys ≠ [] → ∀ p, H p = none → Q (.ref p) (upd H p (.tup (xs ++ ys))))
theorem Vals.nil_iff {xs : List V} {us : List Value} (r : Vals xs us) : us = [] ↔ xs = [] := by
  cases r with
  | nil => simp
  | cons _ _ => simp
theorem op_catT : OpR X (binaryOp .Add) (rCatT X.K) := by
  constructor
  intro pins s σ H x y v u Q I rx ry h
  obtain ⟨a, b, xs, ys, rfl, rfl, ha, hb, hx, hz, q1, q2⟩ := h
  cases rx
  cases ry
  obtain ⟨its, r1, p1, _⟩ := I.tuple ha
  obtain ⟨its2, r2, p2, _⟩ := I.tuple hb
  refine HT.cat_tup p1 p2 (fun z => hx (r1.nil_iff.mp z)) (fun z => ⟨.ref a, H, I, rfl, q1 (r2.nil_iff.mp z)⟩) (fun z => ?_) (by rw [← r1.length, ← r2.length]; exact hz)
  refine ⟨.ref s.heap.objs.size, _, I.laid (t' := s.toks) (o := .tup (xs ++ ys)) (fun b ob q => Heap.get?_push_of_some _ q) (Nat.le_refl _) ?_, rfl, q2 (fun w => z (r2.nil_iff.mpr w)) _ (I.hok.fresh (Nat.le_refl _))⟩
  exact ⟨by rw [List.length_append]; exact hz, _, r1.append r2, TupN.new _ _⟩

end
end L2

namespace L2
open PySem PySem.Spec PyProof.Rows



noncomputable def ixN (n : Nat) (i : Int) : Option Nat := if 0 ≤ i then (if i < n then some i.toNat else none) else if -(n : Int) ≤ i then some (i + n).toNat else none
noncomputable def atI {α : Type} (xs : List α) (i : Int) : Option α := (ixN xs.length i).bind fun j => xs[j]?
theorem ixN_seq {n : Nat} {i : Int} {j : Nat} (h : ixN n i = some j) : seqIndex? i n = some j ∧ j < n ∧ -(n : Int) ≤ i ∧ i < n := by
  unfold ixN at h
  by_cases h0 : 0 ≤ i
  · rw [if_pos h0] at h
    by_cases h1 : i < n
    · rw [if_pos h1] at h
      have e : i.toNat = j := Option.some.inj h
      exact ⟨by rw [seqIndex_of h0 h1, e], by omega, by omega, h1⟩
    · rw [if_neg h1] at h; cases h
  · rw [if_neg h0] at h
    by_cases h1 : -(n : Int) ≤ i
    · rw [if_pos h1] at h
      have e : (i + n).toNat = j := Option.some.inj h
      exact ⟨by rw [seqIndex_neg (by omega) h1, e], by omega, h1, by omega⟩
    · rw [if_neg h1] at h; cases h
theorem atI_get {α : Type} {xs : List α} {i : Int} {v : α} (h : atI xs i = some v) : ∃ j, seqIndex? i xs.length = some j ∧ xs[j]? = some v ∧ j < xs.length ∧ -(xs.length : Int) ≤ i ∧ i < xs.length := by
  unfold atI at h
  cases e : ixN xs.length i with
  | none => rw [e] at h; cases h
  | some j =>
    rw [e] at h
    obtain ⟨h1, h2, h3, h4⟩ := ixN_seq e
    exact ⟨j, h1, h, h2, h3, h4⟩
theorem atI_nat {α : Type} {xs : List α} {j : Nat} {v : α} (h : xs[j]? = some v) : atI xs (j : Int) = some v := by
  have hj : j < xs.length := (List.getElem?_eq_some_iff.mp h).1
  have e : ixN xs.length (j : Int) = some j := by
    unfold ixN
    rw [if_pos (by omega), if_pos (by omega)]; simp
  unfold atI; rw [e]; exact h
noncomputable def PlainIx (b : Expr) : Prop := ∀ o i, subscripted b false o i = operate [o, i] (getItem o i)

structure IxR (X : Cx) (r : R2) : Prop where
  run :
    ∀ (value slice : Expr) (pins : List (Addr × Obj)) (s : Shared) (σ : St) (H : Hp) (x y : V) (v u : Value) (Q : VK), Inv X pins σ H s → RelV x v → RelV y u → r x y H Q →
      subscripted slice false v u = operate [v, u] (getItem v u) → wpAny (model X.prog X.w) X.A (subscriptTail value slice v u) (EP X pins σ Q) X.xe s
instance {X : Cx} {r : R2} : CoeFun (IxR X r) (fun _ =>
  ∀ (value slice : Expr) (pins : List (Addr × Obj)) (s : Shared) (σ : St) (H : Hp) (x y : V) (v u : Value) (Q : VK), Inv X pins σ H s → RelV x v → RelV y u → r x y H Q →
    subscripted slice false v u = operate [v, u] (getItem v u) → wpAny (model X.prog X.w) X.A (subscriptTail value slice v u) (EP X pins σ Q) X.xe s) := ⟨IxR.run⟩

structure MtR (X : Cx) (id : String) (r : V → List V → Hp → VK → Prop) : Prop where
  run :
    ∀ (pins : List (Addr × Obj)) (s : Shared) (σ : St) (H : Hp) (x : V) (xs : List V) (v : Value) (us : List Value) (Q : VK), Inv X pins σ H s → RelV x v → Vals xs us → r x xs H Q →
      wpAny (model X.prog X.w) X.A (call (.builtin id) (v :: us)) (EP X pins σ Q) X.xe s
instance {X : Cx} {id : String} {r : V → List V → Hp → VK → Prop} : CoeFun (MtR X id r) (fun _ =>
  ∀ (pins : List (Addr × Obj)) (s : Shared) (σ : St) (H : Hp) (x : V) (xs : List V) (v : Value) (us : List Value) (Q : VK), Inv X pins σ H s → RelV x v → Vals xs us → r x xs H Q →
    wpAny (model X.prog X.w) X.A (call (.builtin id) (v :: us)) (EP X pins σ Q) X.xe s) := ⟨MtR.run⟩
section
variable {X : Cx} {a b : Expr} {ta tb : TE} {pos : Pos}
theorem pe_ix {r : R2} (hr : IxR X r) (ha : PE X a ta) (hb : PE X b tb) (hs : PlainIx b) : PE X (.Subscript a b pos) (tOp r ta tb) := by
  constructor
  intro pins s σ H Q I h
  exact Subscript_ (binT ha hb I h fun v u s2 x y H2 I2 rx ry q => hr a b pins s2 σ H2 x y v u Q I2 rx ry q (hs _ _))

noncomputable def rIxL (K : PySem.W.Frag) : R2 := fun x y H Q => ∃ p xs i v, x = .ref p ∧ y = .int i ∧ SqL K H p xs ∧ atI xs i = some v ∧ Q v H
noncomputable def rIxT (K : PySem.W.Frag) : R2 := fun x y H Q => ∃ p xs i v, x = .ref p ∧ y = .int i ∧ SqT K H p xs ∧ atI xs i = some v ∧ Q v H
noncomputable def rIxS : R2 := fun x y H Q => ∃ z i c, x = .str z ∧ y = .int i ∧ z.length ≤ sizeLine ∧ atI z.cps.toList i = some c ∧ Q (.str ⟨#[c]⟩) H
theorem ix_list : IxR X (rIxL X.K) := by
  constructor
  intro value slice pins s σ H x y v u Q I rx ry h hs
  obtain ⟨p, xs, i, z, rfl, rfl, hq, he, q⟩ := h
  cases rx
  obtain ⟨t, rfl⟩ := ry
  obtain ⟨its, r, pl, hz⟩ := I.list hq
  obtain ⟨j, h1, h2, h3, h4, h5⟩ := atI_get he
  obtain ⟨w, ew, rw'⟩ := r.get h2
  have hl := r.length
  have hn := line63
  have fin : EP X pins σ Q w s := ⟨z, H, I, rw', q⟩
  by_cases h0 : 0 ≤ i
  · have hj : i.toNat = j := by
      rw [seqIndex_of h0 h5] at h1
      exact Option.some.inj h1
    exact item_listR pl.isList h0 (by omega) (by rw [hj]; simpa using ew) fin hs
  · have hj : (i + (its.toArray.size : Int)).toNat = j := by
      rw [seqIndex_neg (by omega) h4] at h1
      rw [List.size_toArray, ← hl]
      exact Option.some.inj h1
    exact subscriptTail_builtinR (x := w) pl.isList.typeIs slot_list_getitem.lookup
      (wpAny_getItem_list_neg (Q := fun r s' => r = w ∧ EP X pins σ Q r s') pl.isList (by omega) (by rw [List.size_toArray] <;> omega) (by omega) (by rw [hj]; simpa using ew) ⟨rfl, fin⟩) hs
theorem ix_tup : IxR X (rIxT X.K) := by
  constructor
  intro value slice pins s σ H x y v u Q I rx ry h hs
  obtain ⟨p, xs, i, z, rfl, rfl, hq, he, q⟩ := h
  cases rx
  obtain ⟨t, rfl⟩ := ry
  obtain ⟨its, r, pl, hz⟩ := I.tuple hq
  obtain ⟨j, h1, h2, h3, h4, h5⟩ := atI_get he
  obtain ⟨w, ew, rw'⟩ := r.get h2
  have hl := r.length
  have hn := line63
  have fin : EP X pins σ Q w s := ⟨z, H, I, rw', q⟩
  exact subscriptTail_builtinR (x := w) pl.typeIs slot_tuple_getitem.lookup
    (getItem_tuple (j := j) (Q := fun r s' => r = w ∧ EP X pins σ Q r s') pl (by omega) (by omega) (by rw [List.size_toArray, ← hl]; exact h1) (by simpa using ew) ⟨rfl, fin⟩) hs
theorem ix_str : IxR X rIxS := by
  constructor
  intro value slice pins s σ H x y v u Q I rx ry h hs
  obtain ⟨z, i, c, rfl, rfl, hz, he, q⟩ := h
  obtain ⟨t, rfl⟩ := rx
  obtain ⟨t', rfl⟩ := ry
  obtain ⟨j, h1, h2, h3, h4, h5⟩ := atI_get he
  have hl : z.cps.toList.length = z.length := by simp [Str.length]
  rw [hl] at h1 h4 h5
  have hn := line63
  exact tail_any (typeIs_str s z t) slot_str_getitem.lookup (getItem_str (c := c) (by
    have e1 : decide (i < -(2 ^ 63 : Int)) = false := decide_eq_false (by omega)
    have e2 : decide (i ≥ 2 ^ 63) = false := decide_eq_false (by omega)
    rw [e1, e2, Bool.or_false]) (by rw [h1]; simpa using h2) ⟨.str ⟨#[c]⟩, H, I.tok _, ⟨_, rfl⟩, q⟩) hs

theorem mapSeq_set (its : List Value) (n j : Nat) (u : Value) : Obj.mapSeq (·.setIfInBounds j u) { cls := .type "list", data := .seq its.toArray n } = { cls := .type "list", data := .seq (its.set j u).toArray n } := by
  simp [Obj.mapSeq]
theorem Inv.lst {pins : List (Addr × Obj)} {σ : St} {H : Hp} {s : Shared} {p : Addr} {xs : List V} (I : Inv X pins σ H s) (h : H p = some (.lst xs)) :
    ∃ (its : List Value) (n : Nat), Vals xs its ∧ s.heap.get? p = some { cls := .type "list", data := .seq its.toArray n } ∧ xs.length ≤ sizeLine := by
  obtain ⟨z, its, n, r, e⟩ := I.hok p _ h
  exact ⟨its, n, r, e, z⟩

theorem Inv.lstUpd {pins : List (Addr × Obj)} {σ : St} {H : Hp} {s : Shared} {p : Addr} {xs ys : List V} {its its' : List Value} {n n' : Nat} {f : Obj → Obj} (I : Inv X pins σ H s) (h : H p = some (.lst xs))
    (ho : s.heap.get? p = some { cls := .type "list", data := .seq its.toArray n }) (hf : f { cls := .type "list", data := .seq its.toArray n } = { cls := .type "list", data := .seq its'.toArray n' }) (r : Vals ys its') (hz : ys.length ≤ sizeLine) (t : Nat) :
    Inv X pins σ (upd H p (.lst ys)) { s with heap := s.heap.update p f, toks := t } := by
  have e : (s.heap.update p f).get? p = some { cls := .type "list", data := .seq its'.toArray n' } := by
    rw [Heap.get?_update_self f ho (by rw [hf] <;> rfl), hf]
  refine I.write (x := p) (e := p) (by rw [h]; trivial) (.inl rfl) (fun b u hb q => (Heap.get?_update_other _ _ (Ne.symm hb)).trans q) ⟨_, e⟩ ?_
  exact ⟨hz, its', n', r, e⟩
noncomputable def rSetL : V → V → V → Hp → (Hp → Prop) → Prop := fun o i v H Q => ∃ p xs k j, o = .ref p ∧ i = .int k ∧ H p = some (.lst xs) ∧ ixN xs.length k = some j ∧ Q (upd H p (.lst (xs.set j v)))
theorem set_list : PSet X rSetL := by
  constructor
  intro pins s σ H o i v ov iv u Q I ro ri rv h
  obtain ⟨p, xs, k, j, rfl, rfl, hp, hj, q⟩ := h
  cases ro
  obtain ⟨t, rfl⟩ := ri
  obtain ⟨its, n, r, ho, hz⟩ := I.lst hp
  obtain ⟨h1, h2, h3, h4⟩ := ixN_seq hj
  have hl := r.length
  have hn := line63
  have I' : Inv X pins σ (upd H p (.lst (xs.set j v))) { s with heap := s.heap.update p (Obj.mapSeq (·.setIfInBounds j u)) } :=
    I.lstUpd hp ho (mapSeq_set its n j u) (r.set rv j) (by rw [List.length_set]; exact hz) s.toks
  by_cases h0 : 0 ≤ k
  · have hk : k.toNat = j := by
      rw [seqIndex_of h0 h4] at h1
      exact Option.some.inj h1
    exact PySem.W.ki_setAt ho h0 (by omega) (by rw [List.size_toArray, ← hl]; exact h4) (by rw [hk]; exact ⟨_, I', q⟩)
  · have hk : (k + (its.toArray.size : Int)).toNat = j := by
      rw [seqIndex_neg (by omega) h3] at h1
      rw [List.size_toArray, ← hl]
      exact Option.some.inj h1
    exact PySem.W.ki_setBack ho (by omega) (by rw [List.size_toArray, ← hl]; exact h3) (by omega) (by rw [hk]; exact ⟨_, I', q⟩)


noncomputable def flatV : V → Bool
  | .non => true
  | .bl _ => true
  | .int _ => true
  | .str _ => true
  | _ => false

noncomputable def eqV : V → V → Bool
  | .non, .non => true
  | .bl a, .bl b => a == b
  | .bl a, .int b => (if a then 1 else 0) == b
  | .int a, .bl b => a == (if b then 1 else 0)
  | .int a, .int b => a == b
  | .str a, .str b => a == b
  | _, _ => false
theorem eqAt_V {A : Around} {s : Shared} {y x : V} {u v : Value} (ry : RelV y u) (rx : RelV x v) (fy : flatV y = true) (fx : flatV x = true) : SeqAt.EqAt A s u v (eqV y x) := by
  cases y with
  | non =>
    cases ry
    cases x with
    | non => cases rx; exact SeqAt.EqAt.same _
    | bl b => cases rx; exact SeqAt.EqAt.none_bool b
    | int b => obtain ⟨t, rfl⟩ := rx; exact SeqAt.EqAt.none_int b t
    | str b => obtain ⟨t, rfl⟩ := rx; exact SeqAt.EqAt.none_str b t
    | _ => exact absurd (show false = true from fx) Bool.false_ne_true
  | bl a =>
    cases ry
    cases x with
    | non => cases rx; exact SeqAt.EqAt.bool_none a
    | bl b => cases rx; exact SeqAt.EqAt.bool_bool a b
    | int b => obtain ⟨t, rfl⟩ := rx; exact SeqAt.EqAt.bool_int a b t
    | str b => obtain ⟨t, rfl⟩ := rx; exact SeqAt.EqAt.bool_str a b t
    | _ => exact absurd (show false = true from fx) Bool.false_ne_true
  | int a =>
    obtain ⟨t', rfl⟩ := ry
    cases x with
    | non => cases rx; exact SeqAt.EqAt.int_none a t'
    | bl b => cases rx; exact SeqAt.EqAt.int_bool a t' b
    | int b => obtain ⟨t, rfl⟩ := rx; exact SeqAt.EqAt.int_int a t' b t
    | str b => obtain ⟨t, rfl⟩ := rx; exact SeqAt.EqAt.int_str a t' b t
    | _ => exact absurd (show false = true from fx) Bool.false_ne_true
  | str a =>
    obtain ⟨t', rfl⟩ := ry
    cases x with
    | non => cases rx; exact SeqAt.EqAt.str_none a t'
    | bl b => cases rx; exact SeqAt.EqAt.str_bool a t' b
    | int b => obtain ⟨t, rfl⟩ := rx; exact SeqAt.EqAt.str_int a t' b t
    | str b => obtain ⟨t, rfl⟩ := rx; exact SeqAt.EqAt.str_str a t' b t
    | _ => exact absurd (show false = true from fx) Bool.false_ne_true
  | _ => exact absurd (show false = true from fy) Bool.false_ne_true

noncomputable def eqU (x : V) (u : Value) : Bool := match u with
  | .none => eqV .non x
  | .bool b => eqV (.bl b) x
  | .int i _ => eqV (.int i) x
  | .str z _ => eqV (.str z) x
  | _ => false
theorem eqU_of {x y : V} {u : Value} (r : RelV y u) (f : flatV y = true) : eqU x u = eqV y x := by
  cases y with
  | non => cases r; rfl
  | bl b => cases r; rfl
  | int i => obtain ⟨t, rfl⟩ := r; rfl
  | str z => obtain ⟨t, rfl⟩ := r; rfl
  | _ => exact absurd (show false = true from f) Bool.false_ne_true
theorem any_eqU {x : V} : ∀ {xs : List V} {us : List Value}, Vals xs us → xs.all flatV = true → us.any (eqU x) = xs.any fun y => eqV y x
  | _, _, .nil, _ => rfl
  | y :: xs, u :: us, .cons r t, f => by
    rw [List.all_cons, Bool.and_eq_true] at f
    rw [List.any_cons, List.any_cons, eqU_of r f.1, any_eqU t f.2]
theorem mem_eqAt {A : Around} {s : Shared} {x : V} {v : Value} (rx : RelV x v) (fx : flatV x = true) : ∀ {xs : List V} {us : List Value}, Vals xs us → xs.all flatV = true → ∀ u ∈ us, SeqAt.EqAt A s u v (eqU x u)
  | _, _, .nil, _ => fun u hu => by cases hu
  | y :: xs, u :: us, .cons r t, f => fun u' hu => by
    rw [List.all_cons, Bool.and_eq_true] at f
    rcases List.mem_cons.mp hu with rfl | hu
    · rw [eqU_of r f.1]; exact eqAt_V r rx f.1 fx
    · exact mem_eqAt rx fx t f.2 u' hu
noncomputable def inV (x : V) (xs : List V) : Bool := xs.any fun y => eqV y x

noncomputable def rIn (K : PySem.W.Frag) (neg : Bool) : R2 := fun x y H Q => ∃ p xs, y = .ref p ∧ (SqL K H p xs ∨ SqT K H p xs) ∧ flatV x = true ∧ xs.all flatV = true ∧ Q (.bl (if neg then !inV x xs else inV x xs)) H
theorem op_in_seq : OpR X (compareOp .In) (rIn X.K false) := by
  constructor
  intro pins s σ H x y v u Q I rx ry h
  obtain ⟨p, xs, rfl, hq, fx, fs, q⟩ := h
  cases ry
  rcases hq with hq | hq
  · obtain ⟨its, r, pl, hz⟩ := I.list hq
    refine SeqAt.in_listAt (eqU x) pl.isList (fun w hw => mem_eqAt rx fx r fs w (by simpa using hw)) ⟨.bl _, H, I, rfl, ?_⟩
    rw [show its.toArray.any (eqU x) = its.any (eqU x) by simp, any_eqU r fs]
    exact q
  · obtain ⟨its, r, pl, hz⟩ := I.tuple hq
    refine SeqAt.in_tupleAt (eqU x) pl (fun w hw => mem_eqAt rx fx r fs w (by simpa using hw)) ⟨.bl _, H, I, rfl, ?_⟩
    rw [show its.toArray.any (eqU x) = its.any (eqU x) by simp, any_eqU r fs]
    exact q
theorem op_notIn_seq : OpR X (compareOp .NotIn) (rIn X.K true) := by
  constructor
  intro pins s σ H x y v u Q I rx ry h
  obtain ⟨p, xs, rfl, hq, fx, fs, q⟩ := h
  cases ry
  rcases hq with hq | hq
  · obtain ⟨its, r, pl, hz⟩ := I.list hq
    refine SeqAt.notIn_listAt (eqU x) pl.isList (fun w hw => mem_eqAt rx fx r fs w (by simpa using hw)) ⟨.bl _, H, I, rfl, ?_⟩
    rw [show its.toArray.any (eqU x) = its.any (eqU x) by simp, any_eqU r fs]
    exact q
  · obtain ⟨its, r, pl, hz⟩ := I.tuple hq
    refine SeqAt.notIn_tupleAt (eqU x) pl (fun w hw => mem_eqAt rx fx r fs w (by simpa using hw)) ⟨.bl _, H, I, rfl, ?_⟩
    rw [show its.toArray.any (eqU x) = its.any (eqU x) by simp, any_eqU r fs]
    exact q
theorem call_len_seq : CallR X (.builtin "len") (fun xs H Q => ∃ p ys, xs = [.ref p] ∧ (SqL X.K H p ys ∨ SqT X.K H p ys) ∧ Q (.int ys.length) H) := by
  constructor
  intro pins s σ H xs us Q I r h
  obtain ⟨p, ys, rfl, hq, q⟩ := h
  obtain ⟨u, rfl, rx⟩ := vals1 r
  cases rx
  have hn := line63
  rcases hq with hq | hq
  · obtain ⟨its, r', pl, hz⟩ := I.list hq
    have hlen := r'.length
    exact Calls.call_len_list pl.isList (by simp only [List.size_toArray] <;> omega) ⟨.int ys.length, H, I.tok _, ⟨s.toks + 1, by rw [List.size_toArray, hlen]⟩, q⟩
  · obtain ⟨its, r', pl, hz⟩ := I.tuple hq
    have hlen := r'.length
    exact len_tuple pl (by simp only [List.size_toArray] <;> omega) ⟨.int ys.length, H, I.tok _, ⟨s.toks + 1, by rw [List.size_toArray, hlen]⟩, q⟩
theorem call_len_str : CallR X (.builtin "len") (fun xs H Q => ∃ z, xs = [.str z] ∧ z.length ≤ sizeLine ∧ Q (.int z.length) H) := by
  constructor
  intro pins s σ H xs us Q I r h
  obtain ⟨z, rfl, hz, q⟩ := h
  obtain ⟨u, rfl, t, rfl⟩ := vals1 r
  have hn := line63
  exact len_str (by omega) ⟨.int z.length, H, I.tok _, ⟨_, rfl⟩, q⟩
theorem call_list_of : CallR X (.type "list") (fun xs H Q => ∃ p ys, xs = [.ref p] ∧ (SqL X.K H p ys ∨ SqT X.K H p ys) ∧ ∀ l, H l = none → Q (.ref l) (upd H l (.lst ys))) := by
  constructor
  intro pins s σ H xs us Q I r h
  obtain ⟨p, ys, rfl, hq, q⟩ := h
  obtain ⟨u, rfl, rx⟩ := vals1 r
  cases rx
  have fin : ∀ (its : List Value), Vals ys its → ys.length ≤ sizeLine → ∀ (h' : Heap) (c' : Nat), (∀ b o', s.heap.get? b = some o' → h'.get? b = some o') →
      h'.get? s.heap.objs.size = some { cls := .type "list", dict := none, data := .seq its.toArray c', slots := #[] } → EP X pins σ Q (.ref s.heap.objs.size) { s with heap := h' } := fun its r' hz h' c' kp e =>
    ⟨.ref s.heap.objs.size, _, I.laid (t' := s.toks) kp (Nat.le_refl _) (show ObjOk X.prog X.w _ h' _ (.lst ys) from ⟨hz, its, c', r', e⟩), rfl, q _ (I.hok.fresh (Nat.le_refl _))⟩
  rcases hq with hq | hq
  · obtain ⟨its, r', pl, hz⟩ := I.list hq
    have hlen := r'.length
    obtain ⟨o, ho, hc, n, hd⟩ := pl.isList
    exact call_list_seq p (.inl rfl) ho hc hd (fun h' c' kp e => fin its r' hz h' c' kp e) (by simp only [List.size_toArray] <;> omega)
  · obtain ⟨its, r', pl, hz⟩ := I.tuple hq
    have hlen := r'.length
    obtain ⟨o, ho, hc, n, hd⟩ := pl
    exact call_list_seq p (.inr rfl) ho hc hd (fun h' c' kp e => fin its r' hz h' c' kp e) (by simp only [List.size_toArray] <;> omega)
theorem call_tuple_of : CallR X (.type "tuple") (fun xs H Q => ∃ p ys, xs = [.ref p] ∧ ((SqL X.K H p ys ∧ ∀ l, H l = none → Q (.ref l) (upd H l (.tup ys))) ∨ (SqT X.K H p ys ∧ Q (.ref p) H))) := by
  constructor
  intro pins s σ H xs us Q I r h
  obtain ⟨p, ys, rfl, h⟩ := h
  obtain ⟨u, rfl, rx⟩ := vals1 r
  cases rx
  rcases h with ⟨hq, q⟩ | ⟨hq, q⟩
  · obtain ⟨its, r', pl, hz⟩ := I.list hq
    have hlen := r'.length
    refine call_tuple_list pl.isList (fun h' kp => ?_) (by simp only [List.size_toArray] <;> omega)
    have I1 : Inv X pins σ H { s with heap := h' } := I.kept (t' := s.toks) kp
    have I2 : Inv X pins σ (upd H h'.objs.size (.tup ys)) { s with heap := h'.push { cls := .type "tuple", data := .seq its.toArray } } :=
      I1.laid (t' := s.toks) (fun b o e => Heap.get?_push_of_some _ e) (Nat.le_refl _) (show ObjOk X.prog X.w _ _ _ (.tup ys) from ⟨hz, its, r', TupN.new _ _⟩)
    exact ⟨.ref h'.objs.size, _, I2, rfl, q _ (I1.hok.fresh (Nat.le_refl _))⟩
  · obtain ⟨its, r', pl, hz⟩ := I.tuple hq
    exact call_tuple_same pl ⟨.ref p, H, I, rfl, q⟩



noncomputable def tyV (K : PySem.W.Frag) (T : String) (x : V) (H : Hp) : Prop := match x with
  | .str _ => T = "str"
  | .int _ => T = "int"
  | .ref p => (T = "list" ∧ ∃ xs, SqL K H p xs) ∨ (T = "tuple" ∧ ∃ o, K.lookup p = some o ∧ o.cls = .type "tuple" ∧ o.dict = none) ∨
      (T = "dict" ∧ ((∃ kvs, H p = some (.dK kvs)) ∨ ∃ kvs, H p = some (.dT kvs))) ∨ (T = "set" ∧ ∃ S n, H p = some (.set S n))
  | _ => False
theorem tyV_is {pins : List (Addr × Obj)} {σ : St} {H : Hp} {s : Shared} {T : String} {x : V} {v : Value} (I : Inv X pins σ H s) (r : RelV x v) (ty : tyV X.K T x H) :
    s.TypeIs v T ∧ ∀ a, v = .ref a → ∃ ob, s.heap.get? a = some ob ∧ ob.dict = none := by
  cases x with
  | str z =>
    obtain ⟨t, rfl⟩ := r
    cases (show T = "str" from ty)
    exact ⟨typeIs_str s z t, fun _ e => nomatch e⟩
  | int i =>
    obtain ⟨t, rfl⟩ := r
    cases (show T = "int" from ty)
    exact ⟨typeIs_int s i t, fun _ e => nomatch e⟩
  | ref p =>
    cases r
    rcases ty with ⟨rfl, xs, hq⟩ | ⟨rfl, o, hk, hc, hd⟩ | ⟨rfl, hk⟩ | ⟨rfl, S, n, hk⟩
    · obtain ⟨its, _, pl, _⟩ := I.list hq
      refine ⟨pl.isList.typeIs, fun a e => ?_⟩
      cases e
      obtain ⟨o, n, e, c, hd, _⟩ := pl
      exact ⟨o, e, hd⟩
    · refine ⟨⟨o, I.kIn p o hk, hc⟩, fun a e => ?_⟩
      cases e
      exact ⟨o, I.kIn _ o hk, hd⟩
    · have z : ∃ o, s.heap.get? p = some o ∧ o.ExactDict := by
        rcases hk with ⟨kvs, hk⟩ | ⟨kvs, hk⟩
        · obtain ⟨_, _, _, _, o, _, _, e, ex, _⟩ := I.hok p _ hk
          exact ⟨o, e, ex⟩
        · obtain ⟨_, _, _, _, o, _, _, e, ex, _⟩ := I.hok p _ hk
          exact ⟨o, e, ex⟩
      obtain ⟨o, e, ex⟩ := z
      refine ⟨⟨o, e, ex.1⟩, fun a e2 => ?_⟩
      cases e2
      exact ⟨o, e, ex.2.1⟩
    · obtain ⟨o, _, _, _, e, ex, _⟩ := I.hok p _ hk
      refine ⟨⟨o, e, ex.1⟩, fun a e2 => ?_⟩
      cases e2
      exact ⟨o, e, ex.2.1⟩
  | _ => exact False.elim ty
noncomputable def tBM (K : PySem.W.Frag) (T : String) (r : V → List V → Hp → VK → Prop) (to : TE) (t : TA) : TE := fun σ H Q => to σ H fun x H1 => tyV K T x H1 ∧ t σ H1 fun xs H2 => r x xs H2 Q
variable {o e : Expr} {es : List Expr} {to : TE} {t : TA} {name : Str} {apos cpos : Pos} {T id : String} {r : V → List V → Hp → VK → Prop}
theorem pe_bm (pa : PlainAttrs T) (slot : Slot T name id) (hty : typeOf (.builtin id) = pure (.type "method_descriptor")) (hm : MtR X id r) (ho : PE X o to) (ha : PA X (e :: es) t)
    (hbase : attributeBase o name X.env (eval o X.env) = eval o X.env := by rfl)
    (hfew : ((backTo cpos (starEach (e :: es) X.env)).all (fun x => !x.1) && (backToKw cpos (keywordEach [] X.env)).all (fun x => x.1.isSome)
      && decide ((e :: es).length + ([] : List Keyword).length + (if ([] : List Keyword).isEmpty then 0 else 1) < 30)) = true := by rfl)
    (hline : (apos.endLine == cpos.line) = true := by rfl) (hs : starEach (e :: es) X.env = (false, eval e X.env) :: starEach es X.env := by rfl) (hplain : (backTo cpos (starEach es X.env)).any (·.1) = false := by rfl) :
    PE X (.Call (.Attribute o name apos) (e :: es) [] cpos) (tBM X.K T r to t) := by
  constructor
  intro pins s σ H Q I h
  refine wpAny_Call_method_late hbase hfew hline rfl (thn (ho pins s σ H _ I h) fun v s1 ⟨x, H1, I1, r1, ty, q1⟩ => ?_)
  obtain ⟨h1, h2⟩ := tyV_is I1 r1 ty
  refine ⟨T, id, pa, slot, hty, h1, h2, ?_⟩
  have hA := ha cpos pins s1 σ H1 _ I1 q1
  rw [hs] at hA ⊢
  refine Calls.callWith_builtin (by show (false || (backTo cpos (starEach es X.env)).any (·.1)) = false; rw [hplain] <;> rfl) (Calls.evalArgs_plain ?_)
  exact thn hA fun us s2 ⟨vs, H2, I2, r2, q2⟩ => hm pins s2 σ H2 x vs v us Q I2 r1 r2 q2

end
end L2

namespace L2
open PySem PySem.Spec PyProof.Rows

structure MtM (X : Cx) (id : String) (r : V → List V → Hp → VK → Prop) : Prop where
  run :
    ∀ (pins : List (Addr × Obj)) (s : Shared) (σ : St) (H : Hp) (x : V) (xs : List V) (v : Value) (us : List Value) (Q : VK), Inv X pins σ H s → RelV x v → Vals xs us → r x xs H Q →
      wpAny (model X.prog X.w) X.A (call (.builtin id) (v :: us)) (EP X pins σ Q) X.xe s
instance {X : Cx} {id : String} {r : V → List V → Hp → VK → Prop} : CoeFun (MtM X id r) (fun _ =>
  ∀ (pins : List (Addr × Obj)) (s : Shared) (σ : St) (H : Hp) (x : V) (xs : List V) (v : Value) (us : List Value) (Q : VK), Inv X pins σ H s → RelV x v → Vals xs us → r x xs H Q →
    wpAny (model X.prog X.w) X.A (call (.builtin id) (v :: us)) (EP X pins σ Q) X.xe s) := ⟨MtM.run⟩


theorem Vals.one : ∀ {x : V} {us : List Value}, Vals [x] us → ∃ u, us = [u] ∧ RelV x u
  | _, _, .cons r .nil => ⟨_, rfl, r⟩
theorem Vals.eraseIdx : ∀ {xs : List V} {us : List Value} (i : Nat), Vals xs us → Vals (xs.eraseIdx i) (us.eraseIdx i)
  | _, _, _, .nil => .nil
  | _, _, 0, .cons _ t => t
  | _, _, i + 1, .cons r t => .cons r (Vals.eraseIdx i t)
theorem len_erase {α : Type} : ∀ (l : List α) (i : Nat), (l.eraseIdx i).length ≤ l.length
  | [], _ => Nat.le_refl _
  | _ :: _, 0 => Nat.le_succ _
  | _ :: r, i + 1 => Nat.succ_le_succ (len_erase r i)
section
variable {X : Cx} {pins : List (Addr × Obj)} {σ : St} {H : Hp} {s : Shared} {l b : Addr} {xs ys zs : List V}


theorem Inv.lset {its its' : List Value} {n : Nat} {f : Array Value → Array Value} {t' : Nat} (I : Inv X pins σ H s) (hH : H l = some (.lst xs))
    (e : s.heap.get? l = some { cls := .type "list", data := .seq its.toArray n }) (hf : f its.toArray = its'.toArray) (hv : Vals ys its') (hz : ys.length ≤ sizeLine) :
    Inv X pins σ (upd H l (.lst ys)) { s with heap := s.heap.update l (Obj.mapSeq f), toks := t' } := by
  have q := PySem.IsL.update e f
  rw [hf] at q
  refine I.write (x := l) (e := l) (by rw [hH]; exact trivial) (.inl rfl) (fun b' u hb hu => (Heap.get?_update_other s.heap (Obj.mapSeq f) (Ne.symm hb)).trans hu) ⟨_, q⟩ ?_
  exact ⟨hz, its', _, hv, q⟩
theorem Inv.lnew {its : List Value} {t' : Nat} (I : Inv X pins σ H s) (hv : Vals ys its) (hz : ys.length ≤ sizeLine) :
    Inv X pins σ (upd H s.heap.objs.size (.lst ys)) { s with heap := s.heap.push { cls := .type "list", data := .seq its.toArray }, toks := t' } :=
  I.laid (fun _ _ q => Heap.get?_push_of_some _ q) (Nat.le_refl _) ⟨hz, its, 0, hv, Heap.get?_push_size _ rfl⟩
theorem Inv.fresh (I : Inv X pins σ H s) : H s.heap.objs.size = none := I.hok.fresh (Nat.le_refl _)
theorem Inv.lstM (I : Inv X pins σ H s) (hH : H l = some (.lst xs)) : xs.length ≤ sizeLine ∧ ∃ (its : List Value) (n : Nat), Vals xs its ∧ xs.length = its.length ∧ s.heap.get? l = some { cls := .type "list", data := .seq its.toArray n } := by
  obtain ⟨z, its, n, r, e⟩ := I.hok l _ hH
  exact ⟨z, its, n, r, r.length, e⟩

theorem notLongL {n : Nat} (h : n ≤ sizeLine) : Builtin.List.listTooLong n = false := by
  unfold Builtin.List.listTooLong
  exact decide_eq_false (by omega)
end

section
variable {X : Cx}


noncomputable def rAppend : V → List V → Hp → VK → Prop := fun x vs H Q => ∃ l xs y, x = .ref l ∧ vs = [y] ∧ H l = some (.lst xs) ∧ xs.length < sizeLine ∧ Q .non (upd H l (.lst (xs ++ [y])))
theorem mt_append : MtM X "list.append" rAppend := by
  constructor
  intro pins s σ H x vs v us Q I rx rv h
  obtain ⟨l, xs, y, rfl, rfl, hH, hz, q⟩ := h
  cases rx
  obtain ⟨u, rfl, ru⟩ := rv.one
  obtain ⟨z, its, n, r, hl, e⟩ := I.lstM hH
  refine call_meets F.slot_list_append ⟨_, e, rfl⟩ F.entry_list_append (F.args_list_append_2 _ _) (PySem.list_append l its.toArray n u (by rw [List.size_toArray]; omega)) ⟨e, ?_⟩
  refine ⟨.non, _, I.lset (its' := its ++ [u]) hH e (by simp) (r.append (.cons ru .nil)) ?_, rfl, q⟩
  rw [List.length_append, List.length_singleton]
  omega

noncomputable def rPopAt : V → List V → Hp → VK → Prop := fun x vs H Q => ∃ l xs i k y, x = .ref l ∧ vs = [.int i] ∧ H l = some (.lst xs) ∧ -(2 ^ 63) ≤ i ∧ i < 2 ^ 63 ∧ seqIndex? i xs.length = some k ∧ xs[k]? = some y ∧ Q y (upd H l (.lst (xs.eraseIdx k)))
theorem mt_popAt : MtM X "list.pop" rPopAt := by
  constructor
  intro pins s σ H x vs v us Q I rx rv h
  obtain ⟨l, xs, i, k, y, rfl, rfl, hH, h1, h2, hk, hy, q⟩ := h
  cases rx
  obtain ⟨u, rfl, ru⟩ := rv.one
  obtain ⟨t, rfl⟩ := ru
  obtain ⟨z, its, n, r, hl, e⟩ := I.lstM hH
  obtain ⟨w, hw, rw'⟩ := r.get hy
  refine call_meets F.slot_list_pop ⟨_, e, rfl⟩ F.entry_list_pop (F.args_list_pop_2 _ _)
    (MeetsSeq.list_pop_at l its.toArray n i t k w (fitsIndex_both h1 h2) (by rw [List.size_toArray, ← hl]; exact hk) (by rw [← Array.getElem?_toList]; exact hw) (by rw [List.size_toArray]; omega)) ⟨e, ?_⟩
  refine ⟨y, _, I.lset (its' := its.eraseIdx k) hH e ?_ (r.eraseIdx k) ?_, rw', q⟩
  · show its.toArray.eraseIdxIfInBounds k = (its.eraseIdx k).toArray
    rw [List.eraseIdxIfInBounds_toArray]
  · have := len_erase xs k
    omega

end


section
variable {prog : Program} {w : World} {A : Around} {E : Value → Shared → Prop} {s : Shared}
theorem bounds_run {a c n : Nat} (hac : a ≤ c) (hc : c ≤ n) : sliceBounds (some (a : Int)) (some (c : Int)) none n = ((a : Int), (c : Int), 1) := by
  simp only [sliceBounds, Option.getD_none]
  have h1 : ¬ ((a : Int) < 0) := by omega
  have h2 : ¬ ((c : Int) < 0) := by omega
  simp only [h1, h2, if_false, show (1 : Int) > 0 by decide, if_true]
  congr 1
  · omega
  · congr 1; omega
set_option maxRecDepth 100000 in

theorem setItem_slice {l b sl : Addr} {items new : Array Value} {n n2 : Nat} {vl vu : Value} {a c : Nat} {Q : Unit → Shared → Prop}
    (e : s.heap.get? l = some { cls := .type "list", data := .seq items n }) (e2 : s.heap.get? b = some { cls := .type "list", data := .seq new n2 }) (hne : l ≠ b)
    (hs : s.heap.IsSliceOf sl vl vu .none) (pl : IsPart vl (some (a : Int))) (pu : IsPart vu (some (c : Int))) (hac : a ≤ c) (hc : c ≤ items.size)
    (hsz : items.size + new.size ≤ sizeLine) (h : Q () { s with heap := s.heap.update l (Obj.mapSeq fun xs => xs.extract 0 a ++ new ++ xs.extract c xs.size) }) :
    wpAny (model prog w) A (setItem (.ref l) (.ref sl) (.ref b)) Q E s := by
  have hl : s.heap.IsList l items := PySem.IsL.isList e
  have hb : s.heap.IsList b new := PySem.IsL.isList e2
  obtain ⟨os, hos, hcs, hds⟩ := id hs
  have hTs : s.TypeIs (.ref sl) "slice" := ⟨os, hos, hcs⟩
  have hstep : ¬ ((rawPart none == rawInt 0) = true) := Bool.false_ne_true
  have hsame : Builtin.List.listSameRef (.ref l) (.ref b) = false := by
    unfold Builtin.List.listSameRef
    exact beq_eq_false_iff_ne.mpr hne
  have hmax : (max (a : Int) (c : Int)).toNat = c := by omega
  have hz' : ((fun xs : Array Value => xs.extract 0 a ++ new ++ xs.extract c xs.size) items).size ≤ sizeLine + 1 := by
    simp only [Array.size_append, Array.size_extract]
    omega
  unfold setItem
  try with_reducible refine wpAny_holding ?_
  first | refine wpAny_bind (wpAny_pure ?_) | skip
  refine wpAny_bind (wpAny_sequenceKey hl.typeIs (by decide) ?_)
  refine wpAny_bind (wpAny_callSpecial?_slot (name := Str.ofString "__setitem__") hl.typeIs slot_list_setitem
    (wpAny_call_entry slot_list_setitem hl.typeIs entry_list_setitem ?_ (args_list_setitem _ _ _)))
  show wpAny _ _ (Builtin.List.listSubscript? (.ref sl) >>= _) _ _ s
  refine wpAny_bind ?_
  unfold Builtin.List.listSubscript?
  refine wpAny_bind (wpAny_specialOf hTs slice_no_index ?_)
  simp only [Option.isNone_none, if_true]
  refine wpAny_pure ?_
  show wpAny _ _ (typeOf (.ref sl) >>= _) _ _ s
  refine wpAny_bind (wpAny_typeOf hTs ?_)
  first
    | rw [if_neg (by decide)]
    | refine PySem.W.KFB.if_not (by decide) ?_
  rw [listSliceParts_eq]
  refine wpAny_bind (wpAny_bind (wpAny_field hos hds (x := .none) rfl (wpAny_bind (wpAny_listPart .none ?_))))
  rw [if_neg hstep]
  refine wpAny_bind (wpAny_field hos hds (x := vl) rfl (wpAny_bind (wpAny_listPart pl ?_)))
  refine wpAny_bind (wpAny_field hos hds (x := vu) rfl (wpAny_bind (wpAny_listPart pu (wpAny_pure ?_))))
  first
    | simp only [hsame, Bool.false_eq_true, if_false]
    | refine PySem.W.KFB.if_not hsame ?_
    | (dsimp only
       rw [if_neg (by rw [hsame]; exact Bool.false_ne_true)])
  refine wpAny_bind (m := Builtin.List.listAllItems (.ref b) "must assign iterable to extended slice") ?_
  unfold Builtin.List.listAllItems
  refine wpAny_bind (wpAny_typeOf hb.typeIs ?_)
  first
    | refine PySem.W.KFB.if_so (by decide) ?_
    | rw [if_pos (by decide)]
    | simp only [beq_self_eq_true, Bool.true_or, if_true]
  unfold Builtin.List.listItems
  refine wpAny_bind (wpAny_seqItems e2 rfl (wpAny_pure ?_))
  refine wpAny_bind (wpAny_bind (wpAny_seqItems e rfl (wpAny_pure ?_)))
  refine wpAny_bind (wpAny_of_eq ((sliceIndices_raw (some (a : Int)) (some (c : Int)) none items.size (by simp)).trans (congrArg (pure : Int × Int × Int → Sem (Int × Int × Int)) (bounds_run hac hc))) ?_)
  show wpAny _ _ (if ((1 : Int) == 1) = true then _ else _) _ _ s
  rw [if_pos (by decide)]
  refine wpAny_bind (wpAny_rule ?_)
  first
    | simp only [notLongL hsz, Bool.false_eq_true, if_false]
    | refine PySem.W.KFB.if_not (notLongL hsz) ?_
  first | refine wpAny_bind (wpAny_pure ?_) | skip
  show wpAny _ _ (updateSeq l (fun xs => xs.extract 0 ((a : Int)).toNat ++ new ++ xs.extract (max (a : Int) (c : Int)).toNat xs.size) >>= _) _ _ s
  rw [hmax, Int.toNat_natCast]
  refine wpAny_bind (wpAny_updateSeq (hz := Nat.le_trans (Nat.le_add_right _ _) hsz) (_hz' := hz') e rfl ?_)
  refine wpAny_bind (wpAny_letGo ?_)
  first
    | exact wpAny_bind (wpAny_pure (wpAny_pure ⟨.none, rfl, wpAny_pure h⟩))
    | exact wpAny_pure ⟨.none, rfl, wpAny_pure h⟩
end

section
variable {X : Cx}

end
end L2

namespace L2
open PySem PySem.Spec PyProof.Rows

theorem Vals.bls : ∀ {bs : List Bool} {us : List Value}, Vals (bs.map V.bl) us → us = bs.map Value.bool
  | [], us, h => by
    rw [List.map_nil] at h
    cases h
    rfl
  | b :: bs, us, h => by
    rw [List.map_cons] at h
    cases h with
    | cons r t =>
      cases r
      rw [Vals.bls t, List.map_cons]
theorem Vals.ref1 {a : Addr} {us : List Value} (r : Vals [V.ref a] us) : us = [Value.ref a] := by
  cases r with
  | cons r t =>
    cases t
    cases r
    rfl
section
variable {prog : Program} {w : World} {A : Around} {E : Value → Shared → Prop} {s : Shared} {l : Addr} {its : List Value} {ns : List Int} {Q : Value → Shared → Prop}
end


section
variable {X : Cx}

end


section
variable {X : Cx}
end


section
variable {X : Cx}
end


theorem iter_any {prog : Program} {w : World} {A : Around} {E : Value → Shared → Prop} {s : Shared} {l : Addr} {items : Array Value} {Q : Value → Shared → Prop} (hl : s.heap.IsList l items)
    (h : ∀ s₂ : Shared, s₂ = { s with heap := s.heap.push { cls := .type "list_iterator", data := .fields #[.ref l, .int 0 0] } } →
      (s₂.heap.IsListIter s.heap.objs.size l 0 ∧ s₂.heap.IsList l items) → l ≠ s.heap.objs.size → Q (.ref s.heap.objs.size) s₂) : wpAny (model prog w) A (pyIter (.ref l)) Q E s := by
  have hlt : l < s.heap.objs.size := by obtain ⟨_, e, _⟩ := hl; exact Heap.lt_size e
  exact wpAny_pyIter_list hl (h _ rfl ⟨⟨_, Heap.get?_push_size _ rfl, rfl, rfl⟩, hl.push _⟩ (Nat.ne_of_lt hlt))
theorem truth_bools {prog : Program} {w : World} {A : Around} {bs : List Bool} {its : List Value} (e : its = bs.map Value.bool) :
    TruthOf prog w A (fun i v => its.toArray[i]? = some v) (fun i => bs.getD i false) := fun i v s Q E hv hq => by
  have hv' : its[i]? = some v := by simpa using hv
  rw [e, List.getElem?_map] at hv'
  obtain ⟨b, hb, rfl⟩ := Option.map_eq_some_iff.mp hv'
  have hg : bs.getD i false = b := by rw [List.getD_eq_getElem?_getD, hb] <;> rfl
  have hq' : Q (bs.getD i false) s := hq
  rw [hg] at hq'
  exact wpAny_truthy_bool hq'
theorem all_range : ∀ bs : List Bool, (List.range bs.length).all (fun i => bs.getD i false) = bs.all id
  | [] => rfl
  | b :: bs => by
    rw [List.length_cons, List.range_succ_eq_map, List.all_cons, List.all_map, List.all_cons, ← all_range bs]
    all_goals rfl
section
variable {X : Cx}
noncomputable def rAll (K : PySem.W.Frag) : List V → Hp → VK → Prop := fun vs H Q => ∃ (a : Addr) (bs : List Bool), vs = [V.ref a] ∧ SqL K H a (bs.map V.bl) ∧ Q (.bl (bs.all id)) H
theorem cr_all (hc : X.calm = true) : CallR X (.builtin "all") (rAll X.K) := by
  constructor
  intro pins s σ H vs us Q I r h
  obtain ⟨a, bs, rfl, hs, q⟩ := h
  obtain ⟨its, rv, hl, _⟩ := I.list hs
  rw [Vals.ref1 r]
  have hb := rv.bls
  refine call_all_walk (iter_any hl.isList fun s₂ e2 st hne => ?_)
  subst e2
  refine ⟨_, _, _, _, _, _, _, rfl, Walks.list (A := X.A.in1) (I.ok.hd hc) _ a hne its.toArray, st, truth_bools hb, fun h' tk hk => ?_⟩
  refine ⟨.bl _, H, I.kept fun b o eo => hk b o (fun hmem => ?_) (Heap.get?_push_of_some _ eo), ?_, q⟩
  · rcases List.mem_cons.mp hmem with e1 | hmem
    · exact absurd (e1 ▸ Heap.lt_size eo) (Nat.lt_irrefl _)
    · cases hmem
  · show Value.bool _ = Value.bool _
    rw [← all_range, hb, List.size_toArray, List.length_map]
end


mutual
inductive Dp (K : PySem.W.Frag) (H : Hp) : V → PyData → Prop
  | non : Dp K H .non .none
  | bl (b : Bool) : Dp K H (.bl b) (.bool b)
  | int (i : Int) : Dp K H (.int i) (.int i)
  | str (x : Str) : Dp K H (.str x) (.str x)
  | lst {a : Addr} {xs : List V} {ds : List PyData} : SqL K H a xs → DpAll K H xs ds → Dp K H (.ref a) (.list ds)
  | tup {a : Addr} {xs : List V} {ds : List PyData} : SqT K H a xs → DpAll K H xs ds → Dp K H (.ref a) (.tuple ds)
inductive DpAll (K : PySem.W.Frag) (H : Hp) : List V → List PyData → Prop
  | nil : DpAll K H [] []
  | cons {v : V} {vs : List V} {d : PyData} {ds : List PyData} : Dp K H v d → DpAll K H vs ds → DpAll K H (v :: vs) (d :: ds)
end
section
variable {X : Cx} {pins : List (Addr × Obj)} {σ : St} {H : Hp} {s : Shared}
mutual
theorem Dp.reads (I : Inv X pins σ H s) : ∀ (d : PyData) (v : V) (u : Value), Dp X.K H v d → RelV v u → ∃ as, Reads s.heap u d as
  | .none, _, _, h, r => by
    cases h
    cases r
    exact ⟨_, Reads.none⟩
  | .bool b, _, _, h, r => by
    cases h
    cases r
    exact ⟨_, Reads.bool b⟩
  | .int i, _, _, h, r => by
    cases h
    obtain ⟨t, rfl⟩ := r
    exact ⟨_, Reads.int i t⟩
  | .str x, _, _, h, r => by
    cases h
    obtain ⟨t, rfl⟩ := r
    exact ⟨_, Reads.str x t⟩
  | .list ds, _, _, h, r => by
    cases h with
    | lst hs ha =>
      cases r
      obtain ⟨its, rv, ⟨o, n, ho, hc, _, hd⟩, _⟩ := I.list hs
      obtain ⟨as, hr⟩ := Dp.readsAll I ds _ its ha rv
      exact ⟨_, Reads.list ho hc hd hr⟩
  | .tuple ds, _, _, h, r => by
    cases h with
    | tup hs ha =>
      cases r
      obtain ⟨its, rv, ⟨o, ho, hc, n, hd⟩, _⟩ := I.tuple hs
      obtain ⟨as, hr⟩ := Dp.readsAll I ds _ its ha rv
      exact ⟨_, Reads.tuple ho hc hd hr⟩
  | .dict _, _, _, h, _ => by cases h
theorem Dp.readsAll (I : Inv X pins σ H s) : ∀ (ds : List PyData) (vs : List V) (us : List Value), DpAll X.K H vs ds → Vals vs us → ∃ as, ReadsAll s.heap us ds as
  | [], _, _, h, r => by
    cases h
    cases r
    exact ⟨_, ReadsAll.nil⟩
  | d :: ds, _, _, h, r => by
    cases h with
    | cons h1 h2 =>
      cases r with
      | cons r1 r2 =>
        obtain ⟨as, q1⟩ := Dp.reads I d _ _ h1 r1
        obtain ⟨bs, q2⟩ := Dp.readsAll I ds _ _ h2 r2
        exact ⟨_, ReadsAll.cons q1 q2⟩
end
end
section
variable {X : Cx}
noncomputable def rEqD (K : PySem.W.Frag) : R2 := fun x y H Q => ∃ d e, Dp K H x d ∧ Dp K H y e ∧ SeqAt.shaped d = true ∧ SeqAt.shaped e = true ∧ Q (.bl (PyData.eqv d e)) H
noncomputable def rNeD (K : PySem.W.Frag) : R2 := fun x y H Q => ∃ d e, Dp K H x d ∧ Dp K H y e ∧ SeqAt.shaped d = true ∧ SeqAt.shaped e = true ∧ Q (.bl (!PyData.eqv d e)) H
theorem op_eqD (hu : X.A.units + 64 < cLine) : OpR X (compareOp .Eq) (rEqD X.K) := by
  constructor
  intro pins s σ H x y v u Q I rx ry h
  obtain ⟨d, e, hd, he, sd, se, q⟩ := h
  obtain ⟨as, r1⟩ := Dp.reads I d x v hd rx
  obtain ⟨bs, r2⟩ := Dp.reads I e y u he ry
  exact SeqAt.compareEq_shaped r1 r2 sd se hu ⟨.bl _, H, I, rfl, q⟩
theorem op_neD (hu : X.A.units + 64 < cLine) : OpR X (compareOp .NotEq) (rNeD X.K) := by
  constructor
  intro pins s σ H x y v u Q I rx ry h
  obtain ⟨d, e, hd, he, sd, se, q⟩ := h
  obtain ⟨as, r1⟩ := Dp.reads I d x v hd rx
  obtain ⟨bs, r2⟩ := Dp.reads I e y u he ry
  exact SeqAt.compareNe_shaped r1 r2 sd se hu ⟨.bl _, H, I, rfl, q⟩
end
end L2

namespace L2
open PySem PySem.Spec PyProof.Rows
noncomputable abbrev CellAt (h : Heap) (c : Addr) (v : Option Value) : Prop := h.IsCell c v
noncomputable def relS (scope sc : Scope) : Scope :=
  { scope with names := scope.names.map fun (n, k) => if (k == .free && sc.kind == .function && sc.names.lookup n == some .cell) then (n, .cell) else (n, k) }

noncomputable def cloFrom (cells : List (Str × Addr)) : List (Str × NameKind) → List (Str × Addr) → List (Str × Addr)
  | [], acc => acc
  | (n, k) :: r, acc => if k == .free then cloFrom cells r ((n, (cells.lookup n).getD 0) :: acc) else cloFrom cells r acc

theorem closure_loop (env : Env) (f : Str × NameKind → List (Str × Addr) → Sem (ForInStep (List (Str × Addr))))
    (hf : ∀ n k c, f (n, k) c = if k == .free then (do let a ← cellOf env n; pure (.yield ((n, a) :: c))) else pure (.yield c)) :
    ∀ (names : List (Str × NameKind)) (acc : List (Str × Addr)), (∀ y ∈ names, y.2 = .free → ∃ c, env.cells.lookup y.1 = some c) → forIn names acc f = pure (cloFrom env.cells names acc)
  | [], acc, _ => by rw [List.forIn_nil]; rfl
  | (n, k) :: r, acc, h => by
    rw [List.forIn_cons, hf]
    have ih := fun acc => closure_loop env f hf r acc fun y hy => h y (List.mem_cons_of_mem _ hy)
    unfold cloFrom
    by_cases hk : (k == NameKind.free) = true
    · rw [if_pos hk, if_pos hk]
      obtain ⟨c, hc⟩ := h (n, k) List.mem_cons_self (by simpa using hk)
      have e : cellOf env n = pure c := by unfold cellOf; rw [hc]
      rw [e]
      have e2 : (env.cells.lookup n).getD 0 = c := by rw [hc]; rfl
      rw [e2]
      exact ih _
    · rw [if_neg hk, if_neg hk]
      exact ih _
theorem closure_ok {scope : Scope} {env : Env} (h : ∀ y ∈ scope.names, y.2 = .free → ∃ c, env.cells.lookup y.1 = some c) : closureFor scope env = pure (cloFrom env.cells scope.names []) := by
  simp only [closureFor]
  rw [closure_loop env _ (fun n k c => rfl) scope.names [] h]
  rfl

theorem mem_lookup {α : Type} : ∀ {l : List (Str × α)} {n : Str} {c : α}, (n, c) ∈ l → ∃ c', l.lookup n = some c'
  | (k, v) :: r, n, c, h => by
    rw [List.lookup_cons]
    cases hb : n == k with
    | true => exact ⟨_, rfl⟩
    | false =>
      rcases List.mem_cons.mp h with e | h
      · cases e; simp at hb
      · exact mem_lookup h

theorem cloFrom_mem {cells : List (Str × Addr)} : ∀ {names : List (Str × NameKind)} {acc : List (Str × Addr)} {n : Str} {c : Addr}, (n, c) ∈ cloFrom cells names acc → (n, c) ∈ acc ∨ ((n, .free) ∈ names ∧ c = (cells.lookup n).getD 0)
  | [], _, _, _, h => .inl h
  | (m, k) :: r, acc, n, c, h => by
    unfold cloFrom at h
    split at h
    · rename_i hk
      have hk : k = .free := by simpa using hk
      rcases cloFrom_mem h with h | ⟨h1, h2⟩
      · rcases List.mem_cons.mp h with e | h
        · cases e; exact .inr ⟨hk ▸ List.mem_cons_self, rfl⟩
        · exact .inl h
      · exact .inr ⟨List.mem_cons_of_mem _ h1, h2⟩
    · rcases cloFrom_mem h with h | ⟨h1, h2⟩
      · exact .inl h
      · exact .inr ⟨List.mem_cons_of_mem _ h1, h2⟩
theorem cloFrom_acc {cells : List (Str × Addr)} : ∀ {names : List (Str × NameKind)} {acc : List (Str × Addr)} {p : Str × Addr}, p ∈ acc → p ∈ cloFrom cells names acc
  | [], _, _, h => h
  | (m, k) :: r, acc, p, h => by
    unfold cloFrom
    split
    · exact cloFrom_acc (List.mem_cons_of_mem _ h)
    · exact cloFrom_acc h
theorem cloFrom_has {cells : List (Str × Addr)} : ∀ {names : List (Str × NameKind)} {acc : List (Str × Addr)} {n : Str}, (n, .free) ∈ names → (n, (cells.lookup n).getD 0) ∈ cloFrom cells names acc
  | (m, k) :: r, acc, n, h => by
    unfold cloFrom
    rcases List.mem_cons.mp h with e | h
    · cases e
      exact cloFrom_acc List.mem_cons_self
    · split
      · exact cloFrom_has h
      · exact cloFrom_has h

theorem cells_mem : ∀ {names : List (Str × NameKind)} {h : Heap} {acc : List (Str × Addr)} {x : Str} {c : Addr}, (x, c) ∈ cellsFrom h.objs.size names acc →
    (x, c) ∈ acc ∨ ((x, .cell) ∈ names ∧ h.objs.size ≤ c ∧ CellAt (pushCells h names) c none)
  | [], _, _, _, _, h => .inl h
  | (n, k) :: r, h, acc, x, c, hm => by
    unfold cellsFrom at hm
    unfold pushCells
    split at hm
    · rename_i hk
      rw [if_pos hk]
      have hk : k = .cell := by simpa using hk
      rw [← Heap.size_push h { cls := .type "cell", data := .cell none }] at hm
      rcases cells_mem hm with hm | ⟨h1, h2, h3⟩
      · rcases List.mem_cons.mp hm with e | hm
        · cases e
          exact .inr ⟨hk ▸ List.mem_cons_self, Nat.le_refl _, _, pushCells_keeps r _ _ _ (Heap.get?_push_size _ rfl), rfl⟩
        · exact .inl hm
      · rw [Heap.size_push] at h2
        exact .inr ⟨List.mem_cons_of_mem _ h1, Nat.le_of_succ_le h2, h3⟩
    · rename_i hk
      rw [if_neg hk]
      rcases cells_mem hm with hm | ⟨h1, h2, h3⟩
      · exact .inl hm
      · exact .inr ⟨List.mem_cons_of_mem _ h1, h2, h3⟩
theorem cells_acc : ∀ {names : List (Str × NameKind)} {n : Nat} {acc : List (Str × Addr)} {p : Str × Addr}, p ∈ acc → p ∈ cellsFrom n names acc
  | [], _, _, _, h => h
  | (m, k) :: r, n, acc, p, h => by
    unfold cellsFrom
    split
    · exact cells_acc (List.mem_cons_of_mem _ h)
    · exact cells_acc h
theorem cells_has : ∀ {names : List (Str × NameKind)} {n : Nat} {acc : List (Str × Addr)} {x : Str}, (x, .cell) ∈ names → ∃ c, (x, c) ∈ cellsFrom n names acc
  | (m, k) :: r, n, acc, x, h => by
    unfold cellsFrom
    rcases List.mem_cons.mp h with e | h
    · cases e
      exact ⟨n, cells_acc List.mem_cons_self⟩
    · split
      · exact cells_has h
      · exact cells_has h
theorem cells_inj : ∀ {names : List (Str × NameKind)} {h : Heap} {acc : List (Str × Addr)} {x y : Str} {c : Addr}, (∀ p ∈ acc, p.2 < h.objs.size) → (∀ x y c, (x, c) ∈ acc → (y, c) ∈ acc → x = y) →
    (x, c) ∈ cellsFrom h.objs.size names acc → (y, c) ∈ cellsFrom h.objs.size names acc → x = y
  | [], _, _, _, _, _, _, hi, h1, h2 => hi _ _ _ h1 h2
  | (n, k) :: r, h, acc, x, y, c, hl, hi, h1, h2 => by
    unfold cellsFrom at h1 h2
    split at h1
    · rename_i hk
      rw [if_pos hk] at h2
      rw [← Heap.size_push h { cls := .type "cell", data := .cell none }] at h1 h2
      refine cells_inj (h := h.push _) (fun p hp => ?_) (fun x y c a b => ?_) h1 h2
      · rw [Heap.size_push]
        rcases List.mem_cons.mp hp with rfl | hp
        · exact Nat.lt_succ_self _
        · exact Nat.lt_succ_of_lt (hl p hp)
      · rcases List.mem_cons.mp a with e | a <;> rcases List.mem_cons.mp b with e' | b
        · cases e; cases e'; rfl
        · cases e; exact absurd (hl _ b) (Nat.lt_irrefl _)
        · cases e'; exact absurd (hl _ a) (Nat.lt_irrefl _)
        · exact hi _ _ _ a b
    · rename_i hk
      rw [if_neg hk] at h2
      exact cells_inj hl hi h1 h2

theorem newEnv_comp {M : Model} {A : Around} {E : Value → Shared → Prop} {s : Shared} {scope : Scope} {globals : Addr} {closure : List (Str × Addr)} {qual : Str} {func : Option Addr} {code : Value} {around : Env} {builtins : Addr} {Q : Env → Shared → Prop}
    (h : Q (newEnv scope s.heap.objs.size globals (cellsFrom (s.heap.objs.size + 1) scope.names closure) qual func code (some around) builtins)
      { s with heap := pushCells (s.heap.push { cls := .type "dict", data := .dict #[] }) scope.names }) :
    wpAny M A (newFunctionEnv scope globals closure [] qual func code (some around) builtins) Q E s := by
  simp only [newFunctionEnv, Option.isSome_some, if_true]
  refine wpAny_bind (wpAny_alloc ?_)
  refine wpAny_bind (wpAny_layCells _ (fun n k c => rfl) scope.names closure _ _ ?_)
  rw [show ({ s with heap := s.heap.push { cls := .type "dict", data := .dict #[] } } : Shared).heap.objs.size = s.heap.objs.size + 1 from Heap.size_push ..]
  rw [List.forIn_nil]
  exact wpAny_bind (wpAny_pure (wpAny_pure h))


theorem lookup_relS {sc : Scope} : ∀ {names : List (Str × NameKind)} {x : Str} {k : NameKind},
    (names.map fun (n, k) => if (k == NameKind.free && sc.kind == .function && sc.names.lookup n == some .cell) then (n, NameKind.cell) else (n, k)).lookup x = some k →
    ∃ k', names.lookup x = some k' ∧ (k = k' ∨ (k' = .free ∧ k = .cell))
  | [], _, _, h => by simp at h
  | (n, k₀) :: r, x, k, h => by
    have ih := @lookup_relS sc r x k
    have h' : List.lookup x ((if (k₀ == NameKind.free && sc.kind == .function && sc.names.lookup n == some .cell) = true then (n, NameKind.cell) else (n, k₀)) :: (r.map _)) = some k := h
    cases hx : x == n with
    | true =>
      simp only [List.lookup_cons, hx]
      by_cases hc : (k₀ == NameKind.free && sc.kind == .function && sc.names.lookup n == some .cell) = true
      · rw [if_pos hc] at h'
        simp only [List.lookup_cons, hx] at h'
        cases h'
        simp only [Bool.and_eq_true, beq_iff_eq] at hc
        exact ⟨k₀, rfl, .inr ⟨hc.1.1, rfl⟩⟩
      · rw [if_neg hc] at h'
        simp only [List.lookup_cons, hx] at h'
        cases h'
        exact ⟨_, rfl, .inl rfl⟩
    | false =>
      simp only [List.lookup_cons, hx]
      by_cases hc : (k₀ == NameKind.free && sc.kind == .function && sc.names.lookup n == some .cell) = true
      · rw [if_pos hc] at h'
        simp only [List.lookup_cons, hx] at h'
        exact ih h'
      · rw [if_neg hc] at h'
        simp only [List.lookup_cons, hx] at h'
        exact ih h'
structure BlkOk (N : List Str) (sc scope : Scope) (own : List (Str × Nat)) : Prop where
  kind : scope.kind = .function
  uniq : ∀ y ∈ scope.names, scope.names.lookup y.1 = some y.2
  ix : ∀ p ∈ own, N[p.2]? = some p.1
  free : ∀ y ∈ scope.names, y.2 = .free → sc.names.lookup y.1 = some .cell ∨ sc.names.lookup y.1 = some .free
  own : ∀ y ∈ scope.names, y.2 = .local ∨ y.2 = .cell → y.1 ∈ own.map (·.1) ∨ y.1 ∉ N

noncomputable def wipe (σ : St) : List Nat → St
  | [] => σ
  | v :: vs => (wipe σ vs).set v none
theorem wipe_length (σ : St) : ∀ vs : List Nat, (wipe σ vs).length = σ.length
  | [] => rfl
  | v :: vs => by unfold wipe; rw [List.length_set, wipe_length σ vs]
theorem wipe_some {σ : St} {i : Nat} {x : V} : ∀ {vs : List Nat}, (wipe σ vs)[i]? = some (some x) → σ[i]? = some (some x) ∧ i ∉ vs
  | [], h => ⟨h, by simp⟩
  | v :: vs, h => by
    unfold wipe at h
    by_cases hi : v = i
    · subst hi
      by_cases hv : v < (wipe σ vs).length
      · rw [List.getElem?_set_self hv] at h; cases h
      · rw [List.getElem?_eq_none (by simpa using hv)] at h; cases h
    · rw [List.getElem?_set_ne hi] at h
      obtain ⟨h1, h2⟩ := wipe_some h
      exact ⟨h1, by simp only [List.mem_cons, not_or]; exact ⟨fun e => hi e.symm, h2⟩⟩


noncomputable abbrev Cx.blk (X : Cx) (s : Shared) (H : Hp) (scope : Scope) (cenv : Env) (fp : List Addr) : Cx := { X with s_0 := s, H_0 := H, env := cenv, outer := X.stack, ex := fp, fn := fun x => scope.names.lookup x == some .cell, pn := [], xe := fun _ _ => False }
section
variable {X : Cx} {pins : List (Addr × Obj)} {σ : St} {H : Hp} {s : Shared}
theorem block_start {scope : Scope} {own : List (Str × Nat)} {fp : List Addr} (I : Inv X pins σ H s) (ok : BlkOk X.N X.env.scope scope own) (hN : X.N.Nodup) (hfp : ∀ b ∈ fp, FpOk X pins H b ∧ b < s.heap.objs.size) :
    Inv (X.blk s H scope (compEnvC scope (cellsFrom (s.heap.objs.size + 1) scope.names (cloFrom X.env.cells scope.names [])) s.heap.objs.size X.env) fp) [] (wipe σ (own.map (·.2))) H { s with heap := pushCells (s.heap.push { cls := .type "dict", data := .dict #[] }) scope.names } := by
  have hfree : ∀ y ∈ scope.names, y.2 = .free → ∃ c, X.env.cells.lookup y.1 = some c := fun y hy e => by
    rcases ok.free y hy e with k | k
    · exact I.ok.has _ (.inl k)
    · exact I.ok.has _ (.inr k)
  generalize hcenv : compEnvC scope (cellsFrom (s.heap.objs.size + 1) scope.names (cloFrom X.env.cells scope.names [])) s.heap.objs.size X.env = cenv
  have kp : ∀ b o, s.heap.get? b = some o → (pushCells (s.heap.push { cls := .type "dict", data := .dict #[] }) scope.names).get? b = some o := fun b o e => pushCells_keeps _ _ _ _ (Heap.get?_push_of_some _ e)
  have hL : cenv.locals = s.heap.objs.size := by rw [← hcenv]; rfl
  have hcl : cenv.cells = cellsFrom (s.heap.objs.size + 1) scope.names (cloFrom X.env.cells scope.names []) := by rw [← hcenv]; rfl
  have hsc : cenv.scope = relS scope X.env.scope := by rw [← hcenv]; rfl
  rw [← Heap.size_push s.heap { cls := .type "dict", data := .dict #[] }] at hcl
  have cm : ∀ {y c}, (y, c) ∈ cloFrom X.env.cells scope.names [] → X.env.cells.lookup y = some c ∧ c < s.heap.objs.size := fun {y c} hm => by
    rcases cloFrom_mem hm with hm | ⟨h1, rfl⟩
    · cases hm
    · obtain ⟨c, hc⟩ := hfree _ h1 rfl
      rw [hc]
      obtain ⟨w, z⟩ := I.cell _ _ hc
      exact ⟨rfl, z.lt⟩
  have mem : ∀ {y c}, cenv.cells.lookup y = some c → (X.env.cells.lookup y = some c ∧ c < s.heap.objs.size) ∨ (s.heap.objs.size + 1 ≤ c ∧ CellAt (pushCells (s.heap.push { cls := .type "dict", data := .dict #[] }) scope.names) c none) := fun {y c} e => by
    rw [hcl] at e
    rcases cells_mem (PySem.mem_of_lookup e) with hm | ⟨_, h2, h3⟩
    · exact .inl (cm hm)
    · rw [Heap.size_push] at h2; exact .inr ⟨h2, h3⟩
  have look : ∀ {y}, scope.names.lookup y = some .free → ∃ c, cenv.cells.lookup y = some c ∧ X.env.cells.lookup y = some c := fun {y} hl => by
    have hy : (y, NameKind.free) ∈ scope.names := PySem.mem_of_lookup hl
    obtain ⟨c', e'⟩ := mem_lookup (cells_acc (names := scope.names) (n := (s.heap.push { cls := .type "dict", data := .dict #[] }).objs.size) (cloFrom_has (cells := X.env.cells) (acc := []) hy))
    rw [← hcl] at e'
    refine ⟨c', e', ?_⟩
    rw [hcl] at e'
    rcases cells_mem (PySem.mem_of_lookup e') with hm | ⟨h1, _, _⟩
    · exact (cm hm).1
    · have := ok.uniq _ h1
      rw [hl] at this; cases this
  have okB : (X.blk s H scope cenv fp).Ok := by
    refine ⟨I.ok.mod, by show cenv.scope.kind = _; rw [hsc]; exact ok.kind, by show cenv.globals = _; rw [← hcenv]; exact I.ok.glob, by show cenv.builtins = _; rw [← hcenv]; exact I.ok.blt, by show s.heap.objs.size ≤ cenv.locals; rw [hL]; exact Nat.le_refl _,
      fun y z c e1 e2 => ?_, fun y hy => ?_, fun y c z e => ?_, I.ok.hd, I.ok.frames, .inl rfl, fun b hb => ⟨?_, fun y c e z => ?_⟩, I.bs, Nat.le_trans I.ok.bsz I.sz, fun b o e hb => ?_, fun b hb z => ?_, I.stack, I.stkFree⟩
    · have e1 : cenv.cells.lookup y = some c := e1
      have e2 : cenv.cells.lookup z = some c := e2
      rw [hcl] at e1 e2
      refine cells_inj (fun p hp => ?_) (fun y z c a b => I.ok.inj y z c (cm a).1 (cm b).1) (PySem.mem_of_lookup e1) (PySem.mem_of_lookup e2)
      rw [Heap.size_push]
      exact Nat.lt_succ_of_lt (cm (y := p.1) (c := p.2) hp).2
    · show ∃ c, cenv.cells.lookup y = some c
      have key : ∀ k, cenv.kindOf y = some k → (k = .cell ∨ k = .free) → ∃ c, cenv.cells.lookup y = some c := fun k hk hk' => by
        unfold Env.kindOf at hk
        rw [hsc] at hk
        obtain ⟨k', e, r⟩ := lookup_relS hk
        have : k' = .cell ∨ k' = .free := by
          rcases r with rfl | ⟨rfl, _⟩
          · exact hk'
          · exact .inr rfl
        rcases this with rfl | rfl
        · obtain ⟨c, hm⟩ := cells_has (n := (s.heap.push { cls := .type "dict", data := .dict #[] }).objs.size) (acc := cloFrom X.env.cells scope.names []) (PySem.mem_of_lookup e)
          obtain ⟨c', e'⟩ := mem_lookup hm
          exact ⟨c', by rw [hcl]; exact e'⟩
        · obtain ⟨c, h1, _⟩ := look e
          exact ⟨c, h1⟩
      rcases hy with hy | hy
      · exact key _ hy (.inl rfl)
      · exact key _ hy (.inr rfl)
    · have z : (scope.names.lookup y == some NameKind.cell) = true := z
      have z : scope.names.lookup y = some .cell := by simpa using z
      have e : cenv.cells.lookup y = some c := e
      rw [hcl] at e
      rcases cells_mem (PySem.mem_of_lookup e) with hm | ⟨_, h2, _⟩
      · rcases cloFrom_mem hm with hm | ⟨h1, _⟩
        · cases hm
        · have q := ok.uniq _ h1
          rw [z] at q; cases q
      · rw [Heap.size_push] at h2
        exact Nat.le_of_succ_le h2
    · show b ≠ cenv.locals
      rw [hL]; exact Nat.ne_of_lt (hfp b hb).2
    · have e : cenv.cells.lookup y = some c := e
      rcases mem e with ⟨h1, _⟩ | ⟨h1, _⟩
      · exact (hfp b hb).1.2.2.2.2.1 y c h1 z
      · have h2 : s.heap.objs.size + 1 ≤ b := by rw [← z]; exact h1
        exact absurd (Nat.lt_of_lt_of_le (hfp b hb).2 (Nat.le_of_succ_le h2)) (Nat.lt_irrefl _)
    · rcases (hfp b hb).1.2.2.2.1 with z | z
      · exact I.ok.noex b o e z
      · exact absurd (Nat.lt_of_lt_of_le (Heap.lt_size e) (Nat.le_trans I.ok.bsz z)) (Nat.lt_irrefl _)
    · rcases List.mem_cons.mp (I.stkSub b z) with z | z
      · exact (hfp b hb).1.2.1 z
      · exact (hfp b hb).1.2.2.1 z
  refine ⟨okB, rfl, I.bare, Un.kept kp, ⟨fun _ => none, ?_, fun i y av e1 e2 e3 => ?_⟩, fun y c e => ?_, ?_, fun y c e => ?_, fun p hp => ?_, I.hok.kept kp, by rw [wipe_length]; exact I.len⟩
  · show Heap.Ns _ cenv.locals _
    rw [hL]
    exact Heap.Ns.keeps (Heap.Ns.new ..) fun b o e => pushCells_keeps _ _ _ _ e
  · obtain ⟨e2, hne⟩ := wipe_some e2
    have hfr : scope.names.lookup y = some .free ∧ (cenv.kindOf y = some .cell ∨ cenv.kindOf y = some .free) := by
      have key : ∀ k, cenv.scope.names.lookup y = some k → k = .local ∨ k = .cell ∨ k = .free → scope.names.lookup y = some .free ∧ (cenv.kindOf y = some .cell ∨ cenv.kindOf y = some .free) := fun k hk hk' => by
        have hk0 := hk
        rw [hsc] at hk
        obtain ⟨k', e, r⟩ := lookup_relS hk
        have no : ¬ (k' = .local ∨ k' = .cell) := fun hh => by
          rcases ok.own _ (PySem.mem_of_lookup e) hh with e' | e'
          · obtain ⟨p, hp, hpy⟩ := List.mem_map.mp e'
            have e3 := ok.ix p hp
            have : p.1 = y := hpy
            rw [this] at e3
            exact hne (List.mem_map.mpr ⟨p, hp, nodup_ix hN e3 e1⟩)
          · exact e' (List.mem_of_getElem? e1)
        rcases r with rfl | ⟨rfl, rfl⟩
        · rcases hk' with rfl | rfl | rfl
          · exact absurd (.inl rfl) no
          · exact absurd (.inr rfl) no
          · exact ⟨e, .inr hk0⟩
        · exact ⟨e, .inl hk0⟩
      have e3 : Vis cenv.scope y := e3
      rcases e3 with e3 | e3 | e3
      · exact key _ e3 (.inl rfl)
      · exact key _ e3 (.inr (.inl rfl))
      · exact key _ e3 (.inr (.inr rfl))
    obtain ⟨m, hn, hl⟩ := I.loc
    have hvis : Vis X.env.scope y := (ok.free _ (PySem.mem_of_lookup hfr.1) rfl).elim (fun k => .inr (.inl k)) (fun k => .inr (.inr k))
    obtain ⟨w, r, q⟩ := hl i y av e1 e2 hvis
    refine ⟨w, r, .inr ⟨hfr.2, ?_⟩⟩
    obtain ⟨c, h1, h2⟩ := look hfr.1
    rcases q with ⟨k, _⟩ | ⟨_, c', e', z⟩
    · have k : X.env.scope.names.lookup y = some .local := k
      rcases ok.free _ (PySem.mem_of_lookup hfr.1) rfl with k' | k' <;> rw [show X.env.scope.names.lookup y = _ from k'] at k <;> cases k
    · rw [h2] at e'; cases e'
      exact ⟨c, h1, z.keeps kp⟩
  · have e : cenv.cells.lookup y = some c := e
    rcases mem e with ⟨h1, _⟩ | ⟨_, z⟩
    · obtain ⟨w, z⟩ := I.cell y c h1
      exact ⟨w, z.keeps kp⟩
    · exact ⟨_, z⟩
  · show H cenv.locals = none
    rw [hL]; exact I.hok.fresh (Nat.le_refl _)
  · have e : cenv.cells.lookup y = some c := e
    rcases mem e with ⟨h1, _⟩ | ⟨h1, _⟩
    · exact I.freeC y c h1
    · exact I.hok.fresh (Nat.le_of_succ_le h1)
  · exact absurd (show p ∈ ([] : List (Addr × Obj)) ++ [] from hp) (by simp)


theorem app_ok {E : Value → Shared → Prop} {D : Addr} {xs : List V} {y : V} {v : Value} {Q : Value → Shared → Prop} (I : Inv X pins σ H s) (hD : H D = some (.lst xs)) (hz : xs.length < sizeLine) (r : RelV y v)
    (h : ∀ s', Inv X pins σ (upd H D (.lst (xs ++ [y]))) s' → Q .none s') : wpAny (model X.prog X.w) X.A (call (.builtin "list.append") [.ref D, v]) Q E s := by
  obtain ⟨hz', its, n, ri, e⟩ := I.hok D _ hD
  have hl := ri.length
  refine append_at (hsz := by rw [List.size_toArray]; omega) e fun h' sb ho' => ?_
  refine h { s with heap := h' } (I.write (t' := s.toks) (by rw [hD]; trivial) (.inl rfl) (fun b u hb q => (sb.2 b hb).trans q) ⟨_, ho'⟩ ⟨by rw [List.length_append]; exact hz, its ++ [v], n + 1, ri.append (.cons r .nil), ?_⟩)
  rw [ho']
  simp


structure PTs (X : Cx) (ifs : List Expr) (t : TT) : Prop where
  run :
    ∀ (pins : List (Addr × Obj)) (s : Shared) (σ : St) (H : Hp) (Q : Bool → Hp → Prop), Inv X pins σ H s → t σ H Q →
      wpAny (model X.prog X.w) X.A (forIn ifs true fun c r => if r = true then do let ok ← isTrue c X.env (eval c X.env); pure (ForInStep.yield ok) else pure (ForInStep.yield r)) (TP X pins σ Q) X.xe s
instance {X : Cx} {ifs : List Expr} {t : TT} : CoeFun (PTs X ifs t) (fun _ =>
  ∀ (pins : List (Addr × Obj)) (s : Shared) (σ : St) (H : Hp) (Q : Bool → Hp → Prop), Inv X pins σ H s → t σ H Q →
    wpAny (model X.prog X.w) X.A (forIn ifs true fun c r => if r = true then do let ok ← isTrue c X.env (eval c X.env); pure (ForInStep.yield ok) else pure (ForInStep.yield r)) (TP X pins σ Q) X.xe s) := ⟨PTs.run⟩
noncomputable def tYes : TT := fun _ H Q => Q true H
theorem pts_nil : PTs X [] tYes := ⟨fun _ _ _ H _ I h => wpAny_tests_nil ⟨H, I, h⟩⟩
theorem pts_one {c : Expr} {t : TT} (h : PT X c t) : PTs X [c] t := ⟨fun pins s σ H Q I hw => wpAny_tests_one (h pins s σ H Q I hw)⟩
end

theorem thnF {α : Type} {t : Sem α} {Q Q' : α → Shared → Prop} {M : Model} {A : Around} {E : Value → Shared → Prop} {s : Shared} (h : wpAny M A t Q (fun _ _ => False) s) (hQ : ∀ a s, Q a s → Q' a s) : wpAny M A t Q' E s := wpAny_mono h hQ fun _ _ z => False.elim z


theorem compLoop_any {prog : Program} {w : World} {A : Around} {R : Result → Shared → Prop} {s : Shared} {elt target iter : Expr} {ifs : List Expr} {scope : Scope} {pos : Pos} {it acc : Value} {env : Env} (I : Nat → Shared → Prop)
    (turn : ∀ n s, I n s → wpAny (model prog w) A (pyNext it) (fun r s₁ => match r with
      | none => R (.ok .next) s₁
      | some v => wpAny (model prog w) A (letOwnedTupleGo target it v) (fun _ s₁' => wpAny (model prog w) A (assign target env v) (fun _ s₂ =>
          wpAny (model prog w) A (forIn ifs true fun c r => if r = true then do let ok ← isTrue c env (eval c env); pure (ForInStep.yield ok) else pure (ForInStep.yield r)) (fun ok s₃ =>
            if ok = true then wpAny (model prog w) A (eval elt env) (fun x s₄ =>
              wpAny (model prog w) A (call (.builtin "list.append") [acc, x]) (fun _ s₅ => ∃ m, m < n ∧ I m s₅) (notedBy (model prog w) A env fun e s' => R (.error e) s') s₄) (notedBy (model prog w) A env fun e s' => R (.error e) s') s₃
            else ∃ m, m < n ∧ I m s₃) (notedBy (model prog w) A env fun e s' => R (.error e) s') s₂) (notedBy (model prog w) A env fun e s' => R (.error e) s') s₁') (notedBy (model prog w) A env fun e s' => R (.error e) s') s₁) (notedBy (model prog w) A env fun e s' => R (.error e) s') s)
    (n : Nat) (h : I n s) :
    codeAny (model prog w) A (.compLoop (.ListComp elt [⟨target, iter, ifs, 0⟩] scope pos) 0 it acc env) R s := by
  refine codeAny_loop rfl I (fun n s hI => ?_) n h
  show wpAny _ A ((compTurn (.ListComp elt [⟨target, iter, ifs, 0⟩] scope pos) 0 it acc env).onRaise (fun x => do noteFrame x env; theTreesLotGoes x)) _ _ s
  refine wpAny_noted ?_
  rw [compTurn_list]
  refine wpAny_bind (wpAny_standAt (wpAny_bind (wpAny_mono (turn n s hI) (fun r s₁ h₁ => ?_) fun _ _ h' => h')))
  cases r with
  | none => exact wpAny_pure h₁
  | some v =>
    refine wpAny_bind (wpAny_mono h₁ (fun _ s₁' h₁' => ?_) fun _ _ h' => h')
    refine wpAny_bind (wpAny_mono h₁' (fun _ s₂ h₂ => wpAny_bind (wpAny_mono h₂ (fun ok s₃ h₃ => ?_) fun _ _ h' => h')) fun _ _ h' => h')
    cases ok with
    | false => exact wpAny_pure ⟨rfl, h₃⟩
    | true =>
      exact wpAny_bind (wpAny_bind (wpAny_mono h₃ (fun x s₄ h₄ => wpAny_bind (wpAny_mono h₄ (fun _ s₅ h₅ => wpAny_pure (wpAny_pure ⟨rfl, h₅⟩)) fun _ _ h' => h')) fun _ _ h' => h'))

section
variable {X : Cx}

noncomputable def tLc (wi : TI) (g : TG) (tt : TT) (te : TE) (vs : List Nat) : TE := fun σ H Q => wi σ H fun J H1 => ∀ D, H1 D = none → ∃ W : Nat → Nat → Hp → Prop, (∃ m, W 0 m (upd H1 D (.lst []))) ∧ ∀ i m H, W i m H →
  (J.stop i H ∧ Q (.ref D) H) ∨ (J.go i H ∧ ∃ Nx : Hp → Prop, (∀ H', Nx H' → ∃ m', m' < m ∧ W (i + 1) m' H') ∧ ∀ x H', J.yld i H x H' → g x (wipe σ vs) H' fun σ2 H2 => wipe σ2 vs = wipe σ vs ∧ tt σ2 H2 fun b H3 =>
    if b = true then te σ2 H3 fun y H4 => ∃ acc, H4 D = some (.lst acc) ∧ acc.length < sizeLine ∧ Nx (upd H4 D (.lst (acc ++ [y]))) else Nx H3)
theorem lc_core {pins : List (Addr × Obj)} {s : Shared} {σ : St} {H : Hp} {Q : VK} {elt tg iter : Expr} {ifs : List Expr} {scope : Scope} {own : List (Str × Nat)} {pos pos' : Pos} {wi : TI} {g : TG} {tt : TT} {te : TE} {use : Option (Value → Sem Unit)} {Qf : Value → Shared → Prop}
    (hc : X.calm = true) (hN : X.N.Nodup) (I : Inv X pins σ H s) (hi : PI X tg iter wi) (ok : BlkOk X.N X.env.scope scope own)
    (hg : ∀ (s : Shared) (H : Hp) (C : Addr) (cl : List (Str × Addr)) (fp : List Addr), PG (X.blk s H scope (compEnvC scope cl C X.env) fp) tg g) (ht : ∀ (s : Shared) (H : Hp) (C : Addr) (cl : List (Str × Addr)) (fp : List Addr), PTs (X.blk s H scope (compEnvC scope cl C X.env) fp) ifs tt)
    (he : ∀ (s : Shared) (H : Hp) (C : Addr) (cl : List (Str × Addr)) (fp : List Addr), PE (X.blk s H scope (compEnvC scope cl C X.env) fp) elt te) (hs : ∀ x, foldedSetIterable iter X.env x = pure x)
    (h : tLc wi g tt te (own.map (·.2)) σ H Q)
    (hRR : ∀ D C s' m H', Inv X pins σ H' s' → Q (.ref D) H' → s'.heap.Ns C m → FpOk X pins H' C → compPost (model X.prog X.w) X.A X.xe use Qf (.ref D) C (.ok .next) s') :
    wpAny (model X.prog X.w) X.A (comprehension (.ListComp elt [⟨tg, iter, ifs, 0⟩] scope pos) scope X.env pos' (newList []) false (eval iter X.env) use) Qf X.xe s := by
  have hfree : ∀ y ∈ scope.names, y.2 = .free → ∃ c, X.env.cells.lookup y.1 = some c := fun y hy e => by
    rcases ok.free y hy e with k | k
    · exact I.ok.has _ (.inl k)
    · exact I.ok.has _ (.inr k)
  refine wpAny_comprehension_free (use := use) rfl hs (closure_ok hfree) ok.kind (fun y hy e => by rw [ok.uniq y hy, e])
    (thn (hi pins s σ H _ I h) fun xv s1 hx => thn hx fun itv s2 h2 => ?_)
  obtain ⟨it, fp, tn, J, H2, e, I2, T, st2, f2, q⟩ := h2
  subst e
  refine wpAny_newObj_type (newEnv_comp ?_) (by show 0 ≤ sizeLine; decide)
  generalize hD : s2.heap.objs.size = D
  have hDn : H2 D = none := I2.hok.fresh (Nat.le_of_eq hD)
  obtain ⟨W, ⟨m0, w0⟩, turn⟩ := q D hDn
  -- the new list
  generalize hs3 : ({ s2 with heap := s2.heap.push { cls := .type "list", data := .seq ([] : List Value).toArray } } : Shared) = s3
  have I3 : Inv X pins σ (upd H2 D (.lst [])) s3 := by
    rw [← hs3]
    refine I2.laid (t' := s2.toks) (fun b o e => Heap.get?_push_of_some _ e) (Nat.le_of_eq hD) ⟨Nat.zero_le _, [], 0, .nil, ?_⟩
    rw [← hD]
    exact Heap.get?_push_size _ rfl
  have h3 : s3.heap = s2.heap.push { cls := .type "list", data := .seq ([] : List Value).toArray } := by rw [← hs3]
  have sz : ∀ b ∈ fp, b < s2.heap.objs.size := fun b hb => by
    obtain ⟨o, e, _⟩ := T.obj _ _ st2 b hb
    exact Heap.lt_size e
  have f3 : ∀ b ∈ fp, FpOk X pins (upd H2 D (.lst [])) b ∧ b < s3.heap.objs.size := fun b hb => by
    have hlt := sz b hb
    refine ⟨⟨?_, (f2 b hb).2⟩, by rw [h3, Heap.size_push]; exact Nat.lt_succ_of_lt hlt⟩
    rw [upd_ne (by rw [← hD]; exact Nat.ne_of_lt hlt)]
    exact (f2 b hb).1
  have st3 : tn 0 s3.heap := T.keep _ _ _ st2 fun b _ o e => by rw [h3]; exact Heap.get?_push_of_some _ e
  have I4 := block_start I3 ok hN f3
  have pg := hg s3 (upd H2 D (.lst [])) s3.heap.objs.size (cellsFrom (s3.heap.objs.size + 1) scope.names (cloFrom X.env.cells scope.names [])) fp
  have pt := ht s3 (upd H2 D (.lst [])) s3.heap.objs.size (cellsFrom (s3.heap.objs.size + 1) scope.names (cloFrom X.env.cells scope.names [])) fp
  have pe := he s3 (upd H2 D (.lst [])) s3.heap.objs.size (cellsFrom (s3.heap.objs.size + 1) scope.names (cloFrom X.env.cells scope.names [])) fp
  show codeAny _ _ (.compStart (.ListComp elt [⟨tg, iter, ifs, 0⟩] scope pos) 0 (.ref it) (.ref D) (compEnvC scope (cellsFrom (s3.heap.objs.size + 1) scope.names (cloFrom X.env.cells scope.names [])) s3.heap.objs.size X.env)) (compPost (model X.prog X.w) X.A X.xe use Qf (.ref D) s3.heap.objs.size) { s3 with heap := pushCells (s3.heap.push { cls := .type "dict", data := .dict #[] }) scope.names }
  have nfp : ∀ b ∈ fp, (upd H2 D (.lst [])) b = none := fun b hb => (f3 b hb).1.1
  generalize hce : compEnvC scope (cellsFrom (s3.heap.objs.size + 1) scope.names (cloFrom X.env.cells scope.names [])) s3.heap.objs.size X.env = ce at I4 pg pt pe ⊢
  have cL : ce.locals = s3.heap.objs.size := by subst hce; rfl
  generalize hH3 : upd H2 D (.lst []) = H3 at I3 I4 pg pt pe w0 nfp f3
  generalize hs4 : ({ s3 with heap := pushCells (s3.heap.push { cls := .type "dict", data := .dict #[] }) scope.names } : Shared) = s4 at I4 ⊢
  have st4 : tn 0 s4.heap := T.keep _ _ _ st3 fun b _ o e => by rw [← hs4]; exact pushCells_keeps _ _ _ _ (Heap.get?_push_of_some _ e)
  have stat : ∀ {σ' : St} {H' : Hp} {s' : Shared}, Inv (X.blk s3 H3 scope ce fp) [] σ' H' s' → (∀ b ∈ fp, H' b = none) → ∀ b ∈ fp, FpOk (X.blk s3 H3 scope ce fp) [] H' b := fun {σ' H' s'} I' hn b hb =>
    ⟨hn b hb, (I'.ok.exf b hb).1, I'.ok.exfs b hb, .inl hb, fun x c e => (I'.ok.exf b hb).2 x c e, fun p hp => absurd (show p ∈ ([] : List (Addr × Obj)) ++ [] from hp) (by simp)⟩
  have loop : codeAny (model X.prog X.w) X.A (.compLoop (.ListComp elt [⟨tg, iter, ifs, 0⟩] scope pos) 0 (.ref it) (.ref D) ce) (compPost (model X.prog X.w) X.A X.xe use Qf (.ref D) s3.heap.objs.size) s4 := by
    refine compLoop_any (fun n s' => ∃ i H', Inv (X.blk s3 H3 scope ce fp) [] (wipe σ (own.map (·.2))) H' s' ∧ tn i s'.heap ∧ (∀ b ∈ fp, H' b = none) ∧ W i n H') ?_ m0 ⟨0, H3, I4, st4, nfp, w0⟩
    rintro n s5 ⟨i, H5, I5, st5, n5, w5⟩
    rcases turn i n H5 w5 with ⟨stop, qq⟩ | ⟨go, Nx, hNx, step⟩
    · have td := T.done (X.blk s3 H3 scope ce fp) rfl rfl rfl hc i [] s5 _ H5 (fun _ _ => False) I5 (stat I5 n5) st5 stop
      refine thnF td fun r s6 ⟨hr, I6⟩ => ?_
      subst hr
      -- back in the def's context
      have I7 : Inv X pins σ H5 s6 := I3.call' (ch := fp) I6.os I6.base I6.hok I6.bare fun b hb => ⟨(f3 b hb).1.2.2.2.1, (f3 b hb).1.2.1, (f3 b hb).1.2.2.2.2.1, (f3 b hb).1.2.2.2.2.2⟩
      have nC : H5 s3.heap.objs.size = none := by
        have z : H5 ce.locals = none := I6.free
        rw [cL] at z
        exact z
      obtain ⟨m, hn, _⟩ := I6.loc
      have hn : s6.heap.Ns ce.locals m := hn
      rw [cL] at hn
      exact hRR D s3.heap.objs.size s6 m H5 I7 qq hn (I3.fpOk (Nat.le_refl _) nC)
    · have ti := T.item (X.blk s3 H3 scope ce fp) rfl rfl rfl hc i [] s5 _ H5 (fun _ _ => False) I5 (stat I5 n5) st5 go
      refine thnF ti fun r s6 ⟨u, hr, h6⟩ => ?_
      subst hr
      refine thnF h6 fun _ s7 ⟨x, H7, I7, r7, y7, st7, n7⟩ => ?_
      have I7' := I7.pinned (stat I7 n7) (T.obj _ _ st7)
      refine thnF (pg _ s7 _ H7 x u _ I7' r7 (step x H7 y7)) fun _ s8 ⟨σ8, H8, I8, hw8, q8⟩ => ?_
      refine thnF (pt _ s8 σ8 H8 _ I8 q8) fun b s9 ⟨H9, I9, q9⟩ => ?_
      -- the turn's end
      have fin : ∀ {s' : Shared} {H' : Hp}, Inv (X.blk s3 H3 scope ce fp) ([] ++ pinsAt fp s7.heap) σ8 H' s' → Nx H' → ∃ m, m < n ∧ ∃ i H', Inv (X.blk s3 H3 scope ce fp) [] (wipe σ (own.map (·.2))) H' s' ∧ tn i s'.heap ∧ (∀ b ∈ fp, H' b = none) ∧ W i m H' := fun {s' H'} I' nx => by
        obtain ⟨m', hm, w'⟩ := hNx H' nx
        have pin' : ∀ b ∈ fp, ∀ o, s7.heap.get? b = some o → s'.heap.get? b = some o ∧ H' b = none := fun b hb o e =>
          let z := I'.pin (b, o) (List.mem_append_right _ (List.mem_append_right _ (mem_pinsAt hb e)))
          ⟨z.1, z.2.1⟩
        have hl : (wipe σ (own.map (·.2))).length = σ8.length := by rw [← hw8, wipe_length]
        refine ⟨m', hm, i + 1, H', (I'.unpinned (pins := [])).weak hl (fun j v e => ?_), T.keep _ _ _ st7 fun b hb o e => (pin' b hb o e).1, fun b hb => ?_, w'⟩
        · rw [← hw8] at e
          exact (wipe_some e).1
        · obtain ⟨o, e, _⟩ := T.obj _ _ st7 b hb
          exact (pin' b hb o e).2
      cases b with
      | false =>
        simp only [Bool.false_eq_true, if_false] at q9 ⊢
        exact fin I9 q9
      | true =>
        simp only [if_true] at q9 ⊢
        refine thnF (pe _ s9 σ8 H9 _ I9 q9) fun z s10 ⟨yv, H10, I10, r10, acc, hD10, hz10, nx⟩ => ?_
        exact app_ok (X := X.blk s3 H3 scope ce fp) I10 hD10 hz10 r10 fun s11 I11 => fin I11 nx
  exact codeAny_compStart_list loop (T.self X.A 0 _ _ _ st4 loop)

theorem pe_lc {elt tg iter : Expr} {ifs : List Expr} {scope : Scope} {own : List (Str × Nat)} {pos : Pos} {wi : TI} {g : TG} {tt : TT} {te : TE} (hc : X.calm = true) (hN : X.N.Nodup) (hi : PI X tg iter wi) (ok : BlkOk X.N X.env.scope scope own)
    (hg : ∀ (s : Shared) (H : Hp) (C : Addr) (cl : List (Str × Addr)) (fp : List Addr), PG (X.blk s H scope (compEnvC scope cl C X.env) fp) tg g) (ht : ∀ (s : Shared) (H : Hp) (C : Addr) (cl : List (Str × Addr)) (fp : List Addr), PTs (X.blk s H scope (compEnvC scope cl C X.env) fp) ifs tt)
    (he : ∀ (s : Shared) (H : Hp) (C : Addr) (cl : List (Str × Addr)) (fp : List Addr), PE (X.blk s H scope (compEnvC scope cl C X.env) fp) elt te) (hs : ∀ x, foldedSetIterable iter X.env x = pure x := by intro _; rfl) :
    PE X (.ListComp elt [⟨tg, iter, ifs, 0⟩] scope pos) (tLc wi g tt te (own.map (·.2))) := by
  constructor
  intro pins s σ H Q I h
  rw [eval_ListComp]
  refine lc_core hc hN I hi ok hg ht he hs h fun D C s' m H' I' q hn f => ⟨m, hn, fun h'' sb => ?_⟩
  obtain ⟨f0, f1, f2, f3, f4, f5⟩ := f
  exact ⟨.ref D, H', I'.turned (t' := s'.toks) (fun b o hb e => (sb.2 b hb).trans e) f0 f1 f3 f4 f5, rfl, q⟩

theorem ps_setLc {i : Nat} {y : Str} {py : Pos} {elt tg iter : Expr} {ifs : List Expr} {scope : Scope} {own : List (Str × Nat)} {pos spos : Pos} {wi : TI} {g : TG} {tt : TT} {te : TE} (hc : X.calm = true) (hN : X.N.Nodup) (hy : X.N[i]? = some y) (hyl : X.env.scope.names.lookup y = some .local)
    (hsw : swapsWith (.ListComp elt [⟨tg, iter, ifs, 0⟩] scope pos) (some (.Name y py)) spos.line X.env = pure true) (hi : PI X tg iter wi) (ok : BlkOk X.N X.env.scope scope own)
    (hg : ∀ (s : Shared) (H : Hp) (C : Addr) (cl : List (Str × Addr)) (fp : List Addr), PG (X.blk s H scope (compEnvC scope cl C X.env) fp) tg g) (ht : ∀ (s : Shared) (H : Hp) (C : Addr) (cl : List (Str × Addr)) (fp : List Addr), PTs (X.blk s H scope (compEnvC scope cl C X.env) fp) ifs tt)
    (he : ∀ (s : Shared) (H : Hp) (C : Addr) (cl : List (Str × Addr)) (fp : List Addr), PE (X.blk s H scope (compEnvC scope cl C X.env) fp) elt te) (hs : ∀ x, foldedSetIterable iter X.env x = pure x := by intro _; rfl) :
    PS X (.Assign [.Name y py] (.ListComp elt [⟨tg, iter, ifs, 0⟩] scope pos) spos) (tAsg (tLc wi g tt te (own.map (·.2))) (gName i)) := by
  constructor
  intro pins s σ H D I h
  rw [exec_Assign_Name_used _ _ _ _ hsw]
  refine wpAny_bind (wpAny_standAt (wpAny_bind ?_))
  show wpAny _ X.A (do let _ ← comprehension (.ListComp elt [⟨tg, iter, ifs, 0⟩] scope pos) scope X.env (firstIterPos [⟨tg, iter, ifs, 0⟩] pos) (newList []) false (eval iter X.env) (some (assign (.Name y py) X.env))) _ _ s
  have h : tLc wi g tt te (own.map (·.2)) σ H (fun x H1 => gName i x σ H1 D.nx) := h
  refine wpAny_bind (thn (lc_core (Qf := fun _ s' => SP X pins D .next s') hc hN I hi ok hg ht he hs h fun L C s' m H' I' q hn f => ?_) fun _ s' hq => wpAny_pure (wpAny_pure hq))
  show wpAny _ _ (assign (.Name y py) X.env (.ref L)) _ _ _
  refine wpAny_assign_Name (store_ok2 (v := V.ref L) I' hN hy (.inl hyl) rfl (fun s2 I2 ⟨a, sb, ha⟩ => ?_) (.inr hyl))
  obtain ⟨f0, f1, f2, f3, f4, f5⟩ := f
  have haC : C ≠ a := by
    rcases ha with z | z
    · rw [z]; exact f1
    · exact fun e => f4 y a z e.symm
  refine ⟨m, hn.sameBut sb haC, fun h3 sb3 => ?_⟩
  exact ⟨_, H', I2.turned (t' := s2.toks) (fun b o hb e => (sb3.2 b hb).trans e) f0 f1 f3 f4 f5, q⟩
theorem sw_true {elt : Expr} {gs : List Comprehension} {scope : Scope} {pos py : Pos} {y : Str} {l : Nat} {env : Env} (hk : env.scope.kind = .function) (hy : env.scope.names.lookup y = some .local) (hl : (py.line == pos.line) = true)
    (ha : (scope.names.any fun (n, k) => n == y && (k == .local || k == .cell)) = false) : swapsWith (.ListComp elt gs scope pos) (some (.Name y py)) l env = pure true := by
  have ky : env.kindOf y = some .local := hy
  have hb : env.blockKind = .function := by unfold Env.blockKind; rw [hk]; rfl
  unfold swapsWith
  simp only [hb, ky, ha, Expr.pos, hl]
  rfl
end



theorem lc_range {lo : Int} {n : Nat} {g : TG} {tt : TT} {te : TE} {vs : List Nat} {σ : St} {H1 : Hp} {D : Addr} {Qd : Hp → Prop} (Pv : Nat → Hp → Prop) (h0 : Pv 0 (upd H1 D (.lst [])))
    (hs : ∀ i H, i < n → Pv i H → g (.int (lo + i)) (wipe σ vs) H fun σ2 H2 => wipe σ2 vs = wipe σ vs ∧ tt σ2 H2 fun b H3 =>
      if b = true then te σ2 H3 fun y H4 => ∃ acc, H4 D = some (.lst acc) ∧ acc.length < sizeLine ∧ Pv (i + 1) (upd H4 D (.lst (acc ++ [y]))) else Pv (i + 1) H3) (hd : ∀ H, Pv n H → Qd H) :
    ∃ W : Nat → Nat → Hp → Prop, (∃ m, W 0 m (upd H1 D (.lst []))) ∧ ∀ i m H, W i m H →
      ((Itr lo n).stop i H ∧ Qd H) ∨ ((Itr lo n).go i H ∧ ∃ Nx : Hp → Prop, (∀ H', Nx H' → ∃ m', m' < m ∧ W (i + 1) m' H') ∧ ∀ x H', (Itr lo n).yld i H x H' → g x (wipe σ vs) H' fun σ2 H2 => wipe σ2 vs = wipe σ vs ∧ tt σ2 H2 fun b H3 =>
        if b = true then te σ2 H3 fun y H4 => ∃ acc, H4 D = some (.lst acc) ∧ acc.length < sizeLine ∧ Nx (upd H4 D (.lst (acc ++ [y]))) else Nx H3) := by
  refine ⟨fun i m H => m = n - i ∧ i ≤ n ∧ Pv i H, ⟨n, by simp, Nat.zero_le _, h0⟩, ?_⟩
  rintro i m H ⟨rfl, hi, p⟩
  by_cases hlt : i < n
  · refine .inr ⟨hlt, Pv (i + 1), fun H' p' => ⟨n - (i + 1), by omega, rfl, hlt, p'⟩, fun x H' y => ?_⟩
    obtain ⟨e, y⟩ := y
    subst e y
    exact hs i _ hlt p
  · have e : i = n := by omega
    subst e
    exact .inl ⟨Nat.le_refl _, hd H p⟩

theorem lc_list {K : PySem.W.Frag} {a : Addr} {xs : List V} {g : TG} {tt : TT} {te : TE} {vs : List Nat} {σ : St} {H1 : Hp} {D : Addr} {Qd : Hp → Prop} (Pv : Nat → Hp → Prop) (h0 : Pv 0 (upd H1 D (.lst []))) (hl : ∀ i H, i ≤ xs.length → Pv i H → SqL K H a xs)
    (hs : ∀ i x H, xs[i]? = some x → Pv i H → g x (wipe σ vs) H fun σ2 H2 => wipe σ2 vs = wipe σ vs ∧ tt σ2 H2 fun b H3 =>
      if b = true then te σ2 H3 fun y H4 => ∃ acc, H4 D = some (.lst acc) ∧ acc.length < sizeLine ∧ Pv (i + 1) (upd H4 D (.lst (acc ++ [y]))) else Pv (i + 1) H3) (hd : ∀ H, Pv xs.length H → Qd H) :
    ∃ W : Nat → Nat → Hp → Prop, (∃ m, W 0 m (upd H1 D (.lst []))) ∧ ∀ i m H, W i m H →
      ((Itl K a).stop i H ∧ Qd H) ∨ ((Itl K a).go i H ∧ ∃ Nx : Hp → Prop, (∀ H', Nx H' → ∃ m', m' < m ∧ W (i + 1) m' H') ∧ ∀ x H', (Itl K a).yld i H x H' → g x (wipe σ vs) H' fun σ2 H2 => wipe σ2 vs = wipe σ vs ∧ tt σ2 H2 fun b H3 =>
        if b = true then te σ2 H3 fun y H4 => ∃ acc, H4 D = some (.lst acc) ∧ acc.length < sizeLine ∧ Nx (upd H4 D (.lst (acc ++ [y]))) else Nx H3) := by
  refine ⟨fun i m H => m = xs.length - i ∧ i ≤ xs.length ∧ Pv i H, ⟨xs.length, by simp, Nat.zero_le _, h0⟩, ?_⟩
  rintro i m H ⟨rfl, hi, p⟩
  have q := hl i H hi p
  by_cases hlt : i < xs.length
  · refine .inr ⟨⟨xs, xs[i], q, by simp [hlt]⟩, Pv (i + 1), fun H' p' => ⟨xs.length - (i + 1), by omega, rfl, hlt, p'⟩, fun x H' y => ?_⟩
    obtain ⟨e, y⟩ := y
    subst e
    exact hs i x _ (y xs q) p
  · have e : i = xs.length := by omega
    subst e
    exact .inl ⟨⟨xs, q, Nat.le_refl _⟩, hd H p⟩

theorem lc_tup {K : PySem.W.Frag} {a : Addr} {xs : List V} {g : TG} {tt : TT} {te : TE} {vs : List Nat} {σ : St} {H1 : Hp} {D : Addr} {Qd : Hp → Prop} (Pv : Nat → Hp → Prop) (h0 : Pv 0 (upd H1 D (.lst []))) (hl : ∀ i H, i ≤ xs.length → Pv i H → SqT K H a xs)
    (hs : ∀ i x H, xs[i]? = some x → Pv i H → g x (wipe σ vs) H fun σ2 H2 => wipe σ2 vs = wipe σ vs ∧ tt σ2 H2 fun b H3 =>
      if b = true then te σ2 H3 fun y H4 => ∃ acc, H4 D = some (.lst acc) ∧ acc.length < sizeLine ∧ Pv (i + 1) (upd H4 D (.lst (acc ++ [y]))) else Pv (i + 1) H3) (hd : ∀ H, Pv xs.length H → Qd H) :
    ∃ W : Nat → Nat → Hp → Prop, (∃ m, W 0 m (upd H1 D (.lst []))) ∧ ∀ i m H, W i m H →
      ((Itt K a).stop i H ∧ Qd H) ∨ ((Itt K a).go i H ∧ ∃ Nx : Hp → Prop, (∀ H', Nx H' → ∃ m', m' < m ∧ W (i + 1) m' H') ∧ ∀ x H', (Itt K a).yld i H x H' → g x (wipe σ vs) H' fun σ2 H2 => wipe σ2 vs = wipe σ vs ∧ tt σ2 H2 fun b H3 =>
        if b = true then te σ2 H3 fun y H4 => ∃ acc, H4 D = some (.lst acc) ∧ acc.length < sizeLine ∧ Nx (upd H4 D (.lst (acc ++ [y]))) else Nx H3) := by
  refine ⟨fun i m H => m = xs.length - i ∧ i ≤ xs.length ∧ Pv i H, ⟨xs.length, by simp, Nat.zero_le _, h0⟩, ?_⟩
  rintro i m H ⟨rfl, hi, p⟩
  have q := hl i H hi p
  by_cases hlt : i < xs.length
  · refine .inr ⟨⟨xs, xs[i], q, by simp [hlt]⟩, Pv (i + 1), fun H' p' => ⟨xs.length - (i + 1), by omega, rfl, hlt, p'⟩, fun x H' y => ?_⟩
    obtain ⟨e, y⟩ := y
    subst e
    exact hs i x _ (y xs q) p
  · have e : i = xs.length := by omega
    subst e
    exact .inl ⟨⟨xs, q, Nat.le_refl _⟩, hd H p⟩
noncomputable def blkC (N : List Str) (sc scope : Scope) (own : List (Str × Nat)) : Bool :=
  (match scope.kind with | .function => true | _ => false) && (scope.names.all fun y => decide (scope.names.lookup y.1 = some y.2)) && (own.all fun p => decide (N[p.2]? = some p.1)) &&
    (scope.names.all fun y => match y.2 with
      | .free => (match sc.names.lookup y.1 with | some .cell => true | some .free => true | _ => false)
      | .local => decide (y.1 ∈ own.map (·.1)) || decide (y.1 ∉ N)
      | .cell => decide (y.1 ∈ own.map (·.1)) || decide (y.1 ∉ N)
      | _ => true)
theorem blkOk_by {N : List Str} {sc scope : Scope} {own : List (Str × Nat)} (h : blkC N sc scope own = true) : BlkOk N sc scope own := by
  unfold blkC at h
  simp only [Bool.and_eq_true, List.all_eq_true, decide_eq_true_eq] at h
  obtain ⟨⟨⟨h1, h2⟩, h3⟩, h4⟩ := h
  refine ⟨?_, h2, h3, fun y hy e => ?_, fun y hy e => ?_⟩
  · split at h1
    · assumption
    · cases h1
  · have q := h4 y hy
    simp only [e] at q
    split at q <;> first | exact .inl (by assumption) | exact .inr (by assumption) | cases q
  · have q := h4 y hy
    rcases e with e | e <;> (simp only [e, Bool.or_eq_true, decide_eq_true_eq] at q; exact q)
end L2

namespace L2
open PySem PySem.Spec PyProof.Rows

section
variable {prog : Program} {w : World} {A : Around} {R : Result → Shared → Prop} {s : Shared} {elt t0 i0 t1 i1 : Expr} {ifs0 ifs1 : List Expr} {scope : Scope} {pos : Pos} {it acc : Value} {env : Env}

end

section
variable {X : Cx}

end
end L2

namespace L2
open PySem PySem.Spec PyProof.Rows


section
variable {κ : Type} [DecidableEq κ]
noncomputable def valV (kvs : List (κ × V)) (k : κ) : Option V := (kvs.find? fun kv => decide (kv.1 = k)).map (·.2)

noncomputable def putK (kvs : List (κ × V)) (k : κ) (v : V) : List (κ × V) :=
  if (kvs.any fun kv => decide (kv.1 = k)) = true then kvs.map (fun kv => if kv.1 = k then (kv.1, v) else kv) else kvs ++ [(k, v)]
theorem valV_pos {p : κ × V} {r : List (κ × V)} {k : κ} (e : p.1 = k) : valV (p :: r) k = some p.2 := by simp [valV, List.find?_cons, e]
theorem valV_neg {p : κ × V} {r : List (κ × V)} {k : κ} (e : ¬ p.1 = k) : valV (p :: r) k = valV r k := by simp [valV, List.find?_cons, e]
theorem valV_any (k : κ) : ∀ kvs : List (κ × V), (kvs.any fun kv => decide (kv.1 = k)) = (valV kvs k).isSome
  | [] => rfl
  | p :: r => by
    rw [List.any_cons]
    by_cases e : p.1 = k
    · simp only [valV_pos e, decide_eq_true e, Bool.true_or, Option.isSome_some]
    · rw [valV_neg e, decide_eq_false e, Bool.false_or]; exact valV_any k r
theorem valV_map (k j : κ) (y : V) : ∀ kvs : List (κ × V), valV (kvs.map fun kv => if kv.1 = k then (kv.1, y) else kv) j = (valV kvs j).map fun x => if j = k then y else x
  | [] => rfl
  | p :: r => by
    have ih := valV_map k j y r
    rw [List.map_cons]
    by_cases h : p.1 = k
    · rw [if_pos h]
      by_cases e : p.1 = j
      · rw [valV_pos (p := (p.1, y)) e, valV_pos e, Option.map_some, if_pos (e.symm.trans h)]
      · rw [valV_neg (p := (p.1, y)) e, valV_neg e, ih]
    · rw [if_neg h]
      by_cases e : p.1 = j
      · rw [valV_pos (p := p) e, valV_pos e, Option.map_some, if_neg (fun z => h (e.trans z))]
      · rw [valV_neg (p := p) e, valV_neg e, ih]
theorem valV_snoc (k j : κ) (y : V) : ∀ kvs : List (κ × V), valV kvs k = none → valV (kvs ++ [(k, y)]) j = if j = k then some y else valV kvs j
  | [], _ => by
    by_cases e : k = j
    · rw [if_pos e.symm]; exact valV_pos (p := (k, y)) e
    · rw [if_neg (fun z => e z.symm)]; exact valV_neg (p := (k, y)) e
  | p :: r, hn => by
    rw [List.cons_append]
    have hk : ¬ p.1 = k := fun z => by rw [valV_pos z] at hn; cases hn
    rw [valV_neg hk] at hn
    have ih := valV_snoc k j y r hn
    by_cases e : p.1 = j
    · rw [valV_pos e, valV_pos e, if_neg (fun z => hk (e.trans z))]
    · rw [valV_neg e, valV_neg e, ih]
theorem valV_put (kvs : List (κ × V)) (k j : κ) (y : V) : valV (putK kvs k y) j = if j = k then some y else valV kvs j := by
  unfold putK
  by_cases a : (kvs.any fun kv => decide (kv.1 = k)) = true
  · rw [if_pos a, valV_map]
    rw [valV_any] at a
    by_cases e : j = k
    · obtain ⟨x, hx⟩ := Option.isSome_iff_exists.mp a
      rw [if_pos e, e, hx, Option.map_some, if_pos rfl]
    · rw [if_neg e]
      cases valV kvs j with
      | none => rfl
      | some x => rw [Option.map_some, if_neg e]
  · rw [if_neg a]
    refine valV_snoc k j y kvs ?_
    rw [valV_any] at a
    cases q : valV kvs k with
    | none => rfl
    | some x => rw [q] at a; exact (a rfl).elim
theorem length_putK (kvs : List (κ × V)) (k : κ) (v : V) : (putK kvs k v).length ≤ kvs.length + 1 := by
  unfold putK
  split
  · rw [List.length_map]; omega
  · rw [List.length_append, List.length_cons, List.length_nil]; omega
theorem KV.val {kvs : List (κ × V)} {vs : List (κ × Value)} (r : KV kvs vs) (k : κ) : RelO (valV kvs k) (valueAt vs k) := by
  unfold KV at r
  induction r with
  | nil => exact True.intro
  | @cons p q ps qs h t ih =>
    obtain ⟨h1, h2⟩ := h
    by_cases e : p.1 = k
    · have e' : q.1 = k := h1.symm.trans e
      have b : valueAt (q :: qs) k = some q.2 := by simp [valueAt, List.find?_cons, e']
      rw [valV_pos e, b]; exact h2
    · have e' : ¬ q.1 = k := fun z => e (h1.trans z)
      have b : valueAt (q :: qs) k = valueAt qs k := by simp [valueAt, List.find?_cons, e']
      rw [valV_neg e, b]; exact ih
theorem KV.any {kvs : List (κ × V)} {vs : List (κ × Value)} (r : KV kvs vs) (k : κ) : (kvs.any fun kv => decide (kv.1 = k)) = vs.any fun kv => decide (kv.1 = k) := by
  unfold KV at r
  induction r with
  | nil => rfl
  | cons h t ih => rw [List.any_cons, List.any_cons, ih, h.1]
theorem KV.repl {kvs : List (κ × V)} {vs : List (κ × Value)} (r : KV kvs vs) (k : κ) {y : V} {u : Value} (ry : RelV y u) :
    KV (kvs.map fun kv => if kv.1 = k then (kv.1, y) else kv) (vs.map fun kv => if kv.1 = k then (kv.1, u) else kv) := by
  unfold KV at r ⊢
  induction r with
  | nil => exact .nil
  | @cons p q ps qs h t ih =>
    rw [List.map_cons, List.map_cons]
    refine .cons ?_ ih
    obtain ⟨h1, h2⟩ := h
    by_cases e : p.1 = k
    · rw [if_pos e, if_pos (h1.symm.trans e)]; exact ⟨h1, ry⟩
    · rw [if_neg e, if_neg (fun z => e (h1.trans z))]; exact ⟨h1, h2⟩
theorem KV.put {kvs : List (κ × V)} {vs : List (κ × Value)} (r : KV kvs vs) (k : κ) {y : V} {u : Value} (ry : RelV y u) : KV (putK kvs k y) (stored vs k u) := by
  unfold putK stored
  rw [r.any k]
  by_cases e : (vs.any fun kv => decide (kv.1 = k)) = true
  · rw [if_pos e, if_pos e]; exact r.repl k ry
  · rw [if_neg e, if_neg e]; exact Paired.snoc r ⟨rfl, ry⟩
theorem KV.length {kvs : List (κ × V)} {vs : List (κ × Value)} (r : KV kvs vs) : kvs.length = vs.length := Paired.length r
end



theorem kV_is {P : Program} {w : World} {k : Key} {u : Value} (r : RelV (kV k) u) : (mixKind P w).is k u = true := by
  cases k with
  | inl i => obtain ⟨t, e⟩ := (show ∃ t, u = Value.int i t from r); subst e; exact mixKind_int P w i t
  | inr x => obtain ⟨t, e⟩ := (show ∃ t, u = Value.str x t from r); subst e; exact mixKind_str P w x t
theorem items_are {P : Program} {w : World} : ∀ {ks : List Key} {us : List Value}, Vals (ks.map kV) us → ItemsAre (mixKind P w) ks us
  | [], _, r => by rw [List.map_nil] at r; cases r; exact .nil
  | k :: ks, _, r => by
    rw [List.map_cons] at r
    cases r with
    | cons h t => exact .cons (kV_is h) (items_are t)


noncomputable abbrev KT (H : Hp) : List (List Key × V) → List (List Key × Addr × Value) → Prop := Paired fun p q => p.1 = q.1 ∧ H q.2.1 = some (.tup (p.1.map kV)) ∧ RelV p.2 q.2.2
theorem KT.val {H : Hp} {kvs : List (List Key × V)} {xs : List (List Key × Addr × Value)} (r : KT H kvs xs) (k : List Key) : RelO (valV kvs k) ((atKey xs k).map (·.2)) := by
  induction r with
  | nil => exact True.intro
  | @cons p q ps qs h t ih =>
    obtain ⟨h1, _, h2⟩ := h
    by_cases e : p.1 = k
    · have e' : q.1 = k := h1.symm.trans e
      have b : atKey (q :: qs) k = some q.2 := by simp [atKey, List.find?_cons, e']
      rw [valV_pos e, b]; exact h2
    · have e' : ¬ q.1 = k := fun z => e (h1.trans z)
      have b : atKey (q :: qs) k = atKey qs k := by simp [atKey, List.find?_cons, e']
      rw [valV_neg e, b]; exact ih
section
variable {P : Program} {w : World} {H : Hp} {h : Heap} {a : Addr}
theorem rd_of {u : HO} (ok : HOk P w H h) (e : Rd H a u) : ObjOk P w H h a u := e.ok ok
theorem dk_rd {kvs : List (Key × V)} (ok : HOk P w H h) (e : Rd H a (.dK kvs)) : kvs.length ≤ sizeLine ∧ (a == sysModules) = false ∧ ∃ vs, KV kvs vs ∧ h.DictOf (mixKind P w) a vs :=
  show ObjOk P w H h a (.dK kvs) from rd_of ok e
theorem dk_of {kvs : List (Key × V)} (ok : HOk P w H h) (e : H a = some (.dK kvs)) : kvs.length ≤ sizeLine ∧ (a == sysModules) = false ∧ ∃ vs, KV kvs vs ∧ h.DictOf (mixKind P w) a vs := dk_rd ok (.inl e)

theorem key_of {ks : List Key} (ok : HOk P w H h) (e : H a = some (.tup (ks.map kV))) : (tupleKind (mixKind P w)).is h ks a := by
  obtain ⟨_, its, r, o, h1, h2, ⟨n, h3⟩, _⟩ := (show ObjOk P w H h a (.tup (ks.map kV)) from ok a _ e)
  exact ⟨o, its.toArray, n, h1, h2, h3, by simpa using items_are r⟩
theorem dt_rd {kvs : List (List Key × V)} (ok : HOk P w H h) (e : Rd H a (.dT kvs)) : kvs.length ≤ sizeLine ∧ (a == sysModules) = false ∧
    ∃ xs, KT H kvs xs ∧ h.DictOfH (tupleKind (mixKind P w)) a xs := by
  obtain ⟨z, y, xs, r, o, es, ep, h1, h2, h3, h4, h5⟩ := (show ObjOk P w H h a (.dT kvs) from rd_of ok e)
  refine ⟨z, y, xs, r, o, es, ep, h1, h2, h3, h4, fun x hx => ?_, h5⟩
  have all : ∀ {l : List (List Key × V)} {m : List (List Key × Addr × Value)}, KT H l m → ∀ x ∈ m, (tupleKind (mixKind P w)).is h x.1 x.2.1 := by
    intro l m q
    induction q with
    | nil => intro x hx; exact nomatch hx
    | @cons p q ps qs hq t ih =>
      intro x hx
      rcases List.mem_cons.mp hx with e | hx
      · subst e
        exact key_of ok (by rw [← hq.1]; exact hq.2.1)
      · exact ih x hx
  exact all r x hx
end


noncomputable def DGet (H : Hp) (a : Addr) (y : V) (r : Option V) : Prop :=
  (∃ kvs k, Rd H a (.dK kvs) ∧ y = kV k ∧ r = valV kvs k) ∨ ∃ kvs k b, Rd H a (.dT kvs) ∧ y = .ref b ∧ H b = some (.tup (k.map kV)) ∧ r = valV kvs k

theorem DGet.k {H : Hp} {a : Addr} {kvs : List (Key × V)} {k : Key} (e : H a = some (.dK kvs)) : DGet H a (kV k) (valV kvs k) := .inl ⟨kvs, k, .inl e, rfl, rfl⟩
section
variable {X : Cx} {pins : List (Addr × Obj)} {σ : St} {H : Hp} {s : Shared} {a : Addr} {y v : V} {u r : Value} {o : Option V} {A : Around} {E : Value → Shared → Prop}

theorem Inv.big (I : Inv X pins σ H s) : sysModules < s.heap.objs.size := by
  have h : mainGlobals < s.heap.objs.size := (I.mod.glob.keeps I.bk).lt
  exact Nat.lt_trans (by decide) h


theorem d_getItem {Q : Value → Shared → Prop} (hu : A.units + 1 < cLine) (I : Inv X pins σ H s) (g : DGet H a y (some v)) (ry : RelV y u) (h : ∀ w' s', Inv X pins σ H s' → RelV v w' → Q w' s') :
    wpAny (model X.prog X.w) A (getItem (.ref a) u) Q E s := by
  rcases g with ⟨kvs, k, e, ey, l⟩ | ⟨kvs, k, b, e, ey, eb, l⟩
  · subst ey
    obtain ⟨z, hd, vs, rel, dd⟩ := dk_rd I.hok e
    obtain ⟨w', hw, rw'⟩ := RelO.some_of (v := v) (o := valueAt vs k) (by rw [l]; exact rel.val k)
    exact wpAny_getItem_of (kV_is ry) dd.mapOf hw (h w' _ (I.tok _) rw')
  · subst ey
    cases (show u = Value.ref b from ry)
    obtain ⟨z, hd, xs, rel, dd⟩ := dt_rd I.hok e
    obtain ⟨w', hw, rw'⟩ := RelO.some_of (v := v) (o := (atKey xs k).map (·.2)) (by rw [l]; exact rel.val k)
    obtain ⟨p, hp, hp2⟩ := Option.map_eq_some_iff.mp hw
    refine wpAny_getItem_heap (tupleKind_room_in1 hu) (key_of I.hok eb) dd hp ?_
    rw [hp2]
    exact h w' _ (I.tok _) rw'

theorem d_write {h' : Heap} {t' : Nat} {ob : HO} (I : Inv X pins σ H s) (mu : Mut (H a)) (hs : Heap.SameBut a s.heap h') (he : ∃ q, h'.get? a = some q) (new : ObjOk X.prog X.w (upd H a ob) h' a ob) :
    Inv X pins σ (upd H a ob) { s with heap := h', toks := t' } :=
  I.write (x := a) (e := a) mu (.inl rfl) (fun b q hb z => (hs.2 b hb).trans z) he new
theorem dk_new {P : Program} {w : World} {H' : Hp} {h' : Heap} {kvs : List (Key × V)} {vs : List (Key × Value)} (z : kvs.length ≤ sizeLine) (hd : (a == sysModules) = false) (rel : KV kvs vs) (dd : h'.DictOf (mixKind P w) a vs) :
    ObjOk P w H' h' a (.dK kvs) := ⟨z, hd, vs, rel, dd⟩

end

section
variable {X : Cx} {pins : List (Addr × Obj)} {σ : St} {H : Hp} {s : Shared} {a : Addr} {kvs : List (Key × V)} {k : Key} {u : Value} {A : Around} {E : Value → Shared → Prop}

theorem d_len {Q : Value → Shared → Prop} (I : Inv X pins σ H s) (e : Rd H a (.dK kvs)) (h : ∀ t s', Inv X pins σ H s' → Q (.int kvs.length t) s') : wpAny (model X.prog X.w) A (call (.builtin "len") [.ref a]) Q E s := by
  obtain ⟨z, hd, vs, rel, dd⟩ := dk_rd I.hok e
  refine call_len_dict hd dd (by rw [← rel.length]; rw [sizeLine_eq] at z; omega) ?_
  rw [← rel.length]
  exact h _ _ (I.tok _)

end




noncomputable def NoSl (i : Expr) : Prop := ∀ ov iv, subscripted i false ov iv = operate [ov, iv] (getItem ov iv)
theorem subD_of {prog : Program} {w : World} {A : Around} {E : Value → Shared → Prop} {s : Shared} {env : Env} {value slice : Expr} {pos : Pos} {T id : String} {Q : Value → Shared → Prop}
    (hl : typeLookup (.type T) "__getitem__" = pure (some (.builtin id))) (hs : NoSl slice)
    (h : wpAny (model prog w) A (eval value env) (fun o s₁ => wpAny (model prog w) A (eval slice env) (fun i s₂ => s₂.TypeIs o T ∧ wpAny (model prog w) A (getItem o i) Q E s₂) E s₁) E s) :
    wpAny (model prog w) A (eval (.Subscript value slice pos) env) Q E s := by
  refine Subscript_ (wpAny_mono h (fun o s₁ h₁ => wpAny_mono h₁ (fun i s₂ h₂ => ?_) fun _ _ x => x) fun _ _ x => x)
  obtain ⟨hT, h₂⟩ := h₂
  unfold subscriptTail
  refine wpAny_bind ?_
  rw [getitemInPython_of_ne hT.not_modules]
  refine wpAny_bind (wpAny_specialOf hT hl ?_)
  have fin : wpAny (model prog w) A (subscripted slice false o i) (fun r s₃ => wpAny (model prog w) A (letTemporaryGo value o r >>= fun _ => pure r) Q E s₃) E s₂ := by
    rw [hs o i]
    exact wpAny_operating (wpAny_mono h₂ (fun r s₃ h₃ => wpAny_bind (wpAny_letTemporaryGo (wpAny_pure h₃))) fun _ _ x => x)
  first
    | exact wpAny_pure (wpAny_bind fin)
    | exact wpAny_bind (wpAny_pure (wpAny_bind fin))
    | exact wpAny_bind fin

theorem dict_typeIs {X : Cx} {pins : List (Addr × Obj)} {σ : St} {H : Hp} {s : Shared} {a : Addr} {y : V} {o : Option V} (I : Inv X pins σ H s) (g : DGet H a y o) : s.TypeIs (.ref a) "dict" := by
  rcases g with ⟨kvs, k, e, _, _⟩ | ⟨kvs, k, b, e, _, _, _⟩
  · obtain ⟨_, _, vs, _, dd⟩ := dk_rd I.hok e
    exact dd.typeIs
  · obtain ⟨_, _, xs, _, dd⟩ := dt_rd I.hok e
    exact dd.typeIs
noncomputable def tDGet (td ty : TE) : TE := fun σ H Q => td σ H fun x H1 => ty σ H1 fun y H2 => ∃ a v, x = .ref a ∧ DGet H2 a y (some v) ∧ Q v H2

section
variable {X : Cx} {o i e value : Expr} {pos pos' tpos : Pos} {td ty tv : TE}
theorem pe_dget (hu : X.A.units + 1 < cLine) (ho : PE X o td) (hi : PE X i ty) (hs : NoSl i) : PE X (.Subscript o i pos) (tDGet td ty) := by
  constructor
  intro pins s σ H Q I h
  refine subD_of PySem.F.slot_dict_getitem.lookup hs (thn (ho pins s σ H _ I h) fun u s1 ⟨x, H1, I1, rx, q1⟩ => thn (hi pins s1 σ H1 _ I1 q1) fun iv s2 ⟨y, H2, I2, ry, a, v, ex, g, q2⟩ => ?_)
  subst ex
  obtain rfl : u = Value.ref a := rx
  exact ⟨dict_typeIs I2 g, d_getItem hu I2 g ry fun w' s3 I3 rw' => ⟨v, H2, I3, rw', q2⟩⟩
end



theorem dk_empty {P : Program} {w : World} {H : Hp} (h : Heap) (hb : sysModules < h.objs.size) : ObjOk P w H (h.push { cls := .type "dict", data := .dict #[] }) h.objs.size (.dK []) :=
  ⟨Nat.zero_le _, beq_eq_false_iff_ne.mpr (Ne.symm (Nat.ne_of_lt hb)), [], .nil, Heap.DictOf.new h⟩
section
variable {X : Cx} {pos : Pos}
end


noncomputable def tPairs : List (TE × TE) → St → Hp → (List (V × V) → Hp → Prop) → Prop
  | [], _, H, Q => Q [] H
  | (tk, tv) :: r, σ, H, Q => tk σ H fun x H1 => tv σ H1 fun y H2 => tPairs r σ H2 fun ps H3 => Q ((x, y) :: ps) H3
noncomputable abbrev VV : List (V × V) → List (Value × Value) → Prop := Paired fun p q => RelV p.1 q.1 ∧ RelV p.2 q.2
noncomputable def PPs (X : Cx) (pos : Pos) (keys : List (Option Expr)) (values : List Expr) (trs : List (TE × TE)) : Prop :=
  ∀ (pins : List (Addr × Obj)) (s : Shared) (σ : St) (H : Hp) (Q : List (V × V) → Hp → Prop), Inv X pins σ H s → tPairs trs σ H Q →
    wpAny (model X.prog X.w) X.A (evalPairs (pairTrees keys values X.env pos)) (fun vs s' => ∃ ps H', Inv X pins σ H' s' ∧ VV ps vs ∧ Q ps H') X.xe s
theorem pps_nil {X : Cx} {pos : Pos} : PPs X pos [] [] [] := fun pins s σ H Q I h => pairTrees_nil_walk ⟨[], H, I, .nil, h⟩
theorem pps_cons {X : Cx} {pos : Pos} {k v : Expr} {ks : List (Option Expr)} {vs : List Expr} {tk tv : TE} {trs : List (TE × TE)} (hk : PE X k tk) (hv : PE X v tv) (hr : PPs X pos ks vs trs) :
    PPs X pos (some k :: ks) (v :: vs) ((tk, tv) :: trs) := fun pins s σ H Q I h =>
  pairTrees_cons_walk (thn (hk pins s σ H _ I h) fun u s1 ⟨x, H1, I1, rx, q1⟩ => thn (hv pins s1 σ H1 _ I1 q1) fun w2 s2 ⟨y, H2, I2, ry, q2⟩ =>
    thn (hr pins s2 σ H2 _ I2 q2) fun ws s3 ⟨ps, H3, I3, rel, q3⟩ => ⟨(x, y) :: ps, H3, I3, .cons ⟨rx, ry⟩ rel, q3⟩)

noncomputable def mergeK (kvs more : List (Key × V)) : List (Key × V) := more.foldl (fun acc kv => putK acc kv.1 kv.2) kvs
theorem KV.merge : ∀ {more : List (Key × V)} {rs : List (Key × Value)} {kvs : List (Key × V)} {vs : List (Key × Value)}, KV more rs → KV kvs vs → KV (mergeK kvs more) (merged vs rs) := by
  intro more rs kvs vs r
  unfold KV at r
  induction r generalizing kvs vs with
  | nil => intro q; exact q
  | @cons p q ps qs h t ih =>
    intro r0
    have e : KV (putK kvs p.1 p.2) (stored vs q.1 q.2) := by
      have := r0.put p.1 h.2
      rw [← h.1]; exact this
    exact ih e
theorem length_mergeK : ∀ (more kvs : List (Key × V)), (mergeK kvs more).length ≤ kvs.length + more.length
  | [], kvs => by show kvs.length ≤ kvs.length + 0; omega
  | p :: r, kvs => by
    have h1 := length_mergeK r (putK kvs p.1 p.2)
    have h2 := length_putK kvs p.1 p.2
    show (mergeK (putK kvs p.1 p.2) r).length ≤ _
    rw [List.length_cons]; omega
theorem carries_of {P : Program} {w : World} : ∀ {kvs : List (Key × V)} {ws : List (Value × Value)}, VV (kvs.map fun kv => (kV kv.1, kv.2)) ws → ∃ rs, Carries (mixKind P w) ws rs ∧ KV kvs rs
  | [], _, r => by rw [List.map_nil] at r; cases r; exact ⟨[], True.intro, .nil⟩
  | p :: kvs, _, r => by
    rw [List.map_cons] at r
    cases r with
    | @cons a b as bs h t =>
      obtain ⟨rs, c, q⟩ := carries_of (P := P) (w := w) t
      obtain ⟨b1, b2⟩ := b
      exact ⟨(p.1, b2) :: rs, ⟨kV_is h.1, rfl, c⟩, .cons ⟨rfl, h.2⟩ q⟩

noncomputable def tDisp (trs : List (TE × TE)) : TE := fun σ H Q => ∀ p, H p = none → tPairs trs σ (upd H p (.dK [])) fun ps H2 => H2 p = some (.dK []) ∧ ∃ kvs : List (Key × V), ps = kvs.map (fun kv => (kV kv.1, kv.2)) ∧ kvs.length ≤ 15 ∧ Q (.ref p) (upd H2 p (.dK (mergeK [] kvs)))
theorem pe_disp {X : Cx} {pos : Pos} {keys : List (Option Expr)} {values : List Expr} {trs : List (TE × TE)} (h : PPs X pos keys values trs) (hall : keys.all (·.isSome) = true) (hl : keys.length = values.length) (h0 : keys ≠ [])
    (h15 : keys.length ≤ 15) : PE X (.Dict keys values pos) (tDisp trs) := by
  constructor
  intro pins s σ H Q I q
  have hn := I.hok.fresh (Nat.le_refl s.heap.objs.size)
  have I1 := I.laid (a := s.heap.objs.size) (o := .dK []) (h' := s.heap.push { cls := .type "dict", data := .dict #[] }) (t' := s.toks) (fun _ _ q => Heap.get?_push_of_some _ q) (Nat.le_refl _) (dk_empty s.heap I.big)
  refine wpAny_Dict_walk (knd := mixKind X.prog X.w) hall hl h0 h15 (thn (h pins _ σ _ _ I1 (q _ hn)) fun ws s2 ⟨ps, H2, I2, rel, e, kvs, ep, lk, q2⟩ => ?_)
  subst ep
  obtain ⟨rs, c, rk⟩ := carries_of (P := X.prog) (w := X.w) rel
  obtain ⟨z, hd, vs0, r0, dd⟩ := dk_of I2.hok e
  cases r0
  refine ⟨rs, c, dd, fun h' dd' hs => ⟨.ref s.heap.objs.size, _, ?_, rfl, q2⟩⟩
  have hz : (mergeK [] kvs).length ≤ sizeLine := by
    have h1 := length_mergeK kvs []
    rw [List.length_nil] at h1
    rw [sizeLine_eq]; omega
  have he : ∃ q, h'.get? s.heap.objs.size = some q := let ⟨q, _, _, hq, _⟩ := dd'; ⟨q, hq⟩
  exact d_write I2 (by rw [e]; exact True.intro) hs he (dk_new hz hd (rk.merge .nil) dd')




section
variable {X : Cx} {pins : List (Addr × Obj)} {σ : St} {H : Hp} {s : Shared} {a : Addr} {y d : V} {u r : Value} {o : Option V} {A : Around} {E : Value → Shared → Prop}

end

section
variable {X : Cx} {o e f : Expr} {apos cpos : Pos} {td ty tx : TE}
end


section
variable {X : Cx} {pins : List (Addr × Obj)} {σ : St} {H : Hp} {s : Shared} {a : Addr} {kvs : List (Key × V)} {A : Around} {E : Value → Shared → Prop}
end


section
variable {X : Cx} {pins : List (Addr × Obj)} {σ : St} {H : Hp} {s : Shared} {a : Addr} {y : V} {u : Value} {A : Around} {E : Value → Shared → Prop}

end
end L2

namespace L2
open PySem PySem.Spec PyProof.Rows

section
variable {prog : Program} {w : World} {A : Around} {E : Value → Shared → Prop}

end

section
variable {X : Cx}
end
end L2

namespace L2
open PySem PySem.Spec PyProof.Rows

section
variable {X : Cx} {pins : List (Addr × Obj)} {σ : St} {H : Hp} {s : Shared} {h' : Heap}

theorem Inv.turnedL {t' : Nat} {ch : List Addr} (I : Inv X pins σ H s) (k : ∀ b o, b ∉ ch → s.heap.get? b = some o → h'.get? b = some o) (hf : ∀ b ∈ ch, FpOk X pins H b) : Inv X pins σ H { s with heap := h', toks := t' } := by
  have nit : ∀ b u, H b = some u → b ∉ ch := fun b u e z => by
    have q := (hf b z).1
    rw [q] at e; cases e
  refine I.step (g' := s.gens) (d' := s.drawn) (ch := ch) (fun b hb => ⟨(hf b hb).2.2.2.1, (hf b hb).2.1, (hf b hb).2.2.2.2.1, (hf b hb).2.2.2.2.2⟩) (fun b o _ _ hc e _ => k b o hc e) (fun b o _ _ hc e _ => ⟨o.slots, k b o hc e⟩)
    (fun _ _ _ _ n => n) (fun b o hc e => ⟨o, k b o hc e⟩) (fun _ _ e => e) (fun _ _ _ e => e) (fun b ps e => ⟨#[], by rw [e]; simp⟩) (fun m hm => ?_) (fun b u e => ?_) I.bare
  · obtain ⟨o, es, ep, ho, r⟩ := hm
    exact ⟨o, es, ep, k _ o (fun z => (hf _ z).2.1 rfl) ho, r⟩
  · refine (I.hok b u e).stay (fun c v hc q => k c v ?_ q) (fun _ q => q) fun _ _ q => q
    rcases hc with z | z
    · rw [z]; exact nit b u e
    · exact nit c _ z

theorem Inv.turnedNew {t' : Nat} {ch : List Addr} {T : Addr} {ob : HO} (I : Inv X pins σ H s) (k : ∀ b o, b ∉ ch → s.heap.get? b = some o → h'.get? b = some o) (hf : ∀ b ∈ ch, FpOk X pins H b) (hT : s.heap.objs.size ≤ T)
    (new : ObjOk X.prog X.w (upd H T ob) h' T ob) : Inv X pins σ (upd H T ob) { s with heap := h', toks := t' } := by
  have hn : H T = none := I.hok.fresh hT
  have nit : ∀ b u, H b = some u → b ∉ ch := fun b u e z => by
    have q := (hf b z).1
    rw [q] at e; cases e
  refine I.step (g' := s.gens) (d' := s.drawn) (ch := ch) (fun b hb => ⟨(hf b hb).2.2.2.1, (hf b hb).2.1, (hf b hb).2.2.2.2.1, (hf b hb).2.2.2.2.2⟩) (fun b o _ _ hc e _ => k b o hc e) (fun b o _ _ hc e _ => ⟨o.slots, k b o hc e⟩)
    (fun b o _ e n => ?_) (fun b o hc e => ⟨o, k b o hc e⟩) (fun b xs e => ?_) (fun b o u e => ?_) (fun b ps e => ⟨#[], ?_⟩) (fun m hm => ?_) (fun b u e => ?_) I.bare
  · rw [upd_ne (Nat.ne_of_lt (Nat.lt_of_lt_of_le (Heap.lt_size e) hT))]; exact n
  · rw [upd_ne (ne_of_none e hn)]; exact e
  · rw [upd_ne (ne_of_none e hn)]; exact e
  · rw [upd_ne (ne_of_none e hn), e]; simp
  · obtain ⟨o, es, ep, ho, r⟩ := hm
    exact ⟨o, es, ep, k _ o (fun z => (hf _ z).2.1 rfl) ho, r⟩
  · by_cases hb : b = T
    · subst hb
      rw [upd_same] at e
      cases e
      exact new
    · rw [upd_ne hb] at e
      refine (I.hok b u e).stay (fun c v hc q => k c v ?_ q) (fun c q => by rw [upd_ne (ne_of_none q hn)]; exact q) fun c xs q => by rw [upd_ne (ne_of_none q hn)]; exact q
      rcases hc with z | z
      · rw [z]; exact nit b u e
      · exact nit c _ z


end

section
variable {X : Cx}
theorem pi_one {tg : Expr} {pins : List (Addr × Obj)} {σ : St} {H : Hp} {s : Shared} {R : It → Hp → Prop} {J : It} {tn : Nat → Heap → Prop} {tk : Nat} (I : Inv X pins σ H s) (o : Obj)
    (T : Turn X.prog X.w X.K tg J [s.heap.objs.size] s.heap.objs.size tn) (st : tn 0 (s.heap.push o)) (q : R J H) : PIE X pins σ tg R (.ref s.heap.objs.size) { s with heap := s.heap.push o, toks := tk } := by
  refine ⟨s.heap.objs.size, [s.heap.objs.size], tn, J, H, rfl, I.kept fun b ob e => Heap.get?_push_of_some _ e, T, st, fun b hb => ?_, q⟩
  have e : b = s.heap.objs.size := by simpa using hb
  subst e
  exact I.fpOk (Nat.le_refl _) (I.hok.fresh (Nat.le_refl _))
end



section
variable {X : Cx} {tg : Expr}
end

section
variable {X : Cx} {tg : Expr}
end


noncomputable def Its (x : Str) : It := ⟨fun i _ => i < x.cps.size, fun i H v H' => H' = H ∧ ∃ c, x.cps[i]? = some c ∧ v = .str ⟨#[c]⟩, fun i _ => x.cps.size ≤ i⟩
theorem turn_str {P : Program} {w : World} {K : PySem.W.Frag} {tg : Expr} (it : Addr) (x : Str) (t : Tok) (ty : String) (hty : ty = "str_ascii_iterator" ∨ ty = "str_iterator") :
    Turn P w K tg (Its x) [it] it (fun i h => h.IsStrIter it ty x t i) where
  mem := by simp
  obj := fun i h st b hb => by
    have e : b = it := by simpa using hb
    subst e
    obtain ⟨o, e, c, d⟩ := st
    exact ⟨o, e, fun v z => by rw [d] at z; cases z⟩
  keep := fun i h h' st k => let ⟨o, ho, r⟩ := st; ⟨o, k it (by simp) o ho, r⟩
  item := by
    intro X hP hw hK hc i pins s σ H E I hf st hg
    subst hP hw hK
    obtain ⟨f0, f1, f2, f3, f4, f5⟩ := hf it (by simp)
    have W : Walks X.prog X.w X.A it [it] [it] x.cps.size (SignAt x) (fun i h => h.IsStrIter it ty x t i) := by
      rcases hty with e | e
      · rw [e]; exact Walks.strAscii (I.ok.hd hc) it x t
      · rw [e]; exact Walks.strWide (I.ok.hd hc) it x t
    have hno : ["enumerate", "zip", "dict_itemiterator", "dict_reverseitemiterator", "odict_iterator", "itertools.zip_longest", "itertools.pairwise"].contains ty = false := by
      rcases hty with e | e
      · rw [e]; decide
      · rw [e]; decide
    refine W.item i s _ _ hg st fun v h' tk hv st' kk => ?_
    obtain ⟨c, u, hcx, rfl⟩ := hv
    have I1 : Inv X pins σ H { s with heap := h', toks := tk } := I.turned (fun b o hb e => kk b o (by simpa using hb) e) f0 f1 f3 f4 f5
    obtain ⟨oi, e, cc, dd⟩ := id st'
    exact ⟨_, rfl, go_of (s := { s with heap := h', toks := tk }) e cc dd hno ⟨.str ⟨#[c]⟩, H, I1, ⟨u, rfl⟩, ⟨rfl, c, hcx, rfl⟩, st', fun b hb => (hf b hb).1⟩⟩
  done := by
    intro X hP hw hK hc i pins s σ H E I hf st hg
    subst hP hw hK
    obtain ⟨f0, f1, f2, f3, f4, f5⟩ := hf it (by simp)
    have hx : x.cps[i]? = none := Array.getElem?_eq_none hg
    rcases hty with e | e
    · rw [e] at st
      exact wpAny_pyNext_ascii_end (I.ok.hd hc) st hx fun h' eb => ⟨rfl, I.turned (t' := s.toks) (fun b o hb e => eb b o hb e) f0 f1 f3 f4 f5⟩
    · rw [e] at st
      exact wpAny_pyNext_wide_end (I.ok.hd hc) st hx fun h' eb => ⟨rfl, I.turned (t' := s.toks) (fun b o hb e => eb b o hb e) f0 f1 f3 f4 f5⟩
  self := fun A i s Q E st h => by
    rcases hty with e | e
    · rw [e] at st; exact wpAny_pyIter_striter_ascii st h
    · rw [e] at st; exact wpAny_pyIter_striter_wide st h
noncomputable def iStr (te : TE) : TI := fun σ H R => te σ H fun v H1 => ∃ x, v = .str x ∧ R (Its x) H1
theorem pi_str {X : Cx} {tg e : Expr} {te : TE} (he : PE X e te) : PI X tg e (iStr te) := by
  constructor
  intro pins s σ H R I h
  refine thn (he pins s σ H _ I h) fun v s1 ⟨y, H1, I1, r1, x, ex, q⟩ => ?_
  subst ex
  obtain ⟨t, rfl⟩ := r1
  cases ha : x.cps.all (· < 128)
  · exact wpAny_pyIter_wide ha (pi_one (tk := s1.toks) I1 _ (turn_str _ x t "str_iterator" (.inr rfl)) ⟨_, Heap.get?_push_size _ rfl, rfl, rfl⟩ q)
  · exact wpAny_pyIter_ascii ha (pi_one (tk := s1.toks) I1 _ (turn_str _ x t "str_ascii_iterator" (.inl rfl)) ⟨_, Heap.get?_push_size _ rfl, rfl, rfl⟩ q)


section
variable {prog : Program} {w : World} {A : Around} {E : Value → Shared → Prop} {s : Shared}
end


section
variable {X : Cx} {pins : List (Addr × Obj)} {σ : St} {H : Hp} {s : Shared} {d : Addr} {o : Obj}
end


section
variable {P : Program} {w : World} {K : PySem.W.Frag} {tg : Expr} {d : Addr} {o : Obj} {es : Array DictEntry} {ep : Nat}
end



section
variable {X : Cx} {tg e : Expr} {td : TE} {apos cpos : Pos}
end



theorem boot_zip5 : bootBuiltins "zip" = some (.type "zip") := by decide +kernel

end L2

section 
namespace Bits
open PySem PyProof.Rows

end Bits
end 

section 
namespace TL
open PySem PySem.Builtin PySem.Builtin.Str PySem.StrLaws

noncomputable abbrev tl (x : Str) : List Nat := x.cps.toList
theorem len_tl (x : Str) : x.length = (tl x).length := by simp [tl, Str.length]
theorem ext_tl {x y : Str} (h : tl x = tl y) : x = y := Str.ext' (Array.toList_inj.mp h)
theorem tl_append (x y : Str) : tl (x ++ y) = tl x ++ tl y := by
  show (x ++ y).cps.toList = _
  rw [Str.cps_append, Array.toList_append]
theorem mk_tl (x : Str) : (⟨(tl x).toArray⟩ : Str) = x := ext_tl rfl
theorem map_tl_inj : ∀ {l m : List Str}, l.map tl = m.map tl → l = m
  | [], [], _ => rfl
  | [], _ :: _, h => by simp at h
  | _ :: _, [], h => by simp at h
  | x :: l, y :: m, h => by
    rw [List.map_cons, List.map_cons] at h
    injection h with h1 h2
    rw [ext_tl h1, map_tl_inj h2]
noncomputable def pre (S l : List Nat) : Bool := l.take S.length == S

noncomputable def spl (S : List Nat) : Nat → List Nat → List Nat → List (List Nat)
  | _, acc, [] => [acc]
  | 0, acc, c :: r => if pre S (c :: r) = true then acc :: spl S (S.length - 1) [] r else spl S 0 (acc ++ [c]) r
  | k + 1, acc, _ :: r => spl S k acc r

noncomputable def par (S : List Nat) : List Nat → List Nat → Option (List Nat × List Nat)
  | _, [] => none
  | acc, c :: r => if pre S (c :: r) = true then some (acc, (c :: r).drop S.length) else par S (acc ++ [c]) r

theorem spl_nil (S : List Nat) (k : Nat) (acc : List Nat) : spl S k acc [] = [acc] := by cases k <;> rfl
theorem spl_hit {S acc r : List Nat} {c : Nat} (h : pre S (c :: r) = true) : spl S 0 acc (c :: r) = acc :: spl S (S.length - 1) [] r := by
  show (if pre S (c :: r) = true then acc :: spl S (S.length - 1) [] r else spl S 0 (acc ++ [c]) r) = _
  rw [if_pos h]
theorem spl_miss {S acc r : List Nat} {c : Nat} (h : pre S (c :: r) = false) : spl S 0 acc (c :: r) = spl S 0 (acc ++ [c]) r := by
  show (if pre S (c :: r) = true then acc :: spl S (S.length - 1) [] r else spl S 0 (acc ++ [c]) r) = _
  rw [if_neg (by rw [h]; exact Bool.false_ne_true)]
theorem spl_pass (S : List Nat) : ∀ (k : Nat) (acc l : List Nat), spl S k acc l = spl S 0 acc (l.drop k)
  | 0, _, _ => by rw [List.drop_zero]
  | k + 1, acc, [] => by rw [List.drop_nil, spl_nil, spl_nil]
  | k + 1, acc, c :: r => by
    show spl S k acc r = spl S 0 acc (r.drop k)
    exact spl_pass S k acc r
theorem par_hit {S acc r : List Nat} {c : Nat} (h : pre S (c :: r) = true) : par S acc (c :: r) = some (acc, (c :: r).drop S.length) := by
  show (if pre S (c :: r) = true then some (acc, (c :: r).drop S.length) else par S (acc ++ [c]) r) = _
  rw [if_pos h]
theorem par_miss {S acc r : List Nat} {c : Nat} (h : pre S (c :: r) = false) : par S acc (c :: r) = par S (acc ++ [c]) r := by
  show (if pre S (c :: r) = true then some (acc, (c :: r).drop S.length) else par S (acc ++ [c]) r) = _
  rw [if_neg (by rw [h]; exact Bool.false_ne_true)]

theorem pre_nil {S : List Nat} (hS : S ≠ []) : pre S [] = false := by
  cases S with
  | nil => exact absurd rfl hS
  | cons s S => rfl
theorem pre_of_head {s c : Nat} (S r : List Nat) (h : c ≠ s) : pre (s :: S) (c :: r) = false := by
  cases hp : pre (s :: S) (c :: r) with
  | false => rfl
  | true =>
    have e : (c :: r).take (s :: S).length = s :: S := eq_of_beq hp
    rw [List.length_cons, List.take_succ_cons] at e
    injection e with e1 e2
    exact absurd e1 h
theorem pre_self (S r : List Nat) : pre S (S ++ r) = true := by
  show ((S ++ r).take S.length == S) = true
  have e : (S ++ r).take S.length = S := List.take_left
  rw [e] <;> exact beq_self_eq_true S

theorem getElem_drop_cons {L : List Nat} {a : Nat} (h : a < L.length) : ∃ c, L.drop a = c :: L.drop (a + 1) := ⟨L[a], List.drop_eq_getElem_cons h⟩
theorem spl_run (S L : List Nat) : ∀ (m a : Nat) (acc : List Nat), a + m ≤ L.length → (∀ k, a ≤ k → k < a + m → pre S (L.drop k) = false) →
    spl S 0 acc (L.drop a) = spl S 0 (acc ++ (L.drop a).take m) (L.drop (a + m))
  | 0, a, acc, _, _ => by rw [List.take_zero, List.append_nil, Nat.add_zero]
  | m + 1, a, acc, h, hn => by
    have hlt : a < L.length := by omega
    obtain ⟨c, e⟩ := getElem_drop_cons hlt
    have h0 := hn a (Nat.le_refl _) (by omega)
    have ih := spl_run S L m (a + 1) (acc ++ [c]) (by omega) (fun k h1 h2 => hn k (by omega) (by omega))
    have e2 : a + 1 + m = a + (m + 1) := by omega
    rw [e2] at ih
    rw [e] at h0
    rw [e, spl_miss h0, ih, List.take_succ_cons, List.append_assoc] <;> rfl
theorem par_run (S L : List Nat) : ∀ (m a : Nat) (acc : List Nat), a + m ≤ L.length → (∀ k, a ≤ k → k < a + m → pre S (L.drop k) = false) →
    par S acc (L.drop a) = par S (acc ++ (L.drop a).take m) (L.drop (a + m))
  | 0, a, acc, _, _ => by rw [List.take_zero, List.append_nil, Nat.add_zero]
  | m + 1, a, acc, h, hn => by
    have hlt : a < L.length := by omega
    obtain ⟨c, e⟩ := getElem_drop_cons hlt
    have h0 := hn a (Nat.le_refl _) (by omega)
    have ih := par_run S L m (a + 1) (acc ++ [c]) (by omega) (fun k h1 h2 => hn k (by omega) (by omega))
    have e2 : a + 1 + m = a + (m + 1) := by omega
    rw [e2] at ih
    rw [e] at h0
    rw [e, par_miss h0, ih, List.take_succ_cons, List.append_assoc] <;> rfl
theorem drop_two (L : List Nat) (a b : Nat) : (L.drop a).drop b = L.drop (a + b) := by
  first
    | rw [List.drop_drop]
    | rw [List.drop_drop, Nat.add_comm]
theorem spl_at {S L : List Nat} (hS : S ≠ []) {c : Nat} {acc : List Nat} (h : pre S (L.drop c) = true) : spl S 0 acc (L.drop c) = acc :: spl S 0 [] (L.drop (c + S.length)) := by
  rw [← drop_two]
  cases e : L.drop c with
  | nil => rw [e, pre_nil hS] at h; cases h
  | cons d r =>
    rw [e] at h
    rw [spl_hit h, spl_pass]
    cases S with
    | nil => exact absurd rfl hS
    | cons s S => rfl
theorem par_at {S L : List Nat} (hS : S ≠ []) {c : Nat} {acc : List Nat} (h : pre S (L.drop c) = true) : par S acc (L.drop c) = some (acc, L.drop (c + S.length)) := by
  rw [← drop_two]
  cases e : L.drop c with
  | nil => rw [e, pre_nil hS] at h; cases h
  | cons d r =>
    rw [e] at h
    rw [par_hit h]


theorem at_iff {x y : Str} (hy : tl y ≠ []) (i : Nat) : At x y x.length i ↔ pre (tl y) ((tl x).drop i) = true := by
  have hx := len_tl x
  have hl := len_tl y
  constructor
  · intro h
    have h2 := h.2
    rw [subAt_eq, hl] at h2
    exact h2
  · intro h
    have e : ((tl x).drop i).take (tl y).length = tl y := eq_of_beq h
    have e1 := congrArg List.length e
    rw [List.length_take, List.length_drop] at e1
    have e2 : 0 < (tl y).length := List.length_pos_iff.mpr hy
    refine ⟨by omega, ?_⟩
    rw [subAt_eq, hl]
    exact h
theorem no_at {x y : Str} (hy : tl y ≠ []) {i : Nat} (h : ¬ At x y x.length i) : pre (tl y) ((tl x).drop i) = false := by
  cases hp : pre (tl y) ((tl x).drop i) with
  | false => rfl
  | true => exact absurd ((at_iff hy i).mpr hp) h
theorem len1 {y : Str} (hy : tl y ≠ []) : 1 ≤ y.length := by
  have e2 : 0 < (tl y).length := List.length_pos_iff.mpr hy
  rw [len_tl y]
  exact e2
theorem tl_strSub (x : Str) (i j : Nat) : tl (strSub x i j) = ((tl x).drop i).take (j - i) := strSub_toList x i j
theorem tl_strSub_end (x : Str) (i : Nat) : tl (strSub x i x.length) = (tl x).drop i := by
  rw [tl_strSub, len_tl x]
  exact List.take_of_length_le (by rw [List.length_drop] <;> omega)

theorem parts_spl {x y : Str} (hy : tl y ≠ []) : ∀ (cuts : List Nat) (a f : Nat), a ≤ (tl x).length → ChainG x y x.length a cuts f → (∀ k, f ≤ k → ¬ At x y x.length k) →
    (partsFrom x y.length a cuts).map tl = spl (tl y) 0 [] ((tl x).drop a)
  | [], a, f, ha, h, hn => by
    have e : f = a := h
    subst e
    show [tl (strSub x f x.length)] = _
    have run := spl_run (tl y) (tl x) ((tl x).length - f) f [] (by omega) (fun k h1 _ => no_at hy (hn k h1))
    have e2 : f + ((tl x).length - f) = (tl x).length := by omega
    rw [e2, List.drop_length, spl_nil, List.nil_append, List.take_of_length_le (by rw [List.length_drop] <;> omega)] at run
    rw [run, tl_strSub_end]
  | c :: r, a, f, ha, h, hn => by
    obtain ⟨h1, h2, h3, h4⟩ := h
    have hc : c + y.length ≤ x.length := h2.1
    have hx := len_tl x
    have hl := len_tl y
    have ih := parts_spl hy r (c + y.length) f (by omega) h4 hn
    show tl (strSub x a c) :: (partsFrom x y.length (c + y.length) r).map tl = _
    have run := spl_run (tl y) (tl x) (c - a) a [] (by omega) (fun k k1 k2 => no_at hy (h3 k k1 (by omega)))
    have e2 : a + (c - a) = c := by omega
    rw [e2, List.nil_append, spl_at hy ((at_iff hy c).mp h2)] at run
    rw [run, ih, tl_strSub, hl]


theorem split_spl (x y : Str) (hy : tl y ≠ []) (hk : ¬ Builtin.Str.strKind x < Builtin.Str.strKind y) : (Txt.split x y).map tl = spl (tl y) 0 [] (tl x) := by
  obtain ⟨f, g, hn⟩ := occ_tight x y (len1 hy)
  have key := parts_spl hy _ 0 f (Nat.zero_le _) g hn
  rw [List.drop_zero] at key
  have none_case : occurrences x y 0 x.length (x.length + 1) = [] → [x].map tl = spl (tl y) 0 [] (tl x) := fun ho => by
    rw [ho] at key
    rw [← key]
    show [tl x] = [tl (strSub x 0 x.length)]
    rw [sub_whole]
  unfold Txt.split
  by_cases h1 : (decide (x.length < y.length) || decide (Builtin.Str.strKind x < Builtin.Str.strKind y)) = true
  · rw [if_pos h1]
    have hlt : x.length < y.length := by
      simp only [Bool.or_eq_true, decide_eq_true_eq] at h1
      rcases h1 with h | h
      · exact h
      · exact absurd h hk
    refine none_case ?_
    cases ho : occurrences x y 0 x.length (x.length + 1) with
    | nil => rfl
    | cons c r =>
      rw [ho] at g
      have hc : c + y.length ≤ x.length := g.2.1.1
      omega
  · rw [if_neg h1]
    by_cases h2 : (occurrences x y 0 x.length (x.length + 1)).isEmpty = true
    · rw [if_pos h2]
      exact none_case (List.isEmpty_iff.mp h2)
    · rw [if_neg h2, partsBetween_eq]
      exact key
theorem kind_ok {x y : Str} (h : y.cps.all (· < 256) = true) : ¬ Builtin.Str.strKind x < Builtin.Str.strKind y := by
  have e : Builtin.Str.strKind y = 1 := by unfold PySem.Builtin.Str.strKind; rw [if_pos h]
  rw [e]
  unfold PySem.Builtin.Str.strKind
  split
  · omega
  · split <;> omega

theorem partition_par (x y : Str) (hy : tl y ≠ []) :
    Txt.partition x y = (match par (tl y) [] (tl x) with | some (a, b) => (⟨a.toArray⟩, y, ⟨b.toArray⟩) | none => (x, Str.empty, Str.empty)) := by
  have hx := len_tl x
  have hl := len_tl y
  rcases PyProof.Rows.partition_whole x y with ⟨e, hn⟩ | ⟨i, e, hi, hn⟩
  · have run := par_run (tl y) (tl x) (tl x).length 0 [] (by omega) (fun k _ _ => no_at hy (hn k))
    rw [List.drop_zero, Nat.zero_add, List.drop_length] at run
    rw [e, run] <;> rfl
  · have hb : i + y.length ≤ x.length := hi.1
    have run := par_run (tl y) (tl x) i 0 [] (by omega) (fun k _ k2 => no_at hy (hn k (by omega)))
    rw [List.drop_zero, Nat.zero_add, List.nil_append, par_at hy ((at_iff hy i).mp hi)] at run
    rw [e, run]
    have e1 : strSub x 0 i = ⟨((tl x).take i).toArray⟩ := ext_tl (by rw [tl_strSub, List.drop_zero, Nat.sub_zero])
    have e2 : strSub x (i + y.length) x.length = ⟨((tl x).drop (i + (tl y).length)).toArray⟩ := ext_tl (by rw [tl_strSub_end, hl])
    rw [e1, e2] <;> rfl



theorem spl_part {S p rest acc : List Nat} (hS : S ≠ []) (h : ∀ i, i < p.length → pre S ((p ++ (S ++ rest)).drop i) = false) :
    spl S 0 acc (p ++ (S ++ rest)) = (acc ++ p) :: spl S 0 [] rest := by
  have run := spl_run S (p ++ (S ++ rest)) p.length 0 acc (by rw [List.length_append]; omega) (fun k _ k2 => h k (by omega))
  have ed : (p ++ (S ++ rest)).drop p.length = S ++ rest := List.drop_left
  rw [List.drop_zero, Nat.zero_add, List.take_left] at run
  rw [run, spl_at hS (by rw [ed]; exact pre_self S rest), ← drop_two, ed, List.drop_left]
theorem spl_last {S p acc : List Nat} (h : ∀ i, i < p.length → pre S (p.drop i) = false) : spl S 0 acc p = [acc ++ p] := by
  have run := spl_run S p p.length 0 acc (by omega) (fun k _ k2 => h k (by omega))
  rw [List.drop_zero, Nat.zero_add, List.drop_length, spl_nil, List.take_length] at run
  exact run
theorem par_part {S p rest acc : List Nat} (hS : S ≠ []) (h : ∀ i, i < p.length → pre S ((p ++ (S ++ rest)).drop i) = false) :
    par S acc (p ++ (S ++ rest)) = some (acc ++ p, rest) := by
  have run := par_run S (p ++ (S ++ rest)) p.length 0 acc (by rw [List.length_append]; omega) (fun k _ k2 => h k (by omega))
  have ed : (p ++ (S ++ rest)).drop p.length = S ++ rest := List.drop_left
  rw [List.drop_zero, Nat.zero_add, List.take_left] at run
  rw [run, par_at hS (by rw [ed]; exact pre_self S rest), ← drop_two, ed, List.drop_left]
theorem par_none {S p acc : List Nat} (h : ∀ i, i < p.length → pre S (p.drop i) = false) : par S acc p = none := by
  have run := par_run S p p.length 0 acc (by omega) (fun k _ k2 => h k (by omega))
  rw [List.drop_zero, Nat.zero_add, List.drop_length] at run
  exact run

theorem free_of {s : Nat} {S p q : List Nat} (h : s ∉ p) : ∀ i, i < p.length → pre (s :: S) ((p ++ q).drop i) = false := fun i hi => by
  have hlt : i < (p ++ q).length := by rw [List.length_append]; omega
  have e : (p ++ q).drop i = (p ++ q)[i] :: (p ++ q).drop (i + 1) := List.drop_eq_getElem_cons hlt
  rw [e]
  refine pre_of_head _ _ fun z => h ?_
  have e1 : (p ++ q)[i] = p[i] := List.getElem_append_left hi
  rw [← z, e1]
  exact List.getElem_mem hi
theorem spl_part1 {s : Nat} {S p rest acc : List Nat} (h : s ∉ p) : spl (s :: S) 0 acc (p ++ (s :: S ++ rest)) = (acc ++ p) :: spl (s :: S) 0 [] rest :=
  spl_part (by simp) (free_of h)
theorem spl_last1 {s : Nat} {S p acc : List Nat} (h : s ∉ p) : spl (s :: S) 0 acc p = [acc ++ p] := spl_last fun i hi => by
  have z := free_of (S := S) (q := []) h i hi
  rw [List.append_nil] at z
  exact z
theorem par_part1 {s : Nat} {S p rest acc : List Nat} (h : s ∉ p) : par (s :: S) acc (p ++ (s :: S ++ rest)) = some (acc ++ p, rest) := par_part (by simp) (free_of h)
theorem par_none1 {s : Nat} {S p acc : List Nat} (h : s ∉ p) : par (s :: S) acc p = none := par_none fun i hi => by
  have z := free_of (S := S) (q := []) h i hi
  rw [List.append_nil] at z
  exact z


noncomputable def joinL (S : List Nat) : List (List Nat) → List Nat
  | [] => []
  | [p] => p
  | p :: q :: r => p ++ (S ++ joinL S (q :: r))
theorem tl_join (y : Str) : ∀ parts : List Str, tl (Str.join y parts) = joinL (tl y) (parts.map tl)
  | [] => rfl
  | [_] => rfl
  | x :: z :: r => by
    show tl (x ++ y ++ Str.join y (z :: r)) = tl x ++ (tl y ++ joinL (tl y) ((z :: r).map tl))
    rw [tl_append, tl_append, tl_join y (z :: r), List.append_assoc]
theorem spl_join {s : Nat} {S : List Nat} : ∀ {parts : List (List Nat)}, parts ≠ [] → (∀ p ∈ parts, s ∉ p) → spl (s :: S) 0 [] (joinL (s :: S) parts) = parts
  | [], h, _ => absurd rfl h
  | [p], _, hp => by
    show spl (s :: S) 0 [] p = [p]
    rw [spl_last1 (hp p (List.mem_singleton.mpr rfl)), List.nil_append]
  | p :: q :: r, _, hp => by
    show spl (s :: S) 0 [] (p ++ (s :: S ++ joinL (s :: S) (q :: r))) = p :: q :: r
    rw [spl_part1 (hp p (List.mem_cons_self ..)), List.nil_append, spl_join (by simp) fun z hz => hp z (List.mem_cons_of_mem _ hz)]
theorem join_eq (y : Str) (parts : List Str) : Txt.join y parts = Str.join y parts := glued_eq_join y parts

theorem split_join {y : Str} {s : Nat} {S : List Nat} (ey : tl y = s :: S) (hk : y.cps.all (· < 256) = true) {parts : List Str} (hne : parts ≠ []) (hp : ∀ p ∈ parts, s ∉ tl p) :
    Txt.split (Txt.join y parts) y = parts := by
  refine map_tl_inj ?_
  rw [split_spl _ y (by rw [ey]; simp) (kind_ok hk), join_eq, tl_join, ey]
  refine spl_join (fun e => hne (List.map_eq_nil_iff.mp e)) fun p h => ?_
  obtain ⟨z, hz, rfl⟩ := List.mem_map.mp h
  exact hp z hz

theorem partition_app {y : Str} {s : Nat} {S : List Nat} (ey : tl y = s :: S) {a b : Str} (h : s ∉ tl a) : Txt.partition (a ++ y ++ b) y = (a, y, b) := by
  rw [partition_par _ y (by rw [ey]; simp), tl_append, tl_append, List.append_assoc, ey, par_part1 h]
  show ((⟨([] ++ tl a).toArray⟩ : Str), y, (⟨(tl b).toArray⟩ : Str)) = _
  rw [List.nil_append, mk_tl, mk_tl]
theorem partition_none {y : Str} {s : Nat} {S : List Nat} (ey : tl y = s :: S) {a : Str} (h : s ∉ tl a) : Txt.partition a y = (a, Str.empty, Str.empty) := by
  rw [partition_par _ y (by rw [ey]; simp), ey, par_none1 h]



end TL
end 

namespace L2
open PySem PySem.Spec PyProof.Rows

theorem notLong {n : Nat} (h : n ≤ 16777216) : Builtin.Str.tooLong n = false := by
  have e : (2 : Nat) ^ 24 = 16777216 := by decide
  unfold Builtin.Str.tooLong sizeLine
  exact decide_eq_false (by omega)


theorem vals_strs : ∀ l : List (Str × Tok), Vals ((l.map (·.1)).map V.str) (strValues l)
  | [] => .nil
  | p :: r => .cons ⟨p.2, rfl⟩ (vals_strs r)
theorem strs_of_vals : ∀ {ys : List Str} {us : List Value}, Vals (ys.map V.str) us → StrsAre us ys
  | [], _, .nil => .nil
  | y :: ys, _, .cons r t => by
    obtain ⟨k, rfl⟩ := r
    exact .cons y k (strs_of_vals t)


noncomputable def rNewStrs (ys : List Str) : Hp → VK → Prop := fun H Q => ∀ p, H p = none → Q (.ref p) (upd H p (.lst (ys.map V.str)))

section
variable {X : Cx} {pins : List (Addr × Obj)} {σ : St} {H : Hp} {s : Shared} {Q : VK}
theorem laid_strs {l : List (Str × Tok)} {ys : List Str} {k : Nat} (I : Inv X pins σ H s) (e : l.map (·.1) = ys) (hz : ys.length ≤ sizeLine) (h : rNewStrs ys H Q) :
    EP X pins σ Q (.ref s.heap.objs.size) { s with toks := k, heap := s.heap.push { cls := .type "list", data := .seq (strValues l).toArray } } := by
  have hp := I.hok.fresh (Nat.le_refl _)
  refine ⟨.ref s.heap.objs.size, upd H s.heap.objs.size (.lst (ys.map V.str)), I.laid (fun b u q => Heap.get?_push_of_some _ q) (Nat.le_refl _) ⟨by rw [List.length_map]; exact hz, strValues l, _, ?_, Heap.get?_push_size _ rfl⟩, rfl, h _ hp⟩
  rw [← e]
  exact vals_strs l
theorem laid_parts {x y z : Str} {t u v : Tok} {k : Nat} (I : Inv X pins σ H s) (h : ∀ p, H p = none → Q (.ref p) (upd H p (.tup [.str x, .str y, .str z]))) :
    EP X pins σ Q (.ref s.heap.objs.size) { s with toks := k, heap := s.heap.push { cls := .type "tuple", data := .seq [Value.str x t, .str y u, .str z v].toArray } } := by
  have hp := I.hok.fresh (Nat.le_refl _)
  exact ⟨.ref s.heap.objs.size, upd H s.heap.objs.size (.tup [.str x, .str y, .str z]), I.laid (fun b u q => Heap.get?_push_of_some _ q) (Nat.le_refl _)
    ⟨by show 3 ≤ sizeLine; decide, [Value.str x t, .str y u, .str z v], .cons ⟨t, rfl⟩ (.cons ⟨u, rfl⟩ (.cons ⟨v, rfl⟩ .nil)), _, Heap.get?_push_size _ rfl, rfl, ⟨_, rfl⟩, rfl⟩, rfl, h _ hp⟩
end

section
variable {X : Cx}


theorem mt_split : MtR X "str.split" (fun x xs H Q => ∃ a b, x = .str a ∧ xs = [.str b] ∧ (b.length == 0) = false ∧ a.length + 2 ≤ sizeLine ∧ rNewStrs (Txt.split a b) H Q) := by
  constructor
  intro pins s σ H x xs v us Q I rx rs h
  obtain ⟨a, b, rfl, rfl, hb, hz, h⟩ := h
  obtain ⟨t, rfl⟩ := rx
  cases rs with
  | cons r1 rs =>
    cases rs
    obtain ⟨u, rfl⟩ := r1
    have hl : (Txt.split a b).length ≤ sizeLine := Nat.le_trans (PyProof.Rows.split_le a b) hz
    have hn : (Builtin.Str.partsBetween a (Builtin.Str.occurrences a b 0 a.length (a.length + 1)) b.length).length ≤ sizeLine := by
      have e1 := StrLaws.occ_length_le a b 0 a.length (a.length + 1)
      rw [length_partsBetween]; omega
    cases h1 : (decide (a.length < b.length) || decide (Builtin.Str.strKind a < Builtin.Str.strKind b))
    · cases hf : (Builtin.Str.occurrences a b 0 a.length (a.length + 1)).isEmpty
      · refine call_meets F.slot_str_split (typeIs_str _ _ _) F.entry_str_split (F.args_str_split_2 _ _) (meets_str_split_sep a b t u h1 hb hf (by omega) hn) ?_
        show EP X pins σ Q (.ref s.heap.objs.size) { s with toks := _, heap := s.heap.push { cls := .type "list", data := .seq (strsFrom s.toks (Builtin.Str.partsBetween a (Builtin.Str.occurrences a b 0 a.length (a.length + 1)) b.length)).toArray } }
        rw [strsFrom_eq]
        exact laid_strs (ys := Txt.split a b) I ((numbered_texts _ _).trans ((if_neg (ne_true_of_eq_false h1)).trans (if_neg (ne_true_of_eq_false hf))).symm) hl h
      · refine call_meets F.slot_str_split (typeIs_str _ _ _) F.entry_str_split (F.args_str_split_2 _ _) (meets_str_split_not_found a b t u h1 hb hf) ?_
        exact laid_strs (l := [(a, t)]) (ys := Txt.split a b) (k := s.toks) I ((if_neg (ne_true_of_eq_false h1)).trans (if_pos hf)).symm hl h
    · refine call_meets F.slot_str_split (typeIs_str _ _ _) F.entry_str_split (F.args_str_split_2 _ _) (meets_str_split_cannot_occur a b t u h1) ?_
      exact laid_strs (l := [(a, t)]) (ys := Txt.split a b) (k := s.toks) I (if_pos h1).symm hl h

theorem mt_partition : MtR X "str.partition" (fun x xs H Q => ∃ a b, x = .str a ∧ xs = [.str b] ∧ (b.length == 0) = false ∧ a.length ≤ sizeLine ∧
    ∀ p, H p = none → Q (.ref p) (upd H p (.tup [.str (Txt.partition a b).1, .str (Txt.partition a b).2.1, .str (Txt.partition a b).2.2]))) := by
  constructor
  intro pins s σ H x xs v us Q I rx rs h
  obtain ⟨a, b, rfl, rfl, hb, hz, h⟩ := h
  obtain ⟨t, rfl⟩ := rx
  cases rs with
  | cons r1 rs =>
    cases rs
    obtain ⟨u, rfl⟩ := r1
    refine call_meets F.slot_str_partition (typeIs_str _ _ _) F.entry_str_partition (F.args_str_partition_2 _ _) (meets_str_partition a b t u hb hz) ?_
    unfold Txt.partition at h
    revert h
    cases Builtin.Str.occurrences a b 0 a.length 1 with
    | nil => intro h; exact laid_parts I h
    | cons i r => intro h; exact laid_parts I h


theorem mt_join : MtR X "str.join" (fun x xs H Q => ∃ a p, ∃ ys : List Str, x = .str a ∧ xs = [.ref p] ∧ (SqL X.K H p (ys.map V.str) ∨ SqT X.K H p (ys.map V.str)) ∧
    (ys.map (·.length)).sum + ys.length * a.length ≤ 16777216 ∧ Q (.str (Txt.join a ys)) H) := by
  constructor
  intro pins s σ H x xs v us Q I rx rs h
  obtain ⟨a, p, ys, rfl, rfl, hp, hz, h⟩ := h
  obtain ⟨t, rfl⟩ := rx
  cases rs with
  | cons r1 rs =>
    cases rs
    cases r1
    rcases hp with hp | hp
    · obtain ⟨its, r, ⟨o, n, ho, hc, _, hd⟩, _⟩ := I.list hp
      exact PyProof.Rows.join_list (items := its.toArray) ⟨o, ho, hc, n, hd⟩ (by rw [List.toList_toArray]; exact strs_of_vals r) hz fun t' k => ⟨.str _, H, I.tok k, ⟨t', rfl⟩, h⟩
    · obtain ⟨its, r, ht, _⟩ := I.tuple hp
      exact PyProof.Rows.join_tuple (items := its.toArray) ht (by rw [List.toList_toArray]; exact strs_of_vals r) hz fun t' k => ⟨.str _, H, I.tok k, ⟨t', rfl⟩, h⟩


theorem call_int_str : CallR X (.type "int") (fun xs H Q => ∃ a n, xs = [.str a] ∧ PySem.intText? a = some n ∧ a.length ≤ 640 ∧ Q (.int n) H) := by
  constructor
  intro pins s σ H xs us Q I rs h
  obtain ⟨a, n, rfl, hn, hl, h⟩ := h
  cases rs with
  | cons r1 rs =>
    cases rs
    obtain ⟨t, rfl⟩ := r1
    exact PySem.W.KIN.call_text hn hl ⟨.int n, H, I.tok _, ⟨_, rfl⟩, h⟩
end

section
variable {X : Cx} {o e : Expr} {to te : TE}
noncomputable def tM1 (r : V → List V → Hp → VK → Prop) (to te : TE) : TE := fun σ H Q => to σ H fun x H1 => (∃ a, x = .str a) ∧ te σ H1 fun y H2 => r x [y] H2 Q
theorem pe_m1 {id : String} {name : Str} {apos pos : Pos} {r : V → List V → Hp → VK → Prop} (slot : Slot "str" name id) (ty : typeOf (.builtin id) = pure (.type "method_descriptor")) (rule : MtR X id r) (ho : PE X o to) (he : PE X e te)
    (hs : starEach [e] X.env = [(false, eval e X.env)] := by rfl) (hbase : attributeBase o name X.env (eval o X.env) = eval o X.env := by rfl) (hline : (apos.endLine == pos.line) = true := by rfl) :
    PE X (.Call (.Attribute o name apos) [e] [] pos) (tM1 r to te) := by
  constructor
  intro pins s σ H Q I h
  refine PySem.Call_method1 hbase hs hline (thn (ho pins s σ H _ I h) fun v s1 ⟨x, H1, I1, r1, q1⟩ => ?_)
  obtain ⟨⟨a, rfl⟩, q1⟩ := q1
  obtain ⟨t, rfl⟩ := _root_.id r1
  refine ⟨"str", _, F.plainAttrs_str, slot, ty, typeIs_str _ _ _, (fun _ e => nomatch e), Calls.callWith_builtin rfl (Calls.evalArgs_plain (Calls.spliced_cons ?_))⟩
  exact thn (he pins s1 σ H1 _ I1 q1) fun u s2 ⟨y, H2, I2, r2, q2⟩ => Calls.spliced_nil (rule pins s2 σ H2 _ [y] _ [u] Q I2 r1 (.cons r2 .nil) q2)

theorem pe_split {apos pos : Pos} (ho : PE X o to) (he : PE X e te) (hs : starEach [e] X.env = [(false, eval e X.env)] := by rfl) (hbase : attributeBase o "split" X.env (eval o X.env) = eval o X.env := by rfl) (hline : (apos.endLine == pos.line) = true := by rfl) :
    PE X (.Call (.Attribute o "split" apos) [e] [] pos) (tM1 (fun x xs H Q => ∃ a b, x = .str a ∧ xs = [.str b] ∧ (b.length == 0) = false ∧ a.length + 2 ≤ sizeLine ∧ rNewStrs (Txt.split a b) H Q) to te) :=
  pe_m1 F.slot_str_split F.type_str_split mt_split ho he hs hbase hline
theorem pe_partition {apos pos : Pos} (ho : PE X o to) (he : PE X e te) (hs : starEach [e] X.env = [(false, eval e X.env)] := by rfl) (hbase : attributeBase o "partition" X.env (eval o X.env) = eval o X.env := by rfl) (hline : (apos.endLine == pos.line) = true := by rfl) :
    PE X (.Call (.Attribute o "partition" apos) [e] [] pos) (tM1 (fun x xs H Q => ∃ a b, x = .str a ∧ xs = [.str b] ∧ (b.length == 0) = false ∧ a.length ≤ sizeLine ∧
      ∀ p, H p = none → Q (.ref p) (upd H p (.tup [.str (Txt.partition a b).1, .str (Txt.partition a b).2.1, .str (Txt.partition a b).2.2]))) to te) :=
  pe_m1 F.slot_str_partition F.type_str_partition mt_partition ho he hs hbase hline
theorem pe_join {apos pos : Pos} (ho : PE X o to) (he : PE X e te) (hs : starEach [e] X.env = [(false, eval e X.env)] := by rfl) (hbase : attributeBase o "join" X.env (eval o X.env) = eval o X.env := by rfl) (hline : (apos.endLine == pos.line) = true := by rfl) :
    PE X (.Call (.Attribute o "join" apos) [e] [] pos) (tM1 (fun x xs H Q => ∃ a p, ∃ ys : List Str, x = .str a ∧ xs = [.ref p] ∧ (SqL X.K H p (ys.map V.str) ∨ SqT X.K H p (ys.map V.str)) ∧
      (ys.map (·.length)).sum + ys.length * a.length ≤ 16777216 ∧ Q (.str (Txt.join a ys)) H) to te) :=
  pe_m1 F.slot_str_join F.type_str_join mt_join ho he hs hbase hline
end
end L2

namespace L2
open PySem PySem.Spec PyProof.Rows

section
variable {X : Cx}
theorem op_le_str : OpR X (compareOp .LtE) (fun x y H Q => ∃ i j, x = .str i ∧ y = .str j ∧ Q (.bl (!decide (j.cps.toList < i.cps.toList))) H) := by
  constructor
  intro pins s σ H x y v u Q I rx ry h
  obtain ⟨i, j, rfl, rfl, q⟩ := h
  obtain ⟨t, rfl⟩ := rx
  obtain ⟨t', rfl⟩ := ry
  exact PySem.P.le_str (fin_bl I q rfl)
theorem op_in_sign : OpR X (compareOp .In) (fun x y H Q => ∃ (c : Nat) (z : Str), x = .str ⟨#[c]⟩ ∧ y = .str z ∧ Q (.bl (decide (c ∈ z.cps.toList))) H) := by
  constructor
  intro pins s σ H x y v u Q I rx ry h
  obtain ⟨c, z, rfl, rfl, q⟩ := h
  obtain ⟨t, rfl⟩ := rx
  obtain ⟨t', rfl⟩ := ry
  exact PyProof.Rows.in_str (fin_bl I q (PySem.StrLaws.found_one z c).symm)
end


theorem IsPart.raw {v : Value} {o : Option Int} (p : IsPart v o) : ∃ l : Option (Int × Tok), v = partValue l ∧ l.map (·.1) = o := by
  cases p with
  | none => exact ⟨none, rfl, rfl⟩
  | int i t => exact ⟨some (i, t), rfl, rfl⟩


noncomputable def clipS (n d : Nat) : Option Int → Int
  | none => (d : Int)
  | some i => max 0 (min (if i < 0 then i + (n : Int) else i) (n : Int))
theorem clipS_eq (n d : Nat) (o : Option Int) : clipS n d o = ((HT.sIx n d o : Nat) : Int) := by
  cases o with
  | none => rfl
  | some v =>
    show max (0 : Int) (min (if v < 0 then v + (n : Int) else v) (n : Int)) = (((if v < 0 then (v + (n : Int)).toNat else min v.toNat n) : Nat) : Int)
    by_cases hv : v < 0
    · simp only [if_pos hv]
      omega
    · simp only [if_neg hv]
      omega
theorem sidx_clip (a b : Option Int) (n : Nat) : Builtin.Str.strSliceIndices a b 1 n = sliceRange (clipS n 0 a) (clipS n n b) 1 := by
  have h1 : ((1 : Int) > 0) = True := by simp
  cases a <;> cases b <;> first
    | rfl
    | (simp only [Builtin.Str.strSliceIndices, clipS, h1, if_true]; rfl)
    | simp [Builtin.Str.strSliceIndices, clipS]
theorem sidx (a b : Option Int) (n : Nat) : Builtin.Str.strSliceIndices a b 1 n = (List.range (HT.sIx n n b - HT.sIx n 0 a)).map (fun k => HT.sIx n 0 a + k) := by
  rw [sidx_clip, clipS_eq, clipS_eq]
  generalize HT.sIx n 0 a = p
  generalize HT.sIx n n b = q
  simp only [sliceRange, show ((1 : Int) > 0) = True from by simp, if_true]
  by_cases hlt : (p : Int) < q
  · have e3 : (((q : Int) - p + 1 - 1) / 1).toNat = q - p := by first | omega | (simp; done) | (simp; omega)
    simp only [hlt, if_true, e3]
    refine List.map_congr_left fun k _ => ?_
    omega
  · have : q - p = 0 := by omega
    simp [hlt, this]


noncomputable def cutS (z : Str) (lo hi : Option Int) : Str :=
  ⟨((z.cps.toList.drop (HT.sIx z.length 0 lo)).take (HT.sIx z.length z.length hi - HT.sIx z.length 0 lo)).toArray⟩
theorem sliceText_cut (z : Str) (lo hi : Option Int) : PySem.StrLaws.sliceText z lo hi = cutS z lo hi := by
  have h1 : HT.sIx z.length 0 lo ≤ z.length := HT.sIx_le _ _ (Nat.zero_le _) _
  have h2 : HT.sIx z.length z.length hi ≤ z.length := HT.sIx_le _ _ (Nat.le_refl _) _
  have hp : HT.sIx z.length 0 lo ≤ max (HT.sIx z.length 0 lo) (HT.sIx z.length z.length hi) := Nat.le_max_left _ _
  have hq : max (HT.sIx z.length 0 lo) (HT.sIx z.length z.length hi) ≤ z.length := Nat.max_le.mpr ⟨h1, h2⟩
  have hd : max (HT.sIx z.length 0 lo) (HT.sIx z.length z.length hi) - HT.sIx z.length 0 lo = HT.sIx z.length z.length hi - HT.sIx z.length 0 lo := by omega
  have e : Builtin.Str.strSliceIndices lo hi 1 z.length =
      Builtin.Str.strSliceIndices (some ((HT.sIx z.length 0 lo : Nat) : Int)) (some ((max (HT.sIx z.length 0 lo) (HT.sIx z.length z.length hi) : Nat) : Int)) 1 z.length := by
    rw [PySem.StrLaws.strSliceIndices_plain hp hq, hd, sidx]
  have e2 : PySem.StrLaws.sliceText z lo hi =
      PySem.StrLaws.sliceText z (some ((HT.sIx z.length 0 lo : Nat) : Int)) (some ((max (HT.sIx z.length 0 lo) (HT.sIx z.length z.length hi) : Nat) : Int)) := by
    unfold PySem.StrLaws.sliceText
    rw [e]
  rw [e2, PySem.StrLaws.sliceText_nat z hp hq, hd]
  rfl
theorem cutS_length (z : Str) (lo hi : Option Int) : (cutS z lo hi).length ≤ z.length := by
  show (((z.cps.toList.drop (HT.sIx z.length 0 lo)).take (HT.sIx z.length z.length hi - HT.sIx z.length 0 lo)).toArray).size ≤ z.cps.size
  rw [List.size_toArray, List.length_take, List.length_drop, Array.length_toList]
  omega
noncomputable def rSlS : V → Option Int → Option Int → Hp → VK → Prop := fun x lo hi H Q => ∃ z, x = .str z ∧ z.length ≤ sizeLine ∧ Q (.str (cutS z lo hi)) H
theorem sl_str {X : Cx} : SlR X rSlS := by
  constructor
  intro pins s σ H x v vl vu lo hi sl Q I rx hs pl pu h
  obtain ⟨z, rfl, hz, q⟩ := h
  obtain ⟨t, rfl⟩ := rx
  obtain ⟨os, hos, hcs, hds⟩ := hs
  obtain ⟨l, rfl, rfl⟩ := IsPart.raw pl
  obtain ⟨u, rfl, rfl⟩ := IsPart.raw pu
  refine ⟨"str", _, F.slot_str_getitem.lookup, typeIs_str _ _ _, ?_⟩
  refine wpAny_getItem_str_slice (l := l) (u := u) (st := none) ⟨os, hos, hcs, hds⟩ rfl ?_
  have hl : (PySem.StrLaws.sliceText z (l.map (·.1)) (u.map (·.1))).length ≤ sizeLine := by
    rw [sliceText_cut]
    exact Nat.le_trans (cutS_length z _ _) hz
  rw [← sliceText_cut] at q
  unfold PySem.StrLaws.sliceText at q hl
  show Made.post (if ((1 : Int) == 1 && (Builtin.Str.strSliceIndices (l.map (·.1)) (u.map (·.1)) 1 z.length).length == z.length) = true then Made.val (.str z t)
    else Made.str ⟨((Builtin.Str.strSliceIndices (l.map (·.1)) (u.map (·.1)) 1 z.length).filterMap (z.cps[·]?)).toArray⟩) (EP X pins σ Q) s
  by_cases c : ((1 : Int) == 1 && (Builtin.Str.strSliceIndices (l.map (·.1)) (u.map (·.1)) 1 z.length).length == z.length) = true
  · rw [if_pos c] at q ⊢
    exact ⟨.str z, H, I, ⟨t, rfl⟩, q⟩
  · rw [if_neg c] at q hl ⊢
    exact ⟨hl, .str _, H, I.tok _, ⟨_, rfl⟩, q⟩
end L2

namespace Att
open PySem PySem.W PySem.Calls PyProof.Rows


theorem ints_of_wellAll {P : Params} {h : Heap} : ∀ (ns : List Int) (vs : List Value), WellAll P h vs (ns.map WData.int) → IntsAre vs ns := by
  intro ns
  induction ns with
  | nil =>
    intro vs w
    rw [List.map_nil] at w
    cases w
    exact .nil
  | cons n ns ih =>
    intro vs w
    rw [List.map_cons] at w
    cases w with
    | cons a b =>
      cases a
      exact .cons _ _ (ih _ b)

theorem script_of {l : OpenLaw} {n : Nat} (hn : l.most = some n) {P : Params} {h : Heap} {args : List WData} {vals : List Value}
    (hpre : l.row.toRowW.claim.pre args = true) (hwl : WellAll P h vals args) :
    ∃ a vs ns, vals = [Value.ref a] ∧ args = [WData.list (ns.map WData.int)] ∧ h.get? a = some { cls := .type "list", data := .seq vs.toArray } ∧ IntsAre vs ns ∧ ns.length ≤ n := by
  have hsh : WShape.hasAll [] args [.list .int] = true := (pre_splitW hpre).1
  have hc : l.pre.holds [] { args := args } = true := (pre_splitW hpre).2
  obtain ⟨d, r, rfl, h1, h2⟩ := hasAllW_cons hsh
  obtain rfl := hasAllW_nil h2
  obtain ⟨xs, rfl, h3⟩ := hasW_list h1
  obtain ⟨ns, rfl⟩ := items_int h3
  have hlen : ns.length ≤ n := by
    unfold OpenLaw.pre at hc
    have h4 : (WTm.not (.lt (.lit (.int (n : Int))) (.len (.arg 0)))).holds [] { args := [.list (ns.map .int)] } = true := by
      have h4 := (holds_andW hc).1
      rw [hn] at h4
      exact h4
    have h5 := condW_of h4 (w_not (w_lt w_lit (w_len_list (w_arg rfl))))
    rw [List.length_map] at h5
    refine Nat.le_of_not_lt fun q => ?_
    have q' : (n : Int) < ((ns.length : Nat) : Int) := by omega
    first
      | (rw [decide_eq_true q'] at h5; exact absurd h5 (by decide))
      | (simp at h5; omega)
  cases hwl with
  | cons w1 w2 =>
    cases w2
    cases w1 with
    | list ho hall => exact ⟨_, _, ns, rfl, rfl, ho, ints_of_wellAll ns _ hall, hlen⟩

theorem post_true (l : OpenLaw) (args : List WData) : l.row.toRowW.claim.post args (.bool true) args = true :=
  postW_of (r := l.row.toRowW) (X := (true == true))
    (show WShape.has [] (.bool true) .bool = true by first | rfl | decide | simp [WShape.has, WShape.arms, WShape.armsAll])
    (show (WTm.eq .res (.lit (.bool true))).value [] { args := args, res := some (.bool true), after := args } = some (.bool (true == true)) from w_eq_bool (w_res rfl) w_lit) rfl


theorem attach_call {l : OpenLaw} {n : Nat} {q : Program} {loose : List Str} {XP : (Str → Option Value) → Heap → Prop} {YP : World → Heap → Prop} {d : DefRec}
    (hn : l.most = some n) (hdf : d.params.defaults = [])
    (call : ∀ (w : World) (s₀ s₁ : Shared) (mg mb : Str → Option Value) (fa : Addr) (o : Obj) (pm cd doc : Value) (a : Addr) (vs : List Value) (ns : List Int),
      Ground q loose [] XP w s₀ mg mb s₁.heap → YP w s₁.heap →
      s₁.heap.get? fa = some o → o.data = .func (docDef d.name d.params d.body d.scope pm cd doc) → s₁.heap.CodeRec cd d.name → mg d.name = some (.ref fa) →
      s₁.heap.get? a = some { cls := .type "list", data := .seq vs.toArray } → IntsAre vs ns → ns.length ≤ n → s₁.gens = #[] →
      codeAny (model l.prog w) callerA (.call (.ref fa) ⟨[.ref a], []⟩) (fun r s' => r = .ok (.ret (.bool true)) ∧ OldK s₁.heap s'.heap ∧ s'.os = s₁.os ∧ AllBare s'.gens) s₁) :
    WalkO q loose XP YP l.row.toRowW d [] (fun f vs => PySem.call f vs) := by
  intro w s₀ s₁ mg mb G Y fa o pm cd doc dV kV ho hd hcd hD hmg hg args vals as hpre hlay hrd hwl hlo
  obtain rfl : dV = .none := Dflts.none hD hdf
  obtain rfl : kV = .none := Dflts.noKw hD
  obtain ⟨a, vs, ns, rfl, rfl, hobj, hints, hlen⟩ := script_of hn hpre hwl
  refine enter_call (codeAny_mono (call w s₀ s₁ mg mb fa o pm cd doc a vs ns G Y ho (fd_plain hd) hcd hmg hobj hints hlen hg) fun r s' hq => ?_)
  obtain ⟨rfl, h2, h3, h4⟩ := hq
  exact ⟨.inl ⟨.bool true, .bool true, [], rfl, fun _ => rfl, .bool true, post_true l _, fun _ => ⟨List.Pairwise.nil, fun _ hm => (nomatch hm)⟩⟩, h2, h3, h4⟩


section
variable {prog : Program} {w : World} {A : Around} {E : Value → Shared → Prop} {s : Shared} {K : Frag}


end
end Att

namespace L2
open PySem PySem.Spec PyProof.Rows

theorem vals_ints : ∀ {vs : List Value} {ns : List Int}, IntsAre vs ns → Vals (ns.map V.int) vs
  | _, _, .nil => .nil
  | _, _, .cons n t h => .cons ⟨t, rfl⟩ (vals_ints h)


noncomputable def Only (H : Hp) : Prop := ∀ b, H b = none ∨ ∃ o xs, H b = some (.frz o (.lst xs))


theorem law_call {P : Program} {w : World} {K : PySem.W.Frag} {mg mb : Str → Option Value} {CX : CXT} {k : Nat} {fa a : Addr} {fd : FuncData} {x : Str} {sp : Sp} {s₁ : Shared} {vs : List Value} {ns : List Int}
    (KX : K.In s₁.heap) (hns : s₁.heap.Ns mainGlobals mg) (hb : s₁.heap.Ns builtinsNs mb) (hbb : ∀ x : Str, x ≠ "__name__" → mb x = bootBuiltins x) (hlim : s₁.heap.NoLimit) (hg : s₁.gens = #[])
    (ha : s₁.heap.get? a = some { cls := .type "list", data := .seq vs.toArray }) (hi : IntsAre vs ns) (hl : ns.length ≤ sizeLine) (hr : Room k callerA)
    (F : ∀ base : Heap, K.In base → base.Ns mainGlobals mg → FnOk P w K mg base CX k fa fd [x] sp) (hbind : ∀ (s : Shared) (u : Value), BindsTo s fd ⟨[u], []⟩ [(x, u)])
    (hsp : ∀ H : Hp, Only H → SqL K H a (ns.map V.int) → sp [.ref a] H (fun v _ => v = .bl true) fun _ _ _ => False)
    (hCX : ∀ H e s', CX [] H s₁ (fun _ _ _ => False) e s' → False) :
    codeAny (model P w) callerA (.call (.ref fa) ⟨[.ref a], []⟩) (fun r s' => r = .ok (.ret (.bool true)) ∧ OldK s₁.heap s'.heap ∧ s'.os = s₁.os ∧ AllBare s'.gens) s₁ := by
  have rv := vals_ints hi
  have lenV := hi.length
  -- from an abstract heap in which nothing but the script may be tracked
  have core : ∀ H : Hp, Only H → SqL K H a (ns.map V.int) → HOk P w H s₁.heap → (∀ b, H b ≠ none → b = a) → (H a ≠ none → K.lookup a = none) →
      codeAny (model P w) callerA (.call (.ref fa) ⟨[.ref a], []⟩) (fun r s' => r = .ok (.ret (.bool true)) ∧ OldK s₁.heap s'.heap ∧ s'.os = s₁.os ∧ AllBare s'.gens) s₁ := by
    intro H hO hS hok hA hK
    have base_of : ∀ {b : Addr} {o : Obj}, s₁.heap.get? b = some o → H b = none → (hidT s₁.heap H).get? b = some o := fun e n => hidT_get e n
    have noA : ∀ {b : Addr} {o : Obj} {es : Array DictEntry} {ep : Nat}, s₁.heap.get? b = some o → o.data = .dict es ep → H b = none := fun {b o es ep} e d => by
      cases q : H b with
      | none => rfl
      | some u =>
        have e' : b = a := hA b (by rw [q]; simp)
        subst e'
        rw [ha] at e; cases e
        have d' : Data.seq vs.toArray _ = Data.dict es ep := d
        cases d'
    have nsK : ∀ {b : Addr} {m : Str → Option Value}, s₁.heap.Ns b m → (hidT s₁.heap H).Ns b m := fun {b m} ⟨o, es, ep, e, d, r⟩ => ⟨o, es, ep, base_of e (noA e d), d, r⟩
    have hKb : K.In (hidT s₁.heap H) := fun b o e => base_of (KX b o e) (by
      cases q : H b with
      | none => rfl
      | some u =>
        have e' : b = a := hA b (by rw [q]; simp)
        subst e'
        rw [hK (by rw [q]; simp)] at e; cases e)
    have hM : Mod K mg (hidT s₁.heap H) := ⟨hKb, nsK hns, ⟨mb, nsK hb, hbb⟩, let ⟨mc, h1, h2⟩ := hlim; ⟨mc, nsK h1, h2⟩⟩
    have e0 : Env0 P w K mg (hidT s₁.heap H) callerA [] s₁ H := ⟨rfl, hM, fun b o e => of_hidT e, Nat.le_of_eq (hidT_size _ _), trivial, fun b hb => absurd (show b ∈ ([] : List Addr) from hb) (by simp), hok, .of_eq hg⟩
    refine codeAny_mono ((F _ hKb (nsK hns)).run callerA [] s₁ H ⟨[.ref a], []⟩ [.ref a] [.ref a] _ _ hr e0 (hbind s₁ (.ref a)) (.cons rfl .nil) (hsp H hO hS)) fun r s' h => ?_
    cases r with
    | error e => exact (hCX H e s' h).elim
    | ok fl =>
      cases fl with
      | next => exact False.elim h
      | brk => exact False.elim h
      | cont => exact False.elim h
      | ret u =>
        obtain ⟨v, H', os, bare, un, hok', r', q⟩ := h
        have q' : v = .bl true := q
        subst q'
        obtain rfl : u = Value.bool true := r'
        refine ⟨rfl, OldK.of_keep fun b o e => ?_, os, bare⟩
        cases q : H b with
        | none => exact un.keep b o e q (by intro z; exact absurd (show b ∈ ([] : List Addr) from z) (by simp)) (by simp)
        | some u =>
          rcases hO b with z | ⟨ob, xs, z⟩
          · rw [q] at z; cases z
          · have z2 := un.frzs b ob _ z
            obtain ⟨e1, _⟩ := hok b _ z
            obtain ⟨e2, _⟩ := hok' b _ z2
            rw [e] at e1; cases e1
            exact e2
  cases hk : K.lookup a with
  | some o =>
    -- the script is one of the module's own objects
    have e := KX a o hk
    rw [ha] at e
    cases e
    refine core (fun _ => none) (fun _ => .inl rfl) (.inr ⟨_, vs.toArray, _, hk, rfl, rfl, rfl, by rw [List.size_toArray, lenV]; exact hl, by simpa using rv⟩) (fun b u z => by have z' : (none : Option HO) = some u := z; cases z') (fun b z => absurd rfl z) fun z => absurd rfl z
  | none =>
    refine core (fun b => if b = a then some (.frz { cls := .type "list", data := .seq vs.toArray } (.lst (ns.map V.int))) else none) (fun b => ?_) (.inl (.inr ⟨{ cls := .type "list", data := .seq vs.toArray }, if_pos rfl⟩)) (fun b u z => ?_) (fun b z => ?_) fun _ => hk
    · by_cases hb : b = a
      · exact .inr ⟨_, _, if_pos hb⟩
      · exact .inl (if_neg hb)
    · by_cases hb : b = a
      · have z' := (if_pos hb).symm.trans z
        cases z'
        subst hb
        exact ⟨ha, by rw [List.length_map]; exact hl, vs, _, rv, ha⟩
      · have z' := (if_neg hb).symm.trans z
        cases z'
    · by_cases hb : b = a
      · exact hb
      · exact absurd (if_neg hb) z
end L2

namespace L2
open PySem PySem.Spec PyProof.Rows

theorem walk_of {l : PySem.W.OpenLaw} {n k : Nat} {q : Program} {loose : List Str} {XP : (Str → Option Value) → Heap → Prop} {YP : World → Heap → Prop} {d : DefRec} {K : Params → PySem.W.Frag} {CX : World → CXT} {sp : World → Sp} {x : Str}
    (hn : l.most = some n) (hn2 : n ≤ sizeLine) (hdf : d.params.defaults = []) (hr : Room k callerA)
    (hY : ∀ (w : World) (h : Heap), YP w h → (K w.params).In h)
    (F : ∀ (w : World) (mg : Str → Option Value) (fa : Addr) (h : Heap), (K w.params).In h → h.Ns mainGlobals mg → mg d.name = some (.ref fa) →
      ∃ fd : FuncData, (∀ (s : Shared) (u : Value), BindsTo s fd ⟨[u], []⟩ [(x, u)]) ∧
        ∀ base : Heap, (K w.params).In base → base.Ns mainGlobals mg → FnOk l.prog w (K w.params) mg base (CX w) k fa fd [x] (sp w))
    (hsp : ∀ (w : World) (H : Hp) (a : Addr) (ns : List Int), ns.length ≤ n → Only H → SqL (K w.params) H a (ns.map V.int) → sp w [.ref a] H (fun v _ => v = .bl true) fun _ _ _ => False)
    (hCX : ∀ (w : World) (H : Hp) (s : Shared) (e : Value) (s' : Shared), CX w [] H s (fun _ _ _ => False) e s' → False) :
    PySem.W.WalkO q loose XP YP l.row.toRowW d [] (fun f vs => PySem.call f vs) := by
  refine Att.attach_call hn hdf fun w s₀ s₁ mg mb fa o pm cd doc a vs ns G Y ho hd hcd hmg hobj hints hlen hg => ?_
  have KX := hY w _ Y
  obtain ⟨fd, hb, hF⟩ := F w mg fa _ KX G.T.g hmg
  exact law_call KX G.T.g G.T.b G.T.builtins G.T.nolimit hg hobj hints (Nat.le_trans hlen hn2) hr hF hb (fun H hO hS => hsp w H a ns hlen hO hS) fun H e s' => hCX w H s₁ e s'

end L2




namespace L2
open PySem PySem.Spec PyProof.Rows



noncomputable def defArgs (s : Stmt) : Arguments := match s with
  | .FunctionDef _ a _ _ _ _ _ _ _ _ => a
  | _ => { posonlyargs := [], args := [], vararg := none, kwonlyargs := [], kw_defaults := [], kwarg := none, defaults := [] }
noncomputable def defBody (s : Stmt) : List Stmt := match s with
  | .FunctionDef _ _ b _ _ _ _ _ _ _ => b
  | _ => []
noncomputable def defScope (s : Stmt) : Scope := match s with
  | .FunctionDef _ _ _ _ _ _ sc _ _ _ => sc
  | _ => { kind := .function, names := [], isGenerator := false, isCoroutine := false }


noncomputable abbrev CX0 : CXT := fun _ _ _ _ _ _ => False
noncomputable abbrev E0 : XK := fun _ _ _ => False
theorem pass0 {X : Cx} : Passes CX0 X E0 := fun _ _ _ _ _ _ _ h => h.elim


structure Fun (K : PySem.W.Frag) (x qual : Str) (st : Stmt) (f : Addr) (fd : FuncData) : Prop where
  ex : ∃ (oc : Value) (od : Option Addr) (kV doc pm : Value) (an : Option Addr) (cdv ct : Value) (osl : Array (Option Value)),
    fd = PySem.W.fnOf x qual (defArgs st) (defBody st) (defScope st) .none kV doc pm an cdv ct ∧ K.lookup f = some ⟨oc, od, .func fd, osl⟩ ∧ PySem.W.codeIn K cdv qual = true
  kp : PySem.W.keepIn K (.ref f) = true
section
variable {P : Program} {w : World} {K : PySem.W.Frag} {mg : Str → Option Value} {base : Heap}

theorem Fun.ok {x qual : Str} {st : Stmt} {f : Addr} {fd : FuncData} {N ps : List Str} {k : Nat} {sp : Sp} (F : Fun K x qual st f fd) (S : FnScope N ps (defScope st)) (len : ∀ vs H Q E, sp vs H Q E → vs.length = ps.length)
    (hbody : ∀ (cdv : Value) (A : Around) (outer : List Env) (s : Shared) (H : Hp) (vs : List V) (Q : VK) (E : XK), Room k (A.deeper (envOfC qual (defScope st) s.heap.objs.size f cdv)) → sp vs H Q E →
      ∃ t, PSs (cxOf CX0 P w K mg base N qual (defScope st) f cdv A outer s H E).nox (defBody st) t ∧ t { nx := fun _ H' => Q .non H', rt := Q } (start N vs) H) : FnOk P w K mg base CX0 (k + 1) f fd ps sp := by
  obtain ⟨oc, od, kV, doc, pm, an, cdv, ct, osl, rfl, lk, hcd⟩ := F.ex
  refine fn_of lk hcd S len fun A outer s H vs Q E hr hsp => ?_
  obtain ⟨t, h, q⟩ := hbody cdv A outer s H vs Q E hr hsp
  exact ⟨t, h.nox, q⟩

theorem Fun.binds {x qual : Str} {st : Stmt} {f : Addr} {fd : FuncData} {ps : List Str} (F : Fun K x qual st f fd)
    (h : ∀ (kV doc pm : Value) (an : Option Addr) (cdv ct : Value) (us : List Value), us.length = ps.length → bindArgs (PySem.W.fnOf x qual (defArgs st) (defBody st) (defScope st) .none kV doc pm an cdv ct) ⟨us, []⟩ = pure (ps.zip us)) : Binds K fd ps [] := by
  obtain ⟨oc, od, kV, doc, pm, an, cdv, ct, osl, rfl, lk, hcd⟩ := F.ex
  exact .all (h kV doc pm an cdv ct)
theorem fun_mk {x qual : Str} {st : Stmt} {f : Addr} {oc : Value} {od an : Option Addr} {osl : Array (Option Value)} {kV doc pm cdv ct : Value} (l : K.lookup f = some ⟨oc, od, .func (PySem.W.fnOf x qual (defArgs st) (defBody st) (defScope st) .none kV doc pm an cdv ct), osl⟩)
    (c : PySem.W.codeIn K cdv qual = true) (k : PySem.W.keepIn K (.ref f) = true) : Fun K x qual st f (PySem.W.fnOf x qual (defArgs st) (defBody st) (defScope st) .none kV doc pm an cdv ct) := ⟨⟨oc, od, kV, doc, pm, an, cdv, ct, osl, rfl, l, c⟩, k⟩
end
section
variable {X : Cx}
theorem pv (i : Nat) {x : Str} {pos : Pos} (hN : X.N[i]? = some x := by rfl) (hv : Vis X.env.scope x := by first | exact Or.inl rfl | exact Or.inr (Or.inl rfl) | exact Or.inr (Or.inr rfl)) (hd : (x == ("__debug__" : Str)) = false := by decide)
    (hcd : (x == ("__classdict__" : Str)) = false := by decide) : PE X (.Name x pos) (tVar i) := pe_var hN hv hd hcd

theorem call_lenD : CallR X (.builtin "len") (fun xs H Q => ∃ a kvs, xs = [V.ref a] ∧ H a = some (.dK kvs) ∧ Q (.int kvs.length) H) := by
  constructor
  intro pins s σ H xs us Q I r h
  obtain ⟨a, kvs, rfl, ha, q⟩ := h
  obtain ⟨u, rfl, ru⟩ := vals1 r
  cases ru
  exact d_len I (.inl ha) fun t s' I' => ⟨.int kvs.length, H, I', ⟨t, rfl⟩, q⟩
end


theorem iteF {A B : Prop} (h : B) : if false = true then A else B := by
  rw [if_neg Bool.false_ne_true]
  exact h
theorem iteT {A B : Prop} (h : A) : if true = true then A else B := by
  rw [if_pos rfl]
  exact h
theorem ite2 {c A B : Prop} [Decidable c] (h1 : c → A) (h2 : ¬ c → B) : if c then A else B := by
  by_cases h : c
  · rw [if_pos h]
    exact h1 h
  · rw [if_neg h]
    exact h2 h
theorem iteNS {c A B : Prop} [Decidable c] (hc : c) (h : B) : if (!decide c) = true then A else B := by
  rw [decide_eq_true hc]
  exact iteF h



noncomputable def Same (H H' : Hp) : Prop := ∀ b o, H b = some o → H' b = some o
theorem Same.refl (H : Hp) : Same H H := fun _ _ h => h
theorem Same.trans {H H1 H2 : Hp} (a : Same H H1) (b : Same H1 H2) : Same H H2 := fun c o h => b c o (a c o h)
theorem Same.free {H H' : Hp} (e : Same H H') {l : Addr} (h : H' l = Option.none) : H l = Option.none := by
  cases q : H l with
  | none => rfl
  | some o =>
    rw [e l o q] at h
    cases h
theorem Same.seq {K : PySem.W.Frag} {H H' : Hp} {a : Addr} {xs : List V} (e : Same H H') (h : SqL K H a xs) : SqL K H' a xs := by
  rcases h with (h | ⟨o, h⟩) | h
  · exact .inl (.inl (e _ _ h))
  · exact .inl (.inr ⟨o, e _ _ h⟩)
  · exact .inr h


section
variable {κ : Type} [DecidableEq κ]
end

end L2

set_option Elab.async false
set_option linter.all false
set_option maxRecDepth 100000

namespace L2
open PySem PySem.Spec PyProof.Rows
section
variable {X : Cx}

noncomputable def rIsI (K : PySem.W.Frag) : List V → Hp → VK → Prop := fun vs H Q => ∃ x n t b, vs = [x, .ty n] ∧ TyOf K H x t ∧ PySem.W.kitOne K t (.type n) = some b ∧ Q (.bl b) H
theorem call_isinst : CallR X (.builtin "isinstance") (rIsI X.K) := by
  constructor
  intro pins s σ H xs us Q I r h
  obtain ⟨x, n, t, b, rfl, ty, e, q⟩ := h
  cases r with
  | cons r1 rr =>
    cases rr with
    | cons r2 rr =>
      cases rr
      cases r2
      exact isinst_ok I r1 ty e fun tk => ⟨.bl b, H, I.tok tk, rfl, q⟩

theorem op_rep_str : OpR X (binaryOp .Mult) (fun x y H Q => ∃ z n, x = .str z ∧ y = .int n ∧ 1 < n ∧ n ≤ 1000 ∧ 0 < z.length ∧ z.length ≤ 1000 ∧ Q (.str ⟨(List.replicate n.toNat z.cps).foldl (· ++ ·) #[]⟩) H) := by
  constructor
  intro pins s σ H x y v u Q I rx ry h
  obtain ⟨z, n, rfl, rfl, h1, h2, h3, h4, q⟩ := h
  obtain ⟨t, rfl⟩ := rx
  obtain ⟨t', rfl⟩ := ry
  have e : (n == 1 || z.length == 0) = false := by
    rw [Bool.or_eq_false_iff]
    exact ⟨beq_eq_false_iff_ne.mpr (by omega), beq_eq_false_iff_ne.mpr (by omega)⟩
  have hl : ∀ (k : Nat) (a : Array Nat), ((List.replicate k z.cps).foldl (· ++ ·) a).size = a.size + k * z.cps.size := by
    intro k
    induction k with
    | zero => intro a; simp
    | succ k ih => intro a; rw [List.replicate_succ, List.foldl_cons, ih, Array.size_append, Nat.add_mul]; omega
  have hb : z.length * n.toNat ≤ 1000 * 1000 := Nat.mul_le_mul h4 (by omega)
  have tl : Builtin.Str.tooLong (z.length * n.toNat) = false := notLong (by omega)
  refine PySem.P.mul_str ?_ (fun _ _ => ?_) (fun _ _ => tl) ?_
  · rw [Bool.or_eq_false_iff]
    exact ⟨decide_eq_false (by omega), decide_eq_false (by omega)⟩
  · have h63 : (1000000 : Int) ≤ (2 ^ 63 - 1) / n := by
      refine (Int.le_ediv_iff_mul_le (by omega : (0:Int) < n)).mpr ?_
      omega
    omega
  · rw [if_neg (by omega), e]
    have hs : sizeLine = 16777216 := sizeLine_eq
    refine ⟨?_, .str _, H, I.tok _, ⟨_, rfl⟩, q⟩
    show ((List.replicate n.toNat z.cps).foldl (· ++ ·) #[]).size ≤ sizeLine
    rw [hl]
    have : z.length = z.cps.size := rfl
    rw [this, Nat.mul_comm] at hb
    simp
    omega
end


theorem lc_str_map {x : Str} {g : TG} {tt : TT} {te : TE} {vs : List Nat} {σ : St} {H1 : Hp} {D : Addr} {Qd : Hp → Prop} (f : Nat → V) (hz : x.cps.size < sizeLine)
    (hs : ∀ c H (R : VK) (F : Hp → Prop), c ∈ x.cps.toList → R (f c) H → g (.str ⟨#[c]⟩) (wipe σ vs) H fun σ2 H2 => wipe σ2 vs = wipe σ vs ∧ tt σ2 H2 fun b H3 => if b = true then te σ2 H3 R else F H3)
    (hd : Qd (upd H1 D (.lst (x.cps.toList.map f)))) :
    ∃ W : Nat → Nat → Hp → Prop, (∃ m, W 0 m (upd H1 D (.lst []))) ∧ ∀ i m H, W i m H →
      ((Its x).stop i H ∧ Qd H) ∨ ((Its x).go i H ∧ ∃ Nx : Hp → Prop, (∀ H', Nx H' → ∃ m', m' < m ∧ W (i + 1) m' H') ∧ ∀ v H', (Its x).yld i H v H' → g v (wipe σ vs) H' fun σ2 H2 => wipe σ2 vs = wipe σ vs ∧ tt σ2 H2 fun b H3 =>
        if b = true then te σ2 H3 fun y H4 => ∃ acc, H4 D = some (.lst acc) ∧ acc.length < sizeLine ∧ Nx (upd H4 D (.lst (acc ++ [y]))) else Nx H3) := by
  refine ⟨fun i m H => m = x.cps.size - i ∧ i ≤ x.cps.size ∧ H = upd H1 D (.lst ((x.cps.toList.take i).map f)), ⟨x.cps.size, rfl, Nat.zero_le _, rfl⟩, ?_⟩
  rintro i m H ⟨rfl, hi, rfl⟩
  by_cases hlt : i < x.cps.size
  · refine .inr ⟨hlt, fun H => H = upd H1 D (.lst ((x.cps.toList.take (i + 1)).map f)), fun H' p' => ⟨x.cps.size - (i + 1), by omega, rfl, hlt, p'⟩, fun v H' y => ?_⟩
    obtain ⟨rfl, c, hc, rfl⟩ := y
    have hc' : x.cps.toList[i]? = some c := by simpa using hc
    refine hs c _ _ _ (List.mem_of_getElem? hc') ⟨_, upd_same, ?_, ?_⟩
    · rw [List.length_map, List.length_take]
      omega
    · rw [upd_upd, List.take_succ, hc', List.map_append]
      rfl
  · have e : i = x.cps.size := by omega
    subst e
    refine .inl ⟨Nat.le_refl _, ?_⟩
    have : x.cps.toList.take x.cps.size = x.cps.toList := List.take_of_length_le (by simp)
    rw [this]
    exact hd


theorem bt_len : bootBuiltins "len" = some (.builtin "len") := by decide +kernel
theorem bt_abs : bootBuiltins "abs" = some (.builtin "abs") := by decide +kernel
theorem bt_max : bootBuiltins "max" = some (.builtin "max") := by decide +kernel
theorem bt_min : bootBuiltins "min" = some (.builtin "min") := by decide +kernel
theorem bt_isinstance : bootBuiltins "isinstance" = some (.builtin "isinstance") := by decide +kernel
theorem bt_all : bootBuiltins "all" = some (.builtin "all") := by decide +kernel
theorem bt_int : bootBuiltins "int" = some (.type "int") := by decide +kernel
theorem bt_str : bootBuiltins "str" = some (.type "str") := by decide +kernel
theorem bt_bool : bootBuiltins "bool" = some (.type "bool") := by decide +kernel
theorem bt_list : bootBuiltins "list" = some (.type "list") := by decide +kernel
theorem bt_tuple : bootBuiltins "tuple" = some (.type "tuple") := by decide +kernel
theorem bt_set : bootBuiltins "set" = some (.type "set") := by decide +kernel
end L2

set_option Elab.async false
set_option linter.all false
set_option maxRecDepth 100000

namespace My
open PySem PySem.Spec PyProof.Rows L2


structure Def (K : PySem.W.Frag) (mg : Str → Option Value) (x : Str) (st : Stmt) (fa : Addr) (fd : FuncData) : Prop where
  mg : mg x = some (.ref fa)
  fn : Fun K x x st fa fd


theorem same_new {H : Hp} {p : Addr} {o : HO} (h : H p = none) : Same H (upd H p o) := fun b u e => by
  rw [upd_ne (ne_of_none e h)]; exact e
noncomputable def Bag (H : Hp) (b : Addr) : Prop := ∃ g x : Int, H b = some (.lst [.int g, .int x]) ∧ 0 ≤ g ∧ 0 ≤ x ∧ x < 2147483648

noncomputable def Eff (b : Addr) (H H' : Hp) : Prop := Bag H' b ∧ ∀ c o, c ≠ b → H c = some o → H' c = some o
theorem Bag.same {H H' : Hp} {b : Addr} (h : Bag H b) (s : Same H H') : Bag H' b := by
  obtain ⟨g, x, e, r⟩ := h
  exact ⟨g, x, s _ _ e, r⟩
theorem Bag.eff {H : Hp} {b : Addr} (h : Bag H b) {H' : Hp} (s : Same H H') : Eff b H H' := ⟨h.same s, fun c o _ e => s c o e⟩
theorem Eff.trans {H H1 H2 : Hp} {b : Addr} (h : Eff b H H1) (h' : Eff b H1 H2) : Eff b H H2 := ⟨h'.1, fun c o n e => h'.2 c o n (h.2 c o n e)⟩
theorem Eff.same {H H1 H2 : Hp} {b : Addr} (h : Eff b H H1) (s : Same H1 H2) : Eff b H H2 := h.trans (h.1.eff s)
theorem Bag.ne {H : Hp} {b p : Addr} (h : Bag H b) (e : H p = none) : b ≠ p := by
  obtain ⟨g, x, e1, _⟩ := h
  exact ne_of_none e1 e
theorem Bag.neT {H : Hp} {b p : Addr} {xs : List V} (h : Bag H b) (e : H p = some (.tup xs)) : p ≠ b := by
  obtain ⟨g, x, e1, _⟩ := h
  exact ne_of e e1 (by intro z; cases z)
theorem Eff.free {H H' : Hp} {b p : Addr} (h : Eff b H H') (hb : Bag H b) (e : H' p = none) : H p = none := by
  cases q : H p with
  | none => rfl
  | some o =>
    by_cases z : p = b
    · subst z
      obtain ⟨g, x, e1, _⟩ := h.1
      rw [e1] at e; cases e
    · rw [h.2 p o z q] at e; cases e


noncomputable def Tyd (H : Hp) : V → Prop
  | .non => True
  | .bl _ => True
  | .int _ => True
  | .str s => s.length ≤ 1000
  | .ref a => (∃ xs, H a = some (.lst xs)) ∨ (∃ xs, H a = some (.tup xs))
  | _ => False
noncomputable def tyN (H : Hp) : V → String
  | .non => "NoneType"
  | .bl _ => "bool"
  | .int _ => "int"
  | .str _ => "str"
  | .ref a => match H a with
    | some (.lst _) => "list"
    | _ => "tuple"
  | _ => ""
theorem Tyd.ty {K : PySem.W.Frag} {H : Hp} {v : V} (h : Tyd H v) : TyOf K H v (.type (tyN H v)) := by
  cases v with
  | ref a =>
    rcases h with ⟨xs, e⟩ | ⟨xs, e⟩
    · have z : tyN H (.ref a) = "list" := by show (match H a with | some (.lst _) => "list" | _ => "tuple") = _; rw [e]
      rw [z]; exact .lst e
    · have z : tyN H (.ref a) = "tuple" := by show (match H a with | some (.lst _) => "list" | _ => "tuple") = _; rw [e]
      rw [z]; exact .tup e
  | non => exact .non
  | bl b => exact .bl b
  | int i => exact .int i
  | str x => exact .str x
  | byt _ => exact h.elim
  | flt _ => exact h.elim
  | ty _ => exact h.elim


noncomputable def instB (H : Hp) (v : V) (n : String) : Bool := decide (tyN H v = n) || (decide (n = "int") && decide (tyN H v = "bool"))
noncomputable def okTy (n : String) : Bool := decide (n = "int") || decide (n = "bool") || decide (n = "str") || decide (n = "list") || decide (n = "tuple")
theorem kit_T (K : PySem.W.Frag) {H : Hp} {v : V} (h : Tyd H v) {n : String} (hn : okTy n = true) : PySem.W.kitOne K (.type (tyN H v)) (.type n) = some (instB H v n) := by
  have hv : tyN H v = "NoneType" ∨ tyN H v = "bool" ∨ tyN H v = "int" ∨ tyN H v = "str" ∨ tyN H v = "list" ∨ tyN H v = "tuple" := by
    cases v with
    | ref a =>
      rcases h with ⟨xs, e⟩ | ⟨xs, e⟩
      · have z : tyN H (.ref a) = "list" := by show (match H a with | some (.lst _) => "list" | _ => "tuple") = _; rw [e]
        simp [z]
      · have z : tyN H (.ref a) = "tuple" := by show (match H a with | some (.lst _) => "list" | _ => "tuple") = _; rw [e]
        simp [z]
    | non => exact .inl rfl
    | bl b => exact .inr (.inl rfl)
    | int i => exact .inr (.inr (.inl rfl))
    | str x => exact .inr (.inr (.inr (.inl rfl)))
    | byt _ => exact h.elim
    | flt _ => exact h.elim
    | ty _ => exact h.elim
  have hn' : n = "int" ∨ n = "bool" ∨ n = "str" ∨ n = "list" ∨ n = "tuple" := by
    simp only [okTy, Bool.or_eq_true, decide_eq_true_eq] at hn
    rcases hn with (((h | h) | h) | h) | h
    · exact .inl h
    · exact .inr (.inl h)
    · exact .inr (.inr (.inl h))
    · exact .inr (.inr (.inr (.inl h)))
    · exact .inr (.inr (.inr (.inr h)))
  unfold instB
  rcases hv with e | e | e | e | e | e <;> rw [e] <;> rcases hn' with rfl | rfl | rfl | rfl | rfl <;> rfl
noncomputable def rIsT : List V → Hp → VK → Prop := fun vs H Q => ∃ x n, vs = [x, .ty n] ∧ Tyd H x ∧ okTy n = true ∧ Q (.bl (instB H x n)) H
theorem call_isT {X : Cx} : CallR X (.builtin "isinstance") rIsT := by
  constructor
  intro pins s σ H xs us Q I r h
  obtain ⟨x, n, rfl, ty, hn, q⟩ := h
  exact call_isinst pins s σ H _ us Q I r ⟨x, n, _, _, rfl, ty.ty, kit_T _ ty hn, q⟩
theorem instB_ref {H : Hp} {a : Addr} {n : String} (h : Tyd H (.ref a)) (h1 : n ≠ "list") (h2 : n ≠ "tuple") : instB H (.ref a) n = false := by
  unfold instB
  rcases h with ⟨xs, e⟩ | ⟨xs, e⟩
  · have z : tyN H (.ref a) = "list" := by show (match H a with | some (.lst _) => "list" | _ => "tuple") = _; rw [e]
    rw [z, decide_eq_false (Ne.symm h1), decide_eq_false (show ¬ ("list" = "bool") by decide)]; simp
  · have z : tyN H (.ref a) = "tuple" := by show (match H a with | some (.lst _) => "list" | _ => "tuple") = _; rw [e]
    rw [z, decide_eq_false (Ne.symm h2), decide_eq_false (show ¬ ("tuple" = "bool") by decide)]; simp
noncomputable def wholeV : V → Bool
  | .int _ => true
  | _ => false
noncomputable def wordV : V → Bool
  | .str s => decide (1 ≤ s.length) && decide (s.length ≤ 8) && s.cps.toList.all fun c => decide (97 ≤ c) && decide (c ≤ 122)
  | _ => false
theorem inst_str {H : Hp} {v : V} (h : Tyd H v) : (∃ s, v = .str s ∧ s.length ≤ 1000 ∧ instB H v "str" = true) ∨ (instB H v "str" = false ∧ wordV v = false) := by
  cases v with
  | str s => exact .inl ⟨s, rfl, h, rfl⟩
  | ref a => exact .inr ⟨instB_ref h (by decide) (by decide), rfl⟩
  | byt _ => exact h.elim
  | flt _ => exact h.elim
  | ty _ => exact h.elim
  | _ => exact .inr ⟨rfl, rfl⟩
theorem inst_int {H : Hp} {v : V} (h : Tyd H v) : (∃ i, v = .int i ∧ instB H v "int" = true ∧ instB H v "bool" = false) ∨ (∃ b, v = .bl b ∧ instB H v "int" = true ∧ instB H v "bool" = true) ∨ (instB H v "int" = false ∧ instB H v "bool" = false ∧ wholeV v = false) := by
  cases v with
  | int i => exact .inl ⟨i, rfl, rfl, rfl⟩
  | bl i => exact .inr (.inl ⟨i, rfl, rfl, rfl⟩)
  | ref a => exact .inr (.inr ⟨instB_ref h (by decide) (by decide), instB_ref h (by decide) (by decide), rfl⟩)
  | byt _ => exact h.elim
  | flt _ => exact h.elim
  | ty _ => exact h.elim
  | _ => exact .inr (.inr ⟨rfl, rfl, rfl⟩)


theorem at_all {xs : List V} (P : V → Prop) (h : ∀ x ∈ xs, P x) {i : Int} (h0 : 0 ≤ i) (h1 : i < (xs.length : Int)) : ∃ v, atI xs i = some v ∧ P v := by
  have hl : i.toNat < xs.length := by omega
  have e : xs[i.toNat]? = some xs[i.toNat] := by simp [hl]
  refine ⟨xs[i.toNat], ?_, h _ (List.getElem_mem _)⟩
  have q := atI_nat e
  have z : ((i.toNat : Nat) : Int) = i := by omega
  rw [z] at q
  exact q


noncomputable abbrev wordB (z : Str) : Bool := wordV (.str z)
structure WordS (z : Str) : Prop where
  lo : 1 ≤ z.length
  hi : z.length ≤ 8
  all : ∀ c ∈ z.cps.toList, 97 ≤ c ∧ c ≤ 122
theorem WordS.b {z : Str} (h : WordS z) : wordB z = true := by
  show (decide (1 ≤ z.length) && decide (z.length ≤ 8) && z.cps.toList.all fun c => decide (97 ≤ c) && decide (c ≤ 122)) = true
  rw [decide_eq_true h.lo, decide_eq_true h.hi]
  simp only [Bool.true_and, List.all_eq_true, Bool.and_eq_true, decide_eq_true_eq]
  exact h.all

noncomputable def isVal (k : Str) (v : V) : Bool :=
  if k = "number" then (match v with | .int i => decide (-999 ≤ i) && decide (i ≤ 999) | _ => false)
  else if k = "word" then wordV v else false
theorem le_a (c : Nat) : (!decide ([c] < [97])) = decide (97 ≤ c) := by
  by_cases h : c < 97
  · have : [c] < [97] := List.cons_lt_cons_iff.mpr (.inl h)
    rw [decide_eq_true this, decide_eq_false (by omega)]; rfl
  · have : ¬ [c] < [97] := fun z => by
      rcases List.cons_lt_cons_iff.mp z with q | ⟨_, q⟩
      · exact h q
      · exact absurd q (List.not_lt_nil [])
    rw [decide_eq_false this, decide_eq_true (by omega)]; rfl
theorem le_z (c : Nat) : (!decide ([122] < [c])) = decide (c ≤ 122) := by
  by_cases h : 122 < c
  · have : [122] < [c] := List.cons_lt_cons_iff.mpr (.inl h)
    rw [decide_eq_true this, decide_eq_false (by omega)]; rfl
  · have : ¬ [122] < [c] := fun z => by
      rcases List.cons_lt_cons_iff.mp z with q | ⟨_, q⟩
      · exact h q
      · exact absurd q (List.not_lt_nil [])
    rw [decide_eq_false this, decide_eq_true (by omega)]; rfl
theorem glue (cs : List Nat) : ((Txt.join "" (cs.map fun c => (⟨#[c]⟩ : Str)))).cps.toList = cs := by
  rw [TL.join_eq]
  have h := TL.tl_join "" (cs.map fun c => (⟨#[c]⟩ : Str))
  have e : ∀ ds : List Nat, TL.joinL (TL.tl "") ((ds.map fun c => (⟨#[c]⟩ : Str)).map TL.tl) = ds := by
    intro ds
    induction ds with
    | nil => rfl
    | cons d r ih =>
      cases r with
      | nil => rfl
      | cons d' r' =>
        show [d] ++ (TL.tl "" ++ TL.joinL (TL.tl "") (((d' :: r').map fun c => (⟨#[c]⟩ : Str)).map TL.tl)) = _
        rw [ih]; rfl
  rw [e] at h
  exact h
theorem glue_len (cs : List Nat) : (Txt.join "" (cs.map fun c => (⟨#[c]⟩ : Str))).length = cs.length := by
  show (Txt.join "" (cs.map fun c => (⟨#[c]⟩ : Str))).cps.size = _
  rw [← Array.length_toList, glue]
theorem sum_ones (cs : List Nat) : ((cs.map fun c => (⟨#[c]⟩ : Str)).map (·.length)).sum = cs.length := by
  induction cs with
  | nil => rfl
  | cons d r ih =>
    rw [List.map_cons, List.map_cons, List.sum_cons, ih, List.length_cons]
    show 1 + r.length = _
    omega
end My
namespace My
open PySem PySem.Spec PyProof.Rows L2
theorem wordV_lo {z : Str} (h : ¬ decide ((1 : Int) ≤ (z.length : Int)) = true) : wordV (.str z) = false := by
  show (decide (1 ≤ z.length) && decide (z.length ≤ 8) && _) = false
  rw [decide_eq_false (by simp only [decide_eq_true_eq] at h; omega)]; rfl
theorem wordV_hi {z : Str} (h : (!decide ((z.length : Int) ≤ 8)) = true) : wordV (.str z) = false := by
  show (decide (1 ≤ z.length) && decide (z.length ≤ 8) && _) = false
  rw [decide_eq_false (show ¬ z.length ≤ 8 by simp only [Bool.not_eq_true', decide_eq_false_iff_not] at h; omega)]; simp
theorem wordV_all {z : Str} (h : decide ((1 : Int) ≤ (z.length : Int)) = true) (h2 : ¬ (!decide ((z.length : Int) ≤ 8)) = true) :
    wordV (.str z) = (z.cps.toList.map fun c => decide (97 ≤ c) && decide (c ≤ 122)).all id := by
  show (decide (1 ≤ z.length) && decide (z.length ≤ 8) && z.cps.toList.all fun c => decide (97 ≤ c) && decide (c ≤ 122)) = _
  rw [decide_eq_true (show 1 ≤ z.length by simp only [decide_eq_true_eq] at h; omega), decide_eq_true (show z.length ≤ 8 by simp at h2; omega), List.all_map]
  simp only [Bool.true_and]
  rfl
theorem le_aS (c : Nat) : (!decide ((⟨#[c]⟩ : Str).cps.toList < ("a" : Str).cps.toList)) = decide (97 ≤ c) := by
  have e : ("a" : Str).cps.toList = [97] := by decide +kernel
  rw [e]; exact le_a c
theorem le_zS (c : Nat) : (!decide (("z" : Str).cps.toList < (⟨#[c]⟩ : Str).cps.toList)) = decide (c ≤ 122) := by
  have e : ("z" : Str).cps.toList = [122] := by decide +kernel
  rw [e]; exact le_z c
end My
namespace My
open PySem PySem.Spec PyProof.Rows L2
theorem at_int {ns : List Int} {k : Int} (h0 : 0 ≤ k) (h1 : k < (ns.length : Int)) : ∃ c, atI (ns.map V.int) k = some (.int c) := by
  obtain ⟨v, e, c, rfl⟩ := at_all (xs := ns.map V.int) (fun v => ∃ c, v = .int c) (fun x hx => by obtain ⟨c, _, rfl⟩ := List.mem_map.mp hx; exact ⟨c, rfl⟩) h0 (by rw [List.length_map]; exact h1)
  exact ⟨c, e⟩
end My
namespace My
open PySem PySem.Spec PyProof.Rows L2
theorem at_allN {xs : List Nat} (P : Nat → Prop) (h : ∀ x ∈ xs, P x) {i : Int} (h0 : 0 ≤ i) (h1 : i < (xs.length : Int)) : ∃ v, atI xs i = some v ∧ P v := by
  have hl : i.toNat < xs.length := by omega
  have e : xs[i.toNat]? = some xs[i.toNat] := by simp [hl]
  refine ⟨xs[i.toNat], ?_, h _ (List.getElem_mem _)⟩
  have q := atI_nat e
  have z : ((i.toNat : Nat) : Int) = i := by omega
  rw [z] at q
  exact q
theorem az_at {i : Int} (h0 : 0 ≤ i) (h1 : i < 26) : ∃ c, atI ("abcdefghijklmnopqrstuvwxyz" : Str).cps.toList i = some c ∧ 97 ≤ c ∧ c ≤ 122 := by
  have e : ("abcdefghijklmnopqrstuvwxyz" : Str).cps.toList = (List.range 26).map (· + 97) := by decide +kernel
  rw [e]
  refine at_allN (fun c => 97 ≤ c ∧ c ≤ 122) (fun x hx => ?_) h0 (by rw [List.length_map, List.length_range]; exact h1)
  obtain ⟨d, hd, rfl⟩ := List.mem_map.mp hx
  have := List.mem_range.mp hd
  omega
end My
namespace My
open PySem PySem.Spec PyProof.Rows L2
noncomputable def sp_is_whole : Sp := fun vs H Q _ => ∃ v, vs = [v] ∧ Tyd H v ∧ Q (.bl (wholeV v)) H
noncomputable def sp_is_word : Sp := fun vs H Q _ => ∃ v, vs = [v] ∧ Tyd H v ∧ ∀ H', Same H H' → Q (.bl (wordV v)) H'
noncomputable def sp_is_value : Sp := fun vs H Q _ => ∃ (x : Str) (v : V), vs = [.str x, v] ∧ Tyd H v ∧ ∀ H', Same H H' → Q (.bl (isVal x v)) H'

end My
namespace My
open PySem PySem.Spec PyProof.Rows L2

end My

set_option Elab.async false
set_option linter.all false
set_option maxRecDepth 100000

namespace L2
open PySem PySem.Spec PyProof.Rows
open PySem.MeetsSeq PySem.MeetsSeq2 PySem.MeetsSeq3
section
variable {X : Cx}
theorem same_push {H : Hp} {p : Addr} {o : HO} (h : H p = none) : Same H (upd H p o) := fun b u e => by
  rw [upd_ne (ne_of_none e h)]; exact e

noncomputable def rCatS : R2 := fun x y H Q => ∃ a b xs ys, x = .ref a ∧ y = .ref b ∧ H a = some (.tup xs) ∧ H b = some (.tup ys) ∧ xs.length + ys.length ≤ sizeLine ∧
  ∀ p H', Same H H' → H' p = some (.tup (xs ++ ys)) → Q (.ref p) H'
theorem op_catS : OpR X (binaryOp .Add) rCatS := by
  constructor
  intro pins s σ H x y v u Q I rx ry h
  obtain ⟨a, b, xs, ys, rfl, rfl, ha, hb, hz, q⟩ := h
  by_cases hx : xs = []
  · subst hx
    cases rx
    cases ry
    obtain ⟨its, r1, p1, _⟩ := I.tuple (SqT.of ha)
    obtain ⟨its2, r2, p2, _⟩ := I.tuple (SqT.of hb)
    have e1 : its = [] := r1.nil_iff.mpr rfl
    subst e1
    obtain ⟨⟨cls, dd, data, sl⟩, ho, hc, n, hd⟩ := id p1
    obtain ⟨⟨cls2, dd2, data2, sl2⟩, ho2, hc2, n2, hd2⟩ := id p2
    simp only at hc hd hc2 hd2
    subst hc hd hc2 hd2
    exact concat_meets ⟨_, ho, rfl⟩ ⟨_, ho2, rfl⟩ noFill_tuple_add seq_tuple_add PySem.F.slot_tuple_add PySem.F.entry_tuple_add (PySem.F.args_tuple_add_2 _ _)
      (tuple_addW0 a b #[] its2.toArray n n2 dd dd2 sl sl2 rfl) ⟨ho, ho2, ⟨.ref b, H, I, rfl, q b H (Same.refl _) hb⟩⟩
  · exact op_catT.run pins s σ H _ _ v u Q I rx ry ⟨a, b, xs, ys, rfl, rfl, SqT.of ha, SqT.of hb, hx, hz, fun e => q a H (Same.refl _) (by rw [e, List.append_nil]; exact ha),
      fun _ p hp => q p _ (same_push hp) upd_same⟩


theorem getItem_tuple_whole {prog : Program} {w : World} {A : Around} {E : Value → Shared → Prop} {s : Shared} {t sl : Addr} {items : Array Value} {vl vu : Value} {lo hi : Option Int} {Q : Value → Shared → Prop} (ht : IsTup s.heap t items) (hs : s.heap.IsSliceOf sl vl vu .none) (pl : IsPart vl lo) (pu : IsPart vu hi)
    (hw : HT.sIx items.size 0 lo = 0 ∧ HT.sIx items.size items.size hi = items.size) (h : Q (.ref t) s) : wpAny (model prog w) A (getItem (.ref t) (.ref sl)) Q E s := by
  obtain ⟨os, hos, hcs, hds⟩ := id hs
  have hTs : s.TypeIs (.ref sl) "slice" := ⟨os, hos, hcs⟩
  unfold getItem
  try with_reducible refine wpAny_holding ?_
  first | refine wpAny_bind (wpAny_pure ?_) | skip
  refine wpAny_bind (wpAny_sequenceKey ht.typeIs (by decide) ?_)
  refine wpAny_bind (wpAny_callSpecial?_slot (name := Str.ofString "__getitem__") ht.typeIs PyProof.Rows.slot_tuple_getitem
    (wpAny_call_entry PyProof.Rows.slot_tuple_getitem ht.typeIs entry_tuple_getitem ?_ (args_tuple_getitem _ _)))
  show wpAny _ _ (Builtin.Tuple.tupleItemsOf (.ref t) >>= _) _ _ s
  refine wpAny_bind (tupleItemsOf_ ht ?_)
  refine wpAny_bind (wpAny_typeOf hTs ?_)
  rw [if_pos (by decide)]
  refine wpAny_bind (HT.sliceApplied_gen hs pl pu ?_)
  have hyes : (((HT.sIx items.size 0 lo : Nat) : Int) == 0 && (1 : Int) == 1 && (HT.sIx items.size items.size hi - HT.sIx items.size 0 lo) == items.size) = true := by
    rw [hw.1, hw.2]; simp
  show wpAny _ _ (if (((HT.sIx items.size 0 lo : Nat) : Int) == 0 && (1 : Int) == 1 && (HT.sIx items.size items.size hi - HT.sIx items.size 0 lo) == items.size) = true then _ else _) _ _ s
  rw [if_pos hyes]
  unfold Builtin.Tuple.tupleIsExact
  refine wpAny_bind (wpAny_bind (wpAny_typeOf ht.typeIs (wpAny_pure ?_)))
  rw [if_pos (by decide)]
  exact wpAny_bind (wpAny_rule (wpAny_pure ⟨_, rfl, wpAny_pure h⟩))

noncomputable def rSlTS : V → Option Int → Option Int → Hp → VK → Prop := fun x lo hi H Q => ∃ a xs, x = .ref a ∧ H a = some (.tup xs) ∧ ∀ p H', Same H H' → H' p = some (.tup (cutV xs lo hi)) → Q (.ref p) H'
theorem sl_tupS : SlR X rSlTS := by
  constructor
  intro pins s σ H x v vl vu lo hi sl Q I rx hs pl pu h
  obtain ⟨a, xs, rfl, hx, q⟩ := h
  by_cases hw : HT.sIx xs.length 0 lo = 0 ∧ HT.sIx xs.length xs.length hi = xs.length
  · have e : cutV xs lo hi = xs := by
      unfold cutV
      rw [hw.1, hw.2, List.drop_zero, Nat.sub_zero, List.take_length]
    cases rx
    obtain ⟨its, r, ht, hz⟩ := I.tuple (SqT.of hx)
    have hlen : its.toArray.size = xs.length := by rw [List.size_toArray]; exact r.length.symm
    exact ⟨"tuple", _, PyProof.Rows.slot_tuple_getitem.lookup, ht.typeIs, getItem_tuple_whole ht hs pl pu (by rw [hlen]; exact hw) ⟨.ref a, H, I, rfl, q a H (Same.refl _) (by rw [e]; exact hx)⟩⟩
  · exact sl_tup.run pins s σ H _ v vl vu lo hi sl Q I rx hs pl pu ⟨a, xs, rfl, SqT.of hx, hw, fun p hp => q p _ (same_push hp) upd_same⟩

section
variable {CX : CXT} {k : Nat} {f C : Addr} {fd : FuncData} {ps ks : List Str} {sp : Sp} {E : XK} {x m : Str} {p pos apos kpos : Pos} {kws : List Keyword} {tk : TA} {g : List Value → List Value → List Value} {gV : List V → List V → List V}

theorem pe_callK0 (F : FnOk X.prog X.w X.K X.mg X.base CX k f fd ps sp) (hr : Room k X.A) (hg : Gl X x) (hm : X.mg x = some (.ref f)) (hk : PySem.W.keepIn X.K (.ref f) = true) (hb : KBinds X.K fd ps ks g gV) (hx : Passes CX X E)
    (hkw : PK X kws tk) (hall : (backToKw pos (keywordEach kws X.env)).all (·.1.isSome) = true := by rfl) (hks : (backToKw pos (keywordEach kws X.env)).filterMap (·.1) = ks := by rfl)
    (hdb : (x == ("__debug__" : Str)) = false := by decide)
    (hpl : ((backTo pos (starEach [] X.env)).any (·.1) || (backToKw pos (keywordEach kws X.env)).any (·.1.isNone)) = false := by rfl) :
    PE X (.Call (.Name x p) [] kws pos) (tCallK sp gV E tNil tk) := by
  constructor
  intro pins s σ H Q I h
  refine wpAny_Call_Name_kw (ld_glob I hg hm ?_ hdb)
  refine PySem.W.callWith_KW0 (h₀ := X.base) I.ok.mod.kin hk hall (thn (hkw pos pins s σ H _ I h) fun ws s2 ⟨zs, H2, I2, rz, q2⟩ => ⟨I2.kIn, ?_⟩) hpl
  rw [hks]
  exact run_fnk (us := []) (vs := []) F hr hb hx I2 .nil rz q2
end


theorem ix_tupK {K : PySem.W.Frag} (h : X.K = K := by rfl) : IxR X (rIxT K) := by subst h; exact ix_tup
theorem op_eqDK {K : PySem.W.Frag} (hu : X.A.units + 64 < cLine) (h : X.K = K := by rfl) : OpR X (compareOp .Eq) (rEqD K) := by subst h; exact op_eqD hu
end
end L2

set_option Elab.async false
set_option linter.all false
set_option maxRecDepth 100000

namespace L2
open PySem PySem.Spec PyProof.Rows
section
variable {prog : Program} {w : World} {A : Around} {E : Value → Shared → Prop} {s : Shared}

theorem nx_tup {it t : Addr} {i : Nat} {items : Array Value} {x : Value} {Q : Value → Shared → Prop} (hit : s.heap.IsTupleIter it t i) (ht : s.heap.IsTuple t items) (hx : items[i]? = some x)
    (hQ : ∀ h', h'.IsTupleIter it t (i + 1) → Heap.SameBut it s.heap h' → Q x { s with heap := h' }) : wpAny (model prog w) A (Builtin.SmallTypes.nextOf (.ref it)) Q E s := by
  obtain ⟨o, ho, hc, hd⟩ := id hit
  obtain ⟨ol, hol, _, nl, hdl⟩ := ht
  unfold Builtin.SmallTypes.nextOf
  refine wpAny_bind (wpAny_callSpecial?_slot (name := Str.ofString "__next__") hit.typeIs F.slot_tuple_iterator_next (wpAny_call_entry F.slot_tuple_iterator_next hit.typeIs F.entry_tuple_iterator_next ?_ (F.args_tuple_iterator_next_1 _)))
  show wpAny _ _ (field (.ref it) 0 >>= _) _ _ s; refine wpAny_bind (wpAny_field ho hd (x := .ref t) rfl ?_)
  show wpAny _ _ (if (Value.ref t == Value.none) = true then _ else _) _ _ s; rw [if_neg (show ¬ ((Value.ref t == Value.none) = true) from Bool.false_ne_true)]
  show wpAny _ _ (field (.ref it) 1 >>= _) _ _ s; refine wpAny_bind (wpAny_field ho hd (x := .int i 0) rfl ?_)
  show wpAny _ _ (seqItems? (.ref t) >>= _) _ _ s; refine wpAny_bind (wpAny_seqItems hol hdl ?_)
  simp only [Int.toNat_natCast, hx]; refine wpAny_bind (wpAny_setField ho hd (by simp) (wpAny_pure ⟨x, rfl, wpAny_pure (hQ _ ?_ (Heap.SameBut.update ..))⟩))
  exact ⟨_, Heap.get?_update_self _ ho (Obj.isFreed_of_fields (Obj.data_mapFields hd _)), (Obj.cls_mapFields ..).trans hc, by rw [Obj.data_mapFields hd]; simp [rawInt]⟩
theorem nx_tup_end {it t : Addr} {i : Nat} {items : Array Value} {Q : Value → Shared → Prop} (hh : A.handled = none) (hit : s.heap.IsTupleIter it t i) (ht : s.heap.IsTuple t items) (hx : items[i]? = none)
    (hE : ∀ h' e, Heap.ExtBut it s.heap h' → (∃ o, h'.get? e = some o ∧ o.cls = .type "StopIteration") → E (.ref e) { s with heap := h' }) : wpAny (model prog w) A (Builtin.SmallTypes.nextOf (.ref it)) Q E s := by
  obtain ⟨o, ho, hc, hd⟩ := id hit
  obtain ⟨ol, hol, _, nl, hdl⟩ := ht
  unfold Builtin.SmallTypes.nextOf
  refine wpAny_bind (wpAny_callSpecial?_slot (name := Str.ofString "__next__") hit.typeIs F.slot_tuple_iterator_next (wpAny_call_entry F.slot_tuple_iterator_next hit.typeIs F.entry_tuple_iterator_next ?_ (F.args_tuple_iterator_next_1 _)))
  show wpAny _ _ (field (.ref it) 0 >>= _) _ _ s; refine wpAny_bind (wpAny_field ho hd (x := .ref t) rfl ?_)
  show wpAny _ _ (if (Value.ref t == Value.none) = true then _ else _) _ _ s; rw [if_neg (show ¬ ((Value.ref t == Value.none) = true) from Bool.false_ne_true)]
  show wpAny _ _ (field (.ref it) 1 >>= _) _ _ s; refine wpAny_bind (wpAny_field ho hd (x := .int i 0) rfl ?_)
  show wpAny _ _ (seqItems? (.ref t) >>= _) _ _ s; refine wpAny_bind (wpAny_seqItems hol hdl ?_)
  simp only [Int.toNat_natCast, hx]; refine wpAny_bind (wpAny_rule (wpAny_bind (wpAny_setField ho hd (by simp) ?_)))
  show wpAny _ _ (newExc (.type "StopIteration") [] >>= _) _ _ _; refine wpAny_bind ?_
  simp only [newExc, newTuple]; refine wpAny_bind (wpAny_newObj_type ?_ (by size_fits))
  refine wpAny_bind (m := firstArgMember _ _) (wpAny_of_eq (a := Value.none) (by first | rfl | (simp only [firstArgMember]; rfl)) ?_); refine wpAny_newObj_type ?_ (by size_fits)
  simp only [raiseNew]; refine wpAny_bind (wpAny_handled ?_)
  first | rw [show A.in1.handled = none from hh] | rw [hh]
  refine wpAny_bind (wpAny_pure (wpAny_throw ?_)); exact hE _ _ (((Heap.SameBut.update ..).extBut.push _).push _) ⟨_, Heap.get?_push_size _ rfl, rfl⟩


noncomputable abbrev Src := Bool × Addr
noncomputable def SIt (h : Heap) (it : Addr) (c : Src) (k : Nat) : Prop := match c.1 with
  | true => h.IsListIter it c.2 k
  | false => h.IsTupleIter it c.2 k
noncomputable def SSq (h : Heap) (c : Src) (xs : Array Value) : Prop := match c.1 with
  | true => h.IsList c.2 xs
  | false => h.IsTuple c.2 xs
theorem SIt.obj {h : Heap} {it : Addr} {c : Src} {k : Nat} (p : SIt h it c k) : ∃ o, h.get? it = some o ∧ ∀ v, o.data ≠ .cell v := by
  obtain ⟨b, a⟩ := c
  cases b <;> (obtain ⟨o, e, _, d⟩ := p; exact ⟨o, e, fun v q => by rw [d] at q; cases q⟩)
theorem SIt.at {h h' : Heap} {it : Addr} {c : Src} {k : Nat} (p : SIt h it c k) (q : ∀ o, h.get? it = some o → h'.get? it = some o) : SIt h' it c k := by
  obtain ⟨b, a⟩ := c
  cases b
  · exact Heap.IsTupleIter.at (show h.IsTupleIter it a k from p) q
  · exact Heap.IsListIter.at (show h.IsListIter it a k from p) q
theorem SSq.at {h h' : Heap} {c : Src} {xs : Array Value} (p : SSq h c xs) (q : ∀ o, h.get? c.2 = some o → h'.get? c.2 = some o) : SSq h' c xs := by
  obtain ⟨b, a⟩ := c
  cases b
  · obtain ⟨o, e, r⟩ := (show h.IsTuple a xs from p); exact ⟨o, q o e, r⟩
  · obtain ⟨o, e, r⟩ := (show h.IsList a xs from p); exact ⟨o, q o e, r⟩
theorem SSq.lt {h : Heap} {c : Src} {xs : Array Value} (p : SSq h c xs) : c.2 < h.objs.size := by
  obtain ⟨b, a⟩ := c
  cases b <;> (obtain ⟨o, e, _⟩ := p; exact Heap.lt_size e)
theorem nx_item {it : Addr} {c : Src} {i : Nat} {items : Array Value} {x : Value} {Q : Value → Shared → Prop} (hit : SIt s.heap it c i) (ht : SSq s.heap c items) (hx : items[i]? = some x)
    (hQ : ∀ h', SIt h' it c (i + 1) → Heap.SameBut it s.heap h' → Q x { s with heap := h' }) : wpAny (model prog w) A (Builtin.SmallTypes.nextOf (.ref it)) Q E s := by
  obtain ⟨b, a⟩ := c
  cases b
  · exact nx_tup hit ht hx hQ
  · exact wpAny_nextOf_list_item hit ht hx hQ
theorem nx_end {it : Addr} {c : Src} {i : Nat} {items : Array Value} {Q : Value → Shared → Prop} (hh : A.handled = none) (hit : SIt s.heap it c i) (ht : SSq s.heap c items) (hx : items[i]? = none)
    (hE : ∀ h' e, Heap.ExtBut it s.heap h' → (∃ o, h'.get? e = some o ∧ o.cls = .type "StopIteration") → E (.ref e) { s with heap := h' }) : wpAny (model prog w) A (Builtin.SmallTypes.nextOf (.ref it)) Q E s := by
  obtain ⟨b, a⟩ := c
  cases b
  · exact nx_tup_end hh hit ht hx hE
  · exact wpAny_nextOf_list_end hh hit ht hx hE

theorem SSq.but {h h' : Heap} {c : Src} {xs : Array Value} {x : Addr} (p : SSq h c xs) (q : Heap.ExtBut x h h') (n : c.2 ≠ x) : SSq h' c xs := p.at fun o e => q _ _ n e
theorem SIt.but {h h' : Heap} {it x : Addr} {c : Src} {k : Nat} (p : SIt h it c k) (q : Heap.ExtBut x h h') (n : it ≠ x) : SIt h' it c k := p.at fun o e => q _ _ n e
theorem SIt.lt {h : Heap} {it : Addr} {c : Src} {k : Nat} (p : SIt h it c k) : it < h.objs.size := let ⟨_, e, _⟩ := p.obj; Heap.lt_size e

theorem z2_open {z TI TO i1 i2 : Addr} {Q : Fin → Shared → Prop} (hz : IsZip s.heap z TI TO .none) (hTI : IsPair s.heap TI (.ref i1) (.ref i2)) {a b : Value} (hTO : IsPair s.heap TO a b) {c1 c2 : Src} {k : Nat} {xs ys : Array Value}
    (D : ZipApart z TI TO i1 i2 c1.2 c2.2) (h1 : SIt s.heap i1 c1 k) (h2 : SIt s.heap i2 c2 k) (hl1 : SSq s.heap c1 xs) (hl2 : SSq s.heap c2 ys)
    (hi : ∀ x y h', xs[k]? = some x → ys[k]? = some y → IsZip h' z TI TO (rawInt s.heap.objs.size) → IsPair h' TO x y → SIt h' i1 c1 (k + 1) → SIt h' i2 c2 (k + 1) → IsPair h' s.heap.objs.size x y → h'.objs.size = s.heap.objs.size + 1 →
      (∀ c o, c ≠ z → c ≠ TO → c ≠ i1 → c ≠ i2 → s.heap.get? c = some o → h'.get? c = some o) → Q (.done (.ret (.ref s.heap.objs.size))) { s with heap := h' })
    (he : xs[k]? = none ∨ ys[k]? = none → A.handled = none ∧ ∀ h' e, (∀ c o, c ≠ z → c ≠ TO → c ≠ i1 → c ≠ i2 → s.heap.get? c = some o → h'.get? c = some o) → (∃ o, h'.get? e = some o ∧ o.cls = .type "StopIteration") → E (.ref e) { s with heap := h' }) :
    wpAny (model prog w) A (Builtin.«zip.__next__» ⟨[.ref z], []⟩) Q E s := by
  show wpAny _ _ (field (.ref z) 2 >>= _) _ _ _; refine wpAny_bind (wpAny_field hz rfl (x := .bool false) rfl ?_)
  show wpAny _ _ (field (.ref z) 3 >>= _) _ _ _; refine wpAny_bind (wpAny_field hz rfl (x := .ref TI) rfl (wpAny_bind (wpAny_seqItems hTI rfl ?_)))
  show wpAny _ _ (Builtin.SmallTypes.ownedTupleIsFree (.ref z) >>= _) _ _ _; refine wpAny_bind ?_; unfold Builtin.SmallTypes.ownedTupleIsFree
  refine wpAny_bind (wpAny_field hz rfl (x := .none) rfl (wpAny_pure ?_)); simp only [if_true]
  refine wpAny_bind (wpAny_rule (wpAny_bind (wpAny_field hz rfl (x := .ref TO) rfl (wpAny_bind (wpAny_setField_rec hz (by simp) fun g1 hz1 s1 => ?_)))))
  replace hz1 : IsZip g1 z TI TO .ellipsis := hz1
  refine wpAny_bind ?_; simp only [List.zipIdx_cons, List.zipIdx_nil, List.forIn_cons, List.forIn_nil]
  refine wpAny_bind (wpAny_bind (wpAny_onRaise ?_)); show wpAny _ _ (Builtin.SmallTypes.nextOf (.ref i1) >>= _) _ _ _
  cases hx : xs[k]? with
  | none =>
    obtain ⟨hh, he⟩ := he (.inl hx)
    refine wpAny_bind (nx_end hh (h1.but s1.extBut D.i1z) (hl1.but s1.extBut D.l1z) hx fun g2 e s2 q => ?_)
    obtain ⟨oe, hoe, hce⟩ := q
    have hz2 : IsZip g2 z TI TO .ellipsis := s2 _ _ D.i1z.symm hz1
    have hez : e ≠ z := fun x => by subst x; rw [hz2] at hoe; cases hoe; simp at hce
    exact wpAny_setField_rec hz2 (by simp) fun g3 _ s3 => he g3 e (fun c o c1 _ c3 _ x => s3.extBut _ _ c1 (s2 _ _ c3 (s1.extBut _ _ c1 x))) ⟨oe, s3.extBut _ _ hez hoe, hce⟩
  | some x =>
    refine wpAny_bind (nx_item (h1.but s1.extBut D.i1z) (hl1.but s1.extBut D.l1z) hx fun g2 h12 s2 => wpAny_pure ?_)
    have hTO2 : IsPair g2 TO a b := s2.extBut _ _ D.TOi1 (s1.extBut _ _ D.TOz hTO)
    refine wpAny_bind (wpAny_seqItems hTO2 rfl (wpAny_bind (wpAny_updateSeq_pair hTO2 fun g3 hTO3 s3 => wpAny_bind (wpAny_letGo (wpAny_pure ?_)))))
    replace hTO3 : IsPair g3 TO x b := hTO3
    have k2 : SIt g3 i2 c2 k := ((h2.but s1.extBut D.i2z).but s2.extBut D.i12.symm).but s3.extBut D.TOi2.symm
    have l2 : SSq g3 c2 ys := ((hl2.but s1.extBut D.l2z).but s2.extBut D.l2i1).but s3.extBut D.l2TO
    have hz3 : IsZip g3 z TI TO .ellipsis := s3.extBut _ _ D.TOz.symm (s2.extBut _ _ D.i1z.symm hz1)
    refine wpAny_bind (wpAny_bind (wpAny_onRaise ?_)); show wpAny _ _ (Builtin.SmallTypes.nextOf (.ref i2) >>= _) _ _ _
    cases hy : ys[k]? with
    | none =>
      obtain ⟨hh, he⟩ := he (.inr hy)
      refine wpAny_bind (nx_end hh k2 l2 hy fun g4 e s4 q => ?_)
      obtain ⟨oe, hoe, hce⟩ := q
      have hz4 : IsZip g4 z TI TO .ellipsis := s4 _ _ D.i2z.symm hz3
      have hez : e ≠ z := fun x => by subst x; rw [hz4] at hoe; cases hoe; simp at hce
      exact wpAny_setField_rec hz4 (by simp) fun g5 _ s5 => he g5 e (fun c o c1 c2 c3 c4 x => s5.extBut _ _ c1 (s4 _ _ c4 (s3.extBut _ _ c2 (s2.extBut _ _ c3 (s1.extBut _ _ c1 x))))) ⟨oe, s5.extBut _ _ hez hoe, hce⟩
    | some y =>
      refine wpAny_bind (nx_item k2 l2 hy fun g4 h24 s4 => wpAny_pure ?_)
      have hTO4 : IsPair g4 TO x b := s4.extBut _ _ D.TOi2 hTO3
      refine wpAny_bind (wpAny_seqItems hTO4 rfl (wpAny_bind (wpAny_updateSeq_pair hTO4 fun g5 hTO5 s5 => wpAny_bind (wpAny_letGo (wpAny_pure (wpAny_pure ?_))))))
      replace hTO5 : IsPair g5 TO x y := hTO5
      have hsz : g5.objs.size = s.heap.objs.size := by rw [s5.1, s4.1, s3.1, s2.1, s1.1]
      have hz5 : IsZip g5 z TI TO .ellipsis := s5.extBut _ _ D.TOz.symm (s4.extBut _ _ D.i2z.symm hz3)
      have kp : ∀ c o, c ≠ z → c ≠ TO → c ≠ i1 → c ≠ i2 → s.heap.get? c = some o → g5.get? c = some o := fun c o c1 c2 c3 c4 e => s5.extBut _ _ c2 (s4.extBut _ _ c4 (s3.extBut _ _ c2 (s2.extBut _ _ c3 (s1.extBut _ _ c1 e))))
      have h15 : SIt g5 i1 c1 (k + 1) := ((h12.but s3.extBut D.TOi1.symm).but s4.extBut D.i12).but s5.extBut D.TOi1.symm
      have h25 : SIt g5 i2 c2 (k + 1) := h24.but s5.extBut D.TOi2.symm
      have zl : z < g5.objs.size := Heap.lt_size hz5
      refine wpAny_bind (wpAny_seqItems hTO5 rfl (wpAny_bind (wpAny_newTuple ?_)))
      show wpAny _ _ (Builtin.SmallTypes.ownedTupleHandOut (.ref z) (.ref g5.objs.size) >>= _) _ _ _; refine wpAny_bind ?_; unfold Builtin.SmallTypes.ownedTupleHandOut
      have hz6 : IsZip (g5.push { cls := .type "tuple", data := .seq #[x, y] }) z TI TO .ellipsis := Heap.get?_push_of_some _ hz5
      refine wpAny_bind (wpAny_setField_rec hz6 (by simp) fun g7 hz7 s7 => ?_)
      replace hz7 : IsZip g7 z TI TO (rawInt g5.objs.size) := hz7
      refine wpAny_setField_rec hz7 (by simp) fun g8 hz8 s8 => ?_
      replace hz8 : IsZip g8 z TI TO (rawInt g5.objs.size) := hz8
      have up : ∀ c o, c ≠ z → g5.get? c = some o → g8.get? c = some o := fun c o c1 e => s8.extBut _ _ c1 (s7.extBut _ _ c1 (Heap.get?_push_of_some _ e))
      have hT8 : IsPair g8 g5.objs.size x y := s8.extBut _ _ (Nat.ne_of_gt zl) (s7.extBut _ _ (Nat.ne_of_gt zl) (Heap.get?_push_size _ rfl))
      have z8 : g8.objs.size = g5.objs.size + 1 := by rw [s8.1, s7.1, Heap.size_push]
      rw [hsz] at hz8 hT8 z8
      refine wpAny_pure ?_
      show Q (.done (.ret (.ref g5.objs.size))) _
      rw [hsz]
      exact hi x y g8 hx hy hz8 (up _ _ D.TOz hTO5) (h15.at fun o e => up _ o D.i1z e) (h25.at fun o e => up _ o D.i2z e) hT8 z8 fun c o c1 c2 c3 c4 e => up c o c1 (kp c o c1 c2 c3 c4 e)

theorem z2_next {z TI TO i1 i2 : Addr} {Q : Option Value → Shared → Prop} (hz : IsZip s.heap z TI TO .none) (hTI : IsPair s.heap TI (.ref i1) (.ref i2)) {a b : Value} (hTO : IsPair s.heap TO a b) {c1 c2 : Src} {k : Nat} {xs ys : Array Value}
    (D : ZipApart z TI TO i1 i2 c1.2 c2.2) (h1 : SIt s.heap i1 c1 k) (h2 : SIt s.heap i2 c2 k) (hl1 : SSq s.heap c1 xs) (hl2 : SSq s.heap c2 ys)
    (hi : ∀ x y h', xs[k]? = some x → ys[k]? = some y → IsZip h' z TI TO (rawInt s.heap.objs.size) → IsPair h' TO x y → SIt h' i1 c1 (k + 1) → SIt h' i2 c2 (k + 1) → IsPair h' s.heap.objs.size x y → h'.objs.size = s.heap.objs.size + 1 →
      (∀ c o, c ≠ z → c ≠ TO → c ≠ i1 → c ≠ i2 → s.heap.get? c = some o → h'.get? c = some o) → Q (some (.ref s.heap.objs.size)) { s with heap := h' })
    (he : xs[k]? = none ∨ ys[k]? = none → A.handled = none ∧ ∀ h', (∀ c o, c ≠ z → c ≠ TO → c ≠ i1 → c ≠ i2 → s.heap.get? c = some o → h'.get? c = some o) → Q none { s with heap := h' }) :
    wpAny (model prog w) A (pyNext (.ref z)) Q E s := by
  have hT : s.TypeIs (.ref z) "zip" := ⟨_, hz, rfl⟩
  unfold pyNext
  refine wpAny_bind (wpAny_attempt (wpAny_callSpecial?_slot (name := Str.ofString "__next__") hT F.slot_zip_next (wpAny_call_entry F.slot_zip_next hT F.entry_zip_next (z2_open hz hTI hTO D h1 h2 hl1 hl2 ?_ ?_) (F.args_zip_next_1 _))))
  · exact fun x y h' e1 e2 q1 q2 q3 q4 q5 q6 q7 => ⟨_, rfl, wpAny_pure (hi x y h' e1 e2 q1 q2 q3 q4 q5 q6 q7)⟩
  · intro q
    obtain ⟨hh, he⟩ := he q
    refine ⟨hh, fun h' e kp hx => ?_⟩
    obtain ⟨o, ho, hc⟩ := hx
    exact wpAny_bind (wpAny_isInstance (T := "StopIteration") (b := true) ⟨o, ho, hc⟩ isSubtype_stop (wpAny_pure (he h' kp)))
noncomputable def itN (c : Src) : String := match c.1 with
  | true => "list_iterator"
  | false => "tuple_iterator"
theorem it_seq {c : Src} {xs : Array Value} {Q : Value → Shared → Prop} (p : SSq s.heap c xs) (h : Q (.ref s.heap.objs.size) { s with heap := s.heap.push { cls := .type (itN c), data := .fields #[.ref c.2, .int 0 0] } }) :
    wpAny (model prog w) A (pyIter (.ref c.2)) Q E s := by
  obtain ⟨b, a⟩ := c
  cases b
  · exact wpAny_pyIter_tuple p h
  · exact wpAny_pyIter_list p h
theorem SIt.new {h : Heap} {it : Addr} {c : Src} (e : h.get? it = some { cls := .type (itN c), data := .fields #[.ref c.2, .int 0 0] }) : SIt h it c 0 := by
  obtain ⟨b, a⟩ := c
  cases b <;> exact ⟨_, e, rfl, rfl⟩
theorem SSq.push {h : Heap} {c : Src} {xs : Array Value} (p : SSq h c xs) (o : Obj) : SSq (h.push o) c xs := p.at fun _ e => Heap.get?_push_of_some _ e
noncomputable abbrev zh2 (h : Heap) (c1 c2 : Src) : Heap := (h.push { cls := .type (itN c1), data := .fields #[.ref c1.2, .int 0 0] }).push { cls := .type (itN c2), data := .fields #[.ref c2.2, .int 0 0] }
noncomputable abbrev zh5 (h : Heap) (c1 c2 : Src) : Heap := (((zh2 h c1 c2).push { cls := .type "tuple", data := .seq #[.ref h.objs.size, .ref (h.push { cls := .type (itN c1), data := .fields #[.ref c1.2, .int 0 0] }).objs.size] }).push { cls := .type "tuple", data := .seq #[.none, .none] }).push
  { cls := .type "zip", data := .fields #[.none, .bool false, .bool false, .ref (zh2 h c1 c2).objs.size, .ref ((zh2 h c1 c2).push { cls := .type "tuple", data := .seq #[.ref h.objs.size, .ref (h.push { cls := .type (itN c1), data := .fields #[.ref c1.2, .int 0 0] }).objs.size] }).objs.size] }
theorem z2_new (c1 c2 : Src) (xs ys : Array Value) :
    Meets (Builtin.«zip.__new__» ⟨[.type "zip", .ref c1.2, .ref c2.2], []⟩) (fun _ R s => SSq s.heap c1 xs ∧ SSq s.heap c2 ys ∧ R (.ok (.ret (.ref (s.heap.objs.size + 4)))) { s with heap := zh5 s.heap c1 c2 }) :=
  .of_wp fun prog w A R s h => by
    obtain ⟨hp, g, d, tk, os⟩ := s
    obtain ⟨p1, p2, h⟩ := h
    have hsub := sub_zip
    have q1 : SSq (Shared.heap ⟨hp, g, d, tk, os⟩) c1 xs := p1
    have q2 : SSq (Shared.heap ⟨hp.push { cls := .type (itN c1), data := .fields #[.ref c1.2, .int 0 0] }, g, d, tk, os⟩) c2 ys := SSq.push p2 _
    wp_walk using it_seq q1, it_seq q2
    have e : (((zh2 hp c1 c2).push { cls := .type "tuple", data := .seq #[.ref hp.objs.size, .ref (hp.push { cls := .type (itN c1), data := .fields #[.ref c1.2, .int 0 0] }).objs.size] }).push { cls := .type "tuple", data := .seq #[.none, .none] }).objs.size = hp.objs.size + 4 := by
      simp only [Heap.size_push]
    refine ⟨_, rfl, ?_⟩
    have h' : R (.ok (.ret (.ref (hp.objs.size + 4)))) _ := h
    rw [← e] at h'
    exact h'
theorem z2_call {c1 c2 : Src} {xs ys : Array Value} {Q : Value → Shared → Prop} (p1 : SSq s.heap c1 xs) (p2 : SSq s.heap c2 ys)
    (h : ∀ h', IsZip h' (s.heap.objs.size + 4) (s.heap.objs.size + 2) (s.heap.objs.size + 3) .none → IsPair h' (s.heap.objs.size + 2) (.ref s.heap.objs.size) (.ref (s.heap.objs.size + 1)) → IsPair h' (s.heap.objs.size + 3) .none .none →
      SIt h' s.heap.objs.size c1 0 → SIt h' (s.heap.objs.size + 1) c2 0 → (∀ c o, s.heap.get? c = some o → h'.get? c = some o) → Q (.ref (s.heap.objs.size + 4)) { s with heap := h' }) :
    wpAny (model prog w) A (call (.type "zip") [.ref c1.2, .ref c2.2]) Q E s := by
  refine callType_new F.called_zip (by decide) (F.typeCall_zip_2 _ _) (F.newCall_zip_2 _ _) (fun obj => F.args_object_init_3 obj _ _) F.entry_zip_new (z2_new c1 c2 xs ys) ⟨p1, p2, ?_⟩
  have up : ∀ {g : Heap} {o : Obj} {c : Addr} {u : Obj}, g.get? c = some u → (g.push o).get? c = some u := fun e => Heap.get?_push_of_some _ e
  have nw : ∀ {g : Heap} {o : Obj} {c : Addr}, o.isFreed = false → c = g.objs.size → (g.push o).get? c = some o := fun f e => by rw [e]; exact Heap.get?_push_size _ f
  have g5 : IsZip (zh5 s.heap c1 c2) (s.heap.objs.size + 4) (s.heap.objs.size + 2) (s.heap.objs.size + 3) .none := by
    refine nw rfl (by simp only [Heap.size_push]) |>.trans ?_
    simp only [Heap.size_push]
  have g3 : IsPair (zh5 s.heap c1 c2) (s.heap.objs.size + 2) (.ref s.heap.objs.size) (.ref (s.heap.objs.size + 1)) := by
    refine (up (up (nw rfl (by simp only [Heap.size_push])))).trans ?_
    simp only [Heap.size_push]
  have g4 : IsPair (zh5 s.heap c1 c2) (s.heap.objs.size + 3) .none .none := up (nw rfl (by simp only [Heap.size_push]))
  have g1 : SIt (zh5 s.heap c1 c2) s.heap.objs.size c1 0 := .new (up (up (up (up (nw rfl rfl)))))
  have g2 : SIt (zh5 s.heap c1 c2) (s.heap.objs.size + 1) c2 0 := .new (up (up (up (nw rfl (by simp only [Heap.size_push])))))
  exact ⟨⟨_, g5, rfl⟩, h _ g5 g3 g4 g1 g2 fun c o x => up (up (up (up (up x))))⟩
end

noncomputable def SqS (K : PySem.W.Frag) (H : Hp) (c : Src) (xs : List V) : Prop := match c.1 with
  | true => SqL K H c.2 xs
  | false => SqT K H c.2 xs
theorem SqS.inv {X : Cx} {pins : List (Addr × Obj)} {σ : St} {H : Hp} {s : Shared} {c : Src} {xs : List V} (I : Inv X pins σ H s) (h : SqS X.K H c xs) : ∃ its : List Value, Vals xs its ∧ SSq s.heap c its.toArray := by
  obtain ⟨b, a⟩ := c
  cases b
  · obtain ⟨its, r, p, _⟩ := I.tuple (show SqT X.K H a xs from h)
    exact ⟨its, r, (show s.heap.IsTuple a its.toArray from p)⟩
  · obtain ⟨its, r, p, _⟩ := I.list (show SqL X.K H a xs from h)
    exact ⟨its, r, p.isList⟩
theorem SqS.inj {X : Cx} {pins : List (Addr × Obj)} {σ : St} {H : Hp} {s : Shared} {c : Src} {xs ys : List V} (I : Inv X pins σ H s) (h : SqS X.K H c xs) (h' : SqS X.K H c ys) : xs = ys := by
  obtain ⟨b, a⟩ := c
  cases b
  · exact I.tuple_inj h h'
  · exact I.list_inj h h'
noncomputable def Itz2 (K : PySem.W.Frag) (c1 c2 : Src) : It :=
  ⟨fun i H => ∃ (xs ys : List V) (x y : V), SqS K H c1 xs ∧ SqS K H c2 ys ∧ xs[i]? = some x ∧ ys[i]? = some y,
    fun i H v H' => ∃ T x y, v = .ref T ∧ H T = none ∧ H' = upd H T (.tup [x, y]) ∧ (∀ xs, SqS K H c1 xs → xs[i]? = some x) ∧ ∀ ys, SqS K H c2 ys → ys[i]? = some y,
    fun i H => ∃ xs ys : List V, SqS K H c1 xs ∧ SqS K H c2 ys ∧ (xs.length ≤ i ∨ ys.length ≤ i)⟩
theorem turn_zip2 {P : Program} {w : World} {K : PySem.W.Frag} {elts : List Expr} {kk : Nat} {tpos : Pos} {c1 c2 : Src} {z TI TO i1 i2 : Addr} (D : ZipApart z TI TO i1 i2 c1.2 c2.2) :
    Turn P w K (.Tuple elts kk tpos) (Itz2 K c1 c2) [z, TI, TO, i1, i2] z (fun i h => IsZip h z TI TO .none ∧ IsPair h TI (.ref i1) (.ref i2) ∧ (∃ x y, IsPair h TO x y) ∧ SIt h i1 c1 i ∧ SIt h i2 c2 i) where
  mem := by simp
  obj := fun i h st c hc => by
    obtain ⟨hz, hTI, ⟨x, y, hTO⟩, h1, h2⟩ := st
    have e' : c = z ∨ c = TI ∨ c = TO ∨ c = i1 ∨ c = i2 := by simpa using hc
    rcases e' with q | q | q | q | q
    · rw [q]; exact ⟨_, hz, fun v q => nomatch q⟩
    · rw [q]; exact ⟨_, hTI, fun v q => nomatch q⟩
    · rw [q]; exact ⟨_, hTO, fun v q => nomatch q⟩
    · rw [q]; exact h1.obj
    · rw [q]; exact h2.obj
  keep := fun i h h' st k => by
    obtain ⟨hz, hTI, ⟨x, y, hTO⟩, h1, h2⟩ := st
    exact ⟨k z (by simp) _ hz, k TI (by simp) _ hTI, ⟨x, y, k TO (by simp) _ hTO⟩, h1.at fun o q => k i1 (by simp) o q, h2.at fun o q => k i2 (by simp) o q⟩
  item := by
    intro X hP hw hK hc i pins s σ H E I hf st hg
    subst hP hw hK
    obtain ⟨hz, hTI, ⟨x0, y0, hTO⟩, h1, h2⟩ := st
    obtain ⟨xs, ys, x, y, hqx, hqy, hx, hy⟩ := hg
    obtain ⟨its, rv, p⟩ := hqx.inv I
    obtain ⟨its2, rv2, p2⟩ := hqy.inv I
    obtain ⟨u, hu, ru⟩ := rv.get hx
    obtain ⟨u2, hu2, ru2⟩ := rv2.get hy
    have hzl : z < s.heap.objs.size := Heap.lt_size hz
    refine z2_next hz hTI hTO D h1 h2 p p2 (fun v v2 h' e1 e2 z' TO' h1' h2' hT hsz hk => ?_) (fun q => ?_)
    · have ev : v = u := by
        have : its.toArray[i]? = some u := by simpa using hu
        rw [this] at e1; exact (Option.some.inj e1).symm
      have ev2 : v2 = u2 := by
        have : its2.toArray[i]? = some u2 := by simpa using hu2
        rw [this] at e2; exact (Option.some.inj e2).symm
      subst ev ev2
      refine ⟨_, rfl, wpAny_letOwnedTupleGo_zip (s := { s with heap := h' }) z' fun h'' z'' sb => ?_⟩
      have hT2 : h''.get? s.heap.objs.size = some { cls := .type "tuple", data := .seq #[v, v2] } := (sb.2 _ (Nat.ne_of_gt hzl)).trans hT
      have new : ObjOk X.prog X.w (upd H s.heap.objs.size (.tup [x, y])) h'' s.heap.objs.size (.tup [x, y]) :=
        ⟨by show 2 ≤ sizeLine; decide, [v, v2], .cons ru (.cons ru2 .nil), ⟨_, hT2, rfl, ⟨_, rfl⟩, rfl⟩⟩
      have I1 : Inv X pins σ (upd H s.heap.objs.size (.tup [x, y])) { s with heap := h'' } :=
        I.turnedNew (t' := s.toks) (ch := [z, TI, TO, i1, i2]) (fun c o hb q => (sb.2 c (fun q' => hb (by simp [q']))).trans (hk c o (fun q' => hb (by simp [q'])) (fun q' => hb (by simp [q'])) (fun q' => hb (by simp [q'])) (fun q' => hb (by simp [q'])) q)) hf (Nat.le_refl _) new
      refine ⟨.ref s.heap.objs.size, _, I1, rfl, ⟨_, x, y, rfl, I.hok.fresh (Nat.le_refl _), rfl, fun l hl => by rw [hl.inj I hqx]; exact hx, fun l hl => by rw [hl.inj I hqy]; exact hy⟩, ⟨z'', ?_, ⟨v, v2, ?_⟩, ?_, ?_⟩, fun c hcm => ?_⟩
      · exact (sb.2 _ D.TIz).trans (hk _ _ D.TIz D.TITO D.TIi1 D.TIi2 hTI)
      · exact (sb.2 _ D.TOz).trans TO'
      · exact h1'.at fun o q => (sb.2 _ D.i1z).trans q
      · exact h2'.at fun o q => (sb.2 _ D.i2z).trans q
      · have hlt : c < s.heap.objs.size := by
          have e' : c = z ∨ c = TI ∨ c = TO ∨ c = i1 ∨ c = i2 := by simpa using hcm
          rcases e' with q | q | q | q | q
          · rw [q]; exact hzl
          · rw [q]; exact Heap.lt_size hTI
          · rw [q]; exact Heap.lt_size hTO
          · rw [q]; exact h1.lt
          · rw [q]; exact h2.lt
        rw [upd_ne (Nat.ne_of_lt hlt)]
        exact (hf c hcm).1
    · exfalso
      have h1' : its.toArray[i]? = some u := by simpa using hu
      have h2' : its2.toArray[i]? = some u2 := by simpa using hu2
      rcases q with q | q
      · rw [h1'] at q; cases q
      · rw [h2'] at q; cases q
  done := by
    intro X hP hw hK hc i pins s σ H E I hf st hg
    subst hP hw hK
    obtain ⟨hz, hTI, ⟨x0, y0, hTO⟩, h1, h2⟩ := st
    obtain ⟨xs, ys, hqx, hqy, hend⟩ := hg
    obtain ⟨its, rv, p⟩ := hqx.inv I
    obtain ⟨its2, rv2, p2⟩ := hqy.inv I
    have l1 := rv.length
    have l2 := rv2.length
    refine z2_next hz hTI hTO D h1 h2 p p2 (fun v v2 h' e1 e2 => ?_) (fun _ => ⟨I.ok.hd hc, fun h' hk => ⟨rfl, I.turnedL (t' := s.toks) (ch := [z, TI, TO, i1, i2]) (fun c o hb q =>
      hk c o (fun q' => hb (by simp [q'])) (fun q' => hb (by simp [q'])) (fun q' => hb (by simp [q'])) (fun q' => hb (by simp [q'])) q) hf⟩⟩)
    exfalso
    rcases hend with q | q
    · have : its.toArray[i]? = none := by simp; omega
      rw [this] at e1; cases e1
    · have : its2.toArray[i]? = none := by simp; omega
      rw [this] at e2; cases e2
  self := fun A i s Q E st h => wpAny_pyIter_zip st.1 h
noncomputable def iZip2 (K : PySem.W.Frag) (ta : TA) : TI := fun σ H R => ta σ H fun vs H1 => ∃ c1 c2 xs ys, vs = [.ref c1.2, .ref c2.2] ∧ SqS K H1 c1 xs ∧ SqS K H1 c2 ys ∧ R (Itz2 K c1 c2) H1
theorem pi_zip2 {X : Cx} {e e2 : Expr} {ta : TA} {p pos tpos : Pos} {elts : List Expr} {kk : Nat} (hg : Gl X "zip") (hm : X.mg "zip" = none) (ha : PA X [e, e2] ta)
    (hs : starEach [e, e2] X.env = (false, eval e X.env) :: starEach [e2] X.env := by rfl) (hpl : (backTo pos (starEach [e2] X.env)).any (·.1) = false := by rfl) :
    PI X (.Tuple elts kk tpos) (.Call (.Name "zip" p) [e, e2] [] pos) (iZip2 X.K ta) := by
  constructor
  intro pins s σ H R I h
  refine Call_ (ld_blt I hg hm boot_zip5 (PyProof.Rows.callWith_type1 (thn (ha pos pins s σ H _ I h) fun us s1 ⟨vs, H1, I1, r1, q1⟩ => ?_) hs hpl))
  obtain ⟨c1, c2, xs, ys, ex, hqx, hqy, q⟩ := q1
  subst ex
  cases r1 with
  | cons r rr =>
    cases rr with
    | cons r' rr =>
      cases rr
      cases r
      cases r'
      obtain ⟨its, rv, p1⟩ := hqx.inv I1
      obtain ⟨its2, rv2, p2⟩ := hqy.inv I1
      have la : c1.2 < s1.heap.objs.size := p1.lt
      have lb : c2.2 < s1.heap.objs.size := p2.lt
      refine z2_call p1 p2 fun h' hz hTI hTO h1 h2 hk => wpAny_pyIter_zip hz ?_
      have I2 : Inv X pins σ H1 { s1 with heap := h' } := I1.kept (t' := s1.toks) hk
      refine ⟨s1.heap.objs.size + 4, [s1.heap.objs.size + 4, s1.heap.objs.size + 2, s1.heap.objs.size + 3, s1.heap.objs.size, s1.heap.objs.size + 1], _, _, H1, rfl, I2, turn_zip2 (PySem.W.ktu_apart s1.heap.objs.size c1.2 c2.2 la lb), ⟨hz, hTI, ⟨_, _, hTO⟩, h1, h2⟩, fun c hcm => ?_, q⟩
      have e' : c = s1.heap.objs.size + 4 ∨ c = s1.heap.objs.size + 2 ∨ c = s1.heap.objs.size + 3 ∨ c = s1.heap.objs.size ∨ c = s1.heap.objs.size + 1 := by simpa using hcm
      have hle : s1.heap.objs.size ≤ c := by
        rcases e' with z | z | z | z | z <;> rw [z] <;> first | exact Nat.le_refl _ | exact Nat.le_add_right _ _
      exact I1.fpOk hle (I1.hok.fresh hle)
theorem SqS.same {K : PySem.W.Frag} {H H' : Hp} {c : Src} {xs : List V} (h : SqS K H c xs) (e : Same H H') : SqS K H' c xs := by
  obtain ⟨b, a⟩ := c
  cases b
  · rcases (show SqT K H a xs from h) with (h | ⟨o, h⟩) | h
    · exact .inl (.inl (e _ _ h))
    · exact .inl (.inr ⟨o, e _ _ h⟩)
    · exact .inr h
  · exact e.seq (show SqL K H a xs from h)
theorem SqS.tup {K : PySem.W.Frag} {H : Hp} {a : Addr} {xs : List V} (h : H a = some (.tup xs)) : SqS K H (false, a) xs := SqT.of h
theorem SqS.lst {K : PySem.W.Frag} {H : Hp} {a : Addr} {xs : List V} (h : H a = some (.lst xs)) : SqS K H (true, a) xs := SqL.of h

theorem lc_zip2_map {K : PySem.W.Frag} {c1 c2 : Src} {xs ys : List V} {g : TG} {tt : TT} {te : TE} {vs : List Nat} {σ : St} {H1 : Hp} {D : Addr} {Qd : Hp → Prop} (hD : H1 D = none) (f : Nat → V) (hx : SqS K H1 c1 xs) (hy : SqS K H1 c2 ys) (hz : xs.length ≤ 1000)
    (hs : ∀ i x y T H (R : VK) (F : Hp → Prop), xs[i]? = some x → ys[i]? = some y → Same H1 H → H T = some (.tup [x, y]) → (∀ H', Same H H' → R (f i) H') →
      g (.ref T) (wipe σ vs) H fun σ2 H2 => wipe σ2 vs = wipe σ vs ∧ tt σ2 H2 fun b H3 => if b = true then te σ2 H3 R else F H3)
    (hd : ∀ H', Same H1 H' → H' D = some (.lst ((List.range (min xs.length ys.length)).map f)) → Qd H') :
    ∃ W : Nat → Nat → Hp → Prop, (∃ m, W 0 m (upd H1 D (.lst []))) ∧ ∀ i m H, W i m H →
      ((Itz2 K c1 c2).stop i H ∧ Qd H) ∨ ((Itz2 K c1 c2).go i H ∧ ∃ Nx : Hp → Prop, (∀ H', Nx H' → ∃ m', m' < m ∧ W (i + 1) m' H') ∧ ∀ x H', (Itz2 K c1 c2).yld i H x H' → g x (wipe σ vs) H' fun σ2 H2 => wipe σ2 vs = wipe σ vs ∧ tt σ2 H2 fun b H3 =>
        if b = true then te σ2 H3 fun y H4 => ∃ acc, H4 D = some (.lst acc) ∧ acc.length < sizeLine ∧ Nx (upd H4 D (.lst (acc ++ [y]))) else Nx H3) := by
  refine ⟨fun i m H => m = min xs.length ys.length - i ∧ i ≤ min xs.length ys.length ∧ Same H1 H ∧ H D = some (.lst ((List.range i).map f)), ⟨_, rfl, Nat.zero_le _, same_push hD, upd_same⟩, ?_⟩
  rintro i m H ⟨rfl, hi, hS, hDl⟩
  by_cases hlt : i < min xs.length ys.length
  · have i1 : i < xs.length := Nat.lt_of_lt_of_le hlt (Nat.min_le_left _ _)
    have i2 : i < ys.length := Nat.lt_of_lt_of_le hlt (Nat.min_le_right _ _)
    refine .inr ⟨⟨xs, ys, xs[i], ys[i], hx.same hS, hy.same hS, by simp [i1], by simp [i2]⟩, fun H => Same H1 H ∧ H D = some (.lst ((List.range (i + 1)).map f)), fun H' p' => ⟨min xs.length ys.length - (i + 1), by omega, rfl, hlt, p'⟩, fun v H' y => ?_⟩
    obtain ⟨T, x, y, rfl, hT, rfl, qx, qy⟩ := y
    refine hs i x y T _ _ _ (qx xs (hx.same hS)) (qy ys (hy.same hS)) (hS.trans (same_push hT)) upd_same fun H4 s4 => ⟨_, s4 _ _ (same_push hT _ _ hDl), ?_, ?_, ?_⟩
    · rw [List.length_map, List.length_range]
      exact Nat.lt_of_lt_of_le (Nat.lt_of_lt_of_le i1 hz) (by decide)
    · exact fun b o e => by rw [upd_ne (ne_of_none e hD)]; exact s4 _ _ (same_push hT _ _ (hS _ _ e))
    · rw [upd_same, List.range_succ, List.map_append]; rfl
  · have e : i = min xs.length ys.length := by omega
    subst e
    refine .inl ⟨⟨xs, ys, hx.same hS, hy.same hS, by omega⟩, hd _ hS hDl⟩

end L2

set_option Elab.async false
set_option linter.all false
set_option maxRecDepth 100000

namespace L2
open PySem PySem.Spec PyProof.Rows
section
variable {X : Cx} {pos : Pos}
theorem pg_tupK {K : PySem.W.Frag} {es : List Expr} {k : Nat} {t : TGs} {n : Nat} (hc : X.calm = true) (h : PGs X es t) (hK : X.K = K := by rfl)
    (hn : (assignEach es X.env).length = n := by rfl) (hst : (assignEach es X.env).findIdx? (·.1) = none := by rfl) : PG X (.Tuple es k pos) (gTup K n t) := by subst hK; exact pg_tup hc h hn hst
theorem MtM.r {id : String} {r : V → List V → Hp → VK → Prop} (h : MtM X id r) : MtR X id r := ⟨h.run⟩

end
end L2

set_option Elab.async false
set_option linter.all false
set_option maxRecDepth 100000

namespace My
open PySem PySem.Spec PyProof.Rows L2
noncomputable abbrev Cols := List (Str × Str)

structure FormAt (H : Hp) (a : Addr) (cols : Cols) : Prop where
  ex : ∃ ts : List Addr, H a = some (.tup (ts.map V.ref)) ∧ ts.length = cols.length ∧ ∀ (i : Nat) (t : Addr) (c : Str × Str), ts[i]? = some t → cols[i]? = some c → H t = some (.tup [.str c.1, .str c.2])
theorem FormAt.same {H H' : Hp} {a : Addr} {cols : Cols} (h : FormAt H a cols) (s : Same H H') : FormAt H' a cols := by
  obtain ⟨ts, e, l, f⟩ := h.ex
  exact ⟨ts, s _ _ e, l, fun i t c h1 h2 => s _ _ (f i t c h1 h2)⟩
theorem FormAt.eff {H H' : Hp} {a b : Addr} {cols : Cols} (h : FormAt H a cols) (hb : Bag H b) (s : Eff b H H') : FormAt H' a cols := by
  obtain ⟨ts, e, l, f⟩ := h.ex
  exact ⟨ts, s.2 _ _ (hb.neT e) e, l, fun i t c h1 h2 => s.2 _ _ (hb.neT (f i t c h1 h2)) (f i t c h1 h2)⟩

noncomputable def Kinds (cols : Cols) : Prop := ∀ c ∈ cols, c.2 = "number" ∨ c.2 = "word"

end My
namespace My
open PySem PySem.Spec PyProof.Rows L2
theorem az_nth {i : Int} (h0 : 0 ≤ i) (h1 : i < 26) : atI ("abcdefghijklmnopqrstuvwxyz" : Str).cps.toList i = some (97 + i.toNat) := by
  have e : ("abcdefghijklmnopqrstuvwxyz" : Str).cps.toList = (List.range 26).map (· + 97) := by decide +kernel
  rw [e]
  have hl : i.toNat < 26 := by omega
  have q : ((List.range 26).map (· + 97))[i.toNat]? = some (97 + i.toNat) := by
    rw [List.getElem?_map, List.getElem?_range hl]
    show some (i.toNat + 97) = _
    rw [Nat.add_comm]
  have z := atI_nat q
  have y : ((i.toNat : Nat) : Int) = i := by omega
  rw [y] at z
  exact z

end My
namespace My
open PySem PySem.Spec PyProof.Rows L2
end My
namespace My
open PySem PySem.Spec PyProof.Rows L2
theorem big {n : Nat} (h : n ≤ 1000) : n ≤ sizeLine := Nat.le_trans h (by decide)
end My
namespace My
open PySem PySem.Spec PyProof.Rows L2

end My
namespace My
open PySem PySem.Spec PyProof.Rows L2
end My

set_option Elab.async false
set_option linter.all false
set_option maxRecDepth 100000

namespace My
open PySem PySem.Spec PyProof.Rows L2
end My

set_option Elab.async false
set_option linter.all false
set_option maxRecDepth 100000

namespace My
open PySem PySem.Spec PyProof.Rows L2
mutual
inductive Dt (H : Hp) : V → PyData → Prop
  | non : Dt H .non .none
  | bl (b : Bool) : Dt H (.bl b) (.bool b)
  | int (i : Int) : Dt H (.int i) (.int i)
  | str (x : Str) : Dt H (.str x) (.str x)
  | lst {a : Addr} {xs : List V} {ds : List PyData} : H a = some (.lst xs) → DtAll H xs ds → Dt H (.ref a) (.list ds)
  | tup {a : Addr} {xs : List V} {ds : List PyData} : H a = some (.tup xs) → DtAll H xs ds → Dt H (.ref a) (.tuple ds)
inductive DtAll (H : Hp) : List V → List PyData → Prop
  | nil : DtAll H [] []
  | cons {v : V} {vs : List V} {d : PyData} {ds : List PyData} : Dt H v d → DtAll H vs ds → DtAll H (v :: vs) (d :: ds)
end
mutual
theorem Dt.map {H H' : Hp} (s : ∀ a o, H a = some o → (∃ xs, o = .lst xs ∨ o = .tup xs) → H' a = some o) : ∀ {d : PyData} {v : V}, Dt H v d → Dt H' v d
  | _, _, .non => .non
  | _, _, .bl b => .bl b
  | _, _, .int i => .int i
  | _, _, .str x => .str x
  | _, _, .lst e r => .lst (s _ _ e ⟨_, .inl rfl⟩) (DtAll.map s r)
  | _, _, .tup e r => .tup (s _ _ e ⟨_, .inr rfl⟩) (DtAll.map s r)
theorem DtAll.map {H H' : Hp} (s : ∀ a o, H a = some o → (∃ xs, o = .lst xs ∨ o = .tup xs) → H' a = some o) : ∀ {ds : List PyData} {vs : List V}, DtAll H vs ds → DtAll H' vs ds
  | _, _, .nil => .nil
  | _, _, .cons h r => .cons (Dt.map s h) (DtAll.map s r)
end
theorem Dt.same {H H' : Hp} {v : V} {d : PyData} (h : Dt H v d) (s : Same H H') : Dt H' v d := h.map fun a o e _ => s a o e
theorem DtAll.same {H H' : Hp} {v : List V} {d : List PyData} (h : DtAll H v d) (s : Same H H') : DtAll H' v d := h.map fun a o e _ => s a o e
mutual
theorem Dt.dp {K : PySem.W.Frag} {H : Hp} : ∀ {d : PyData} {v : V}, Dt H v d → Dp K H v d
  | _, _, .non => .non
  | _, _, .bl b => .bl b
  | _, _, .int i => .int i
  | _, _, .str x => .str x
  | _, _, .lst e r => .lst (SqL.of e) (DtAll.dp r)
  | _, _, .tup e r => .tup (SqT.of e) (DtAll.dp r)
theorem DtAll.dp {K : PySem.W.Frag} {H : Hp} : ∀ {ds : List PyData} {vs : List V}, DtAll H vs ds → DpAll K H vs ds
  | _, _, .nil => .nil
  | _, _, .cons h r => .cons (Dt.dp h) (DtAll.dp r)
end
theorem DtAll.length {H : Hp} : ∀ {ds : List PyData} {vs : List V}, DtAll H vs ds → vs.length = ds.length
  | _, _, .nil => rfl
  | _, _, .cons _ r => by rw [List.length_cons, List.length_cons, r.length]
theorem DtAll.get {H : Hp} : ∀ {ds : List PyData} {vs : List V} {i : Nat} {v : V}, DtAll H vs ds → vs[i]? = some v → ∃ d, ds[i]? = some d ∧ Dt H v d
  | _, _, 0, v, .cons h _, e => by cases e; exact ⟨_, rfl, h⟩
  | _, _, i + 1, v, .cons _ r, e => by
    obtain ⟨d, q, h⟩ := DtAll.get (i := i) r (by simpa using e)
    exact ⟨d, by simpa using q, h⟩
mutual
def shortD : PyData → Bool
  | .str x => decide (x.length ≤ 1000)
  | .list xs => shortAll xs
  | .tuple xs => shortAll xs
  | _ => true
def shortAll : List PyData → Bool
  | [] => true
  | x :: r => shortD x && shortAll r
end
theorem shortAll_mem : ∀ {ds : List PyData} {d : PyData}, shortAll ds = true → d ∈ ds → shortD d = true
  | x :: r, d, h, m => by
    simp only [shortAll, Bool.and_eq_true] at h
    rcases List.mem_cons.mp m with rfl | m
    · exact h.1
    · exact shortAll_mem h.2 m
theorem Dt.tyd {H : Hp} {v : V} {d : PyData} (h : Dt H v d) (s : shortD d = true) : Tyd H v := by
  cases h with
  | non => trivial
  | bl b => trivial
  | int i => trivial
  | str x => exact (of_decide_eq_true s : x.length ≤ 1000)
  | lst e r => exact .inl ⟨_, e⟩
  | tup e r => exact .inr ⟨_, e⟩

noncomputable def isTupD : PyData → Bool
  | .tuple _ => true
  | _ => false
noncomputable def isStrD : PyData → Bool
  | .str _ => true
  | _ => false
theorem Dt.instTup {H : Hp} {v : V} {d : PyData} (h : Dt H v d) : instB H v "tuple" = isTupD d := by
  cases h with
  | lst e r =>
    unfold instB
    rw [show tyN H (.ref _) = "list" by show (match H _ with | some (.lst _) => "list" | _ => "tuple") = _; rw [e]]; rfl
  | tup e r =>
    unfold instB
    rw [show tyN H (.ref _) = "tuple" by show (match H _ with | some (.lst _) => "list" | _ => "tuple") = _; rw [e]]; rfl
  | _ => rfl
end My

namespace L2
open PySem PySem.Spec PyProof.Rows
section
variable {X : Cx}

noncomputable def strD : PyData → Str
  | .str x => x
  | d => d.shown

theorem call_strD (hg : X.A.guards = some []) (hu : X.A.units + 150 < cLine) : CallR X (.type "str") (fun xs H Q => ∃ x d, xs = [x] ∧ Dp X.K H x d ∧ d.showable = true ∧ d.hasDict = false ∧ d.depth ≤ 100 ∧ d.shown.length ≤ sizeLine ∧ Q (.str (strD d)) H) := by
  constructor
  intro pins s σ H xs us Q I r h
  obtain ⟨x, d, rfl, hd, sh, nd, dp, sz, q⟩ := h
  obtain ⟨u, rfl, ru⟩ := vals1 r
  obtain ⟨as, rd⟩ := Dp.reads I d x u hd ru
  cases hd with
  | non => cases ru; exact PySem.P.str_of_none ⟨.str "None", H, I.tok _, ⟨_, rfl⟩, q⟩
  | bl b => cases ru; exact PySem.P.str_of_bool ⟨.str _, H, I.tok _, ⟨_, rfl⟩, q⟩
  | int i => exact call_str_int.run pins s σ H [.int i] [u] Q I r ⟨i, rfl, of_decide_eq_true sh, q⟩
  | str x => obtain ⟨t, rfl⟩ := ru; exact PySem.P.str_of_str ⟨.str x, H, I, ⟨t, rfl⟩, q⟩
  | lst e r' =>
    cases ru
    exact str_of_reads (h₀ := s.heap) rd sh (fun z => by rw [nd] at z; cases z) hg (by omega) (fun _ _ e => e) (fun h' u tk hk => ⟨.str _, H, I.kept (t' := tk) hk, ⟨u, rfl⟩, q⟩) sz
  | tup e r' =>
    cases ru
    exact str_of_reads (h₀ := s.heap) rd sh (fun z => by rw [nd] at z; cases z) hg (by omega) (fun _ _ e => e) (fun h' u tk hk => ⟨.str _, H, I.kept (t' := tk) hk, ⟨u, rfl⟩, q⟩) sz
end
end L2

set_option Elab.async false
set_option linter.all false
set_option maxRecDepth 100000

namespace My
open PySem PySem.Spec PyProof.Rows L2
mutual
def wtD : PyData → Nat
  | .list xs => wtAll xs + 2
  | .tuple xs => wtAll xs + 3
  | d => d.shown.length
def wtAll : List PyData → Nat
  | [] => 0
  | x :: r => wtD x + 2 + wtAll r
end
noncomputable def sumL (ts : List Str) : Nat := (ts.map fun t => t.length + 2).sum
theorem sumL_cons (t : Str) (r : List Str) : sumL (t :: r) = t.length + 2 + sumL r := by unfold sumL; rw [List.map_cons, List.sum_cons]
theorem textFrom_le : ∀ (ts : List Str) (k : Nat) (acc : Str), (textFrom k acc ts).length ≤ acc.length + sumL ts
  | [], k, acc => Nat.le_refl _
  | t :: r, k, acc => by
    have h := textFrom_le r (k + 1) (acc ++ (if k > 0 then ", " else "" : String) ++ t)
    have e : (acc ++ (if k > 0 then ", " else "" : String) ++ t).length ≤ acc.length + 2 + t.length := by
      rw [Str.length_append, Str.length_append]
      split
      · show acc.length + 2 + t.length ≤ _; omega
      · show acc.length + 0 + t.length ≤ _; omega
    have e2 : textFrom k acc (t :: r) = textFrom (k + 1) (acc ++ (if k > 0 then ", " else "" : String) ++ t) r := rfl
    rw [e2, sumL_cons]
    omega
theorem join_le : ∀ ts : List Str, (Str.join ", " ts).length ≤ sumL ts
  | [] => Nat.le_refl _
  | [x] => by rw [sumL_cons]; show x.length ≤ _; omega
  | x :: y :: r => by
    have ih := join_le (y :: r)
    show (x ++ ", " ++ Str.join ", " (y :: r)).length ≤ _
    rw [Str.length_append, Str.length_append, sumL_cons]
    show x.length + 2 + _ ≤ _
    omega
mutual
theorem shown_le : ∀ d : PyData, d.shown.length ≤ wtD d
  | .none => Nat.le_refl _
  | .bool b => Nat.le_refl _
  | .int i => Nat.le_refl _
  | .str x => Nat.le_refl _
  | .dict kvs => Nat.le_refl _
  | .list xs => by
    have h := shownAll_le xs
    show (textFrom 0 "[" (PyData.shownAll xs) ++ ("]" : Str)).length ≤ wtAll xs + 2
    rw [Str.length_append]
    have := textFrom_le (PyData.shownAll xs) 0 "["
    have e : ("[" : Str).length = 1 := rfl
    have e2 : ("]" : Str).length = 1 := rfl
    omega
  | .tuple xs => by
    have h := shownAll_le xs
    show (("(" : Str) ++ Str.join ", " (PyData.shownAll xs) ++ (if (PyData.shownAll xs).length == 1 then ",)" else ")" : String)).length ≤ wtAll xs + 3
    rw [Str.length_append, Str.length_append]
    have := join_le (PyData.shownAll xs)
    have e : ("(" : Str).length = 1 := rfl
    split
    · show _ + _ + 2 ≤ _; omega
    · show _ + _ + 1 ≤ _; omega
theorem shownAll_le : ∀ xs : List PyData, sumL (PyData.shownAll xs) ≤ wtAll xs
  | [] => Nat.le_refl _
  | x :: r => by
    have h1 := shown_le x
    have h2 := shownAll_le r
    show sumL (PyData.shown x :: PyData.shownAll r) ≤ wtD x + 2 + wtAll r
    rw [sumL_cons]
    omega
end
end My

set_option Elab.async false
set_option linter.all false
set_option maxRecDepth 100000

namespace L2
open PySem PySem.Spec PyProof.Rows
section
variable {X : Cx}

noncomputable def rInS (K : PySem.W.Frag) : R2 := fun x y H Q => ∃ (p : Addr) (zs : List Str), y = .ref p ∧ SqT K H p (zs.map V.str) ∧ ((flatV x = true ∧ Q (.bl (inV x (zs.map V.str))) H) ∨ (∃ a, x = .ref a ∧ ((∃ xs, H a = some (.lst xs)) ∨ ∃ xs, H a = some (.tup xs)) ∧ Q (.bl false) H))
theorem op_inS {K : PySem.W.Frag} (hu : X.A.units + 64 < cLine) (hK : X.K = K := by rfl) : OpR X (compareOp .In) (rInS K) := by
  subst hK
  constructor
  intro pins s σ H x y v u Q I rx ry h
  obtain ⟨p, zs, rfl, hs, h⟩ := h
  have fs : (zs.map V.str).all flatV = true := by simp [List.all_map, flatV]
  rcases h with ⟨fx, q⟩ | ⟨a, rfl, ha, q⟩
  · exact op_in_seq.run pins s σ H x _ v u Q I rx ry ⟨p, _, rfl, .inr hs, fx, fs, q⟩
  · cases ry
    cases rx
    obtain ⟨its, r, pl, hz⟩ := I.tuple hs
    refine SeqAt.in_tupleAt (fun _ => false) pl (fun w hw => ?_) ⟨.bl false, H, I, ?_, q⟩
    · have hw' : w ∈ its := by simpa using hw
      obtain ⟨i, hi, rfl⟩ := List.getElem_of_mem hw'
      have hl := r.length
      have hi' : i < (zs.map V.str).length := by omega
      obtain ⟨u', hu', ru'⟩ := r.get (i := i) (x := (zs.map V.str)[i]) (by simp [hi'])
      have e : its[i] = u' := by
        have : its[i]? = some its[i] := by simp [hi]
        rw [this] at hu'; exact Option.some.inj hu'
      rw [e]
      simp only [List.getElem_map] at ru'
      obtain ⟨t, rfl⟩ := ru'
      rcases ha with ⟨xs, e1⟩ | ⟨xs, e1⟩
      · obtain ⟨its2, _, p2, _⟩ := I.list (SqL.of e1)
        exact SeqAt.EqAt.str_list _ _ p2.isList (by show X.A.units + 1 < cLine; omega)
      · obtain ⟨its2, _, p2, _⟩ := I.tuple (SqT.of e1)
        exact SeqAt.EqAt.str_tuple _ _ p2 (by show X.A.units + 1 < cLine; omega)
    · show Value.bool _ = Value.bool false
      congr 1
      simp

end
end L2

set_option Elab.async false
set_option linter.all false
set_option maxRecDepth 100000

namespace L2
open PySem PySem.Spec PyProof.Rows
noncomputable def hasK (k : Key) (ks : List Key) : Bool := ks.any fun x => decide (x = k)

noncomputable def dcnt : List Key → Nat
  | [] => 0
  | k :: r => if hasK k r = true then dcnt r else dcnt r + 1

noncomputable def setO (P : Program) (w : World) (D : Addr) (ks : List Key) : HO := .ext fun h => ∃ S : Key → Bool, h.SetOf (mixKind P w) D S (dcnt ks) ∧ ∀ k, S k = hasK k ks
theorem setO_ok {P : Program} {w : World} {H : Hp} {h : Heap} {D : Addr} {ks : List Key} (q : ∃ S : Key → Bool, h.SetOf (mixKind P w) D S (dcnt ks) ∧ ∀ k, S k = hasK k ks) : ObjOk P w H h D (setO P w D ks) := by
  refine ⟨q, ?_, fun h1 h2 ⟨S, e, r⟩ k => ?_⟩
  · obtain ⟨S, ⟨o, _, _, _, e, _⟩, _⟩ := q
    exact ⟨o, e⟩
  · obtain ⟨o, es, ep, t, e1, r1⟩ := e
    exact ⟨S, ⟨o, es, ep, t, k o e1, r1⟩, r⟩
section
variable {X : Cx} {pins : List (Addr × Obj)} {σ : St} {H : Hp} {s : Shared}
theorem add_ok {E : Value → Shared → Prop} {D : Addr} {ks : List Key} {k : Key} {v : Value} {Q : Value → Shared → Prop} (I : Inv X pins σ H s) (hD : H D = some (setO X.prog X.w D ks)) (hz : ks.length < 1000) (r : RelV (kV k) v)
    (h : ∀ s', Inv X pins σ (upd H D (setO X.prog X.w D (k :: ks))) s' → Q .none s') : wpAny (model X.prog X.w) X.A (call (.builtin "set.add") [.ref D, v]) Q E s := by
  obtain ⟨⟨S, hS, hk⟩, _, _⟩ := I.hok D _ hD
  have hkey : (mixKind X.prog X.w).is k v = true := by
    cases k with
    | inl i => obtain ⟨t, rfl⟩ := r; exact keyIs_int i t
    | inr x => obtain ⟨t, rfl⟩ := r; exact keyIs_str x t
  have hsc : v.scannable = true := by
    cases k with
    | inl i => obtain ⟨t, rfl⟩ := r; rfl
    | inr x => obtain ⟨t, rfl⟩ := r; rfl
  have hn : ∀ l : List Key, dcnt l ≤ l.length := by
    intro l
    induction l with
    | nil => exact Nat.le_refl _
    | cons a r ih => simp only [dcnt]; split <;> (rw [List.length_cons]; omega)
  have hb := hn ks
  refine call_set_add hkey hsc hS (by show dcnt ks + 1 < 4096; omega) fun h' sb hS' => ?_
  have e1 : (if S k = true then dcnt ks else dcnt ks + 1) = dcnt (k :: ks) := by
    rw [hk]
    rfl
  rw [e1] at hS'
  refine h _ (I.write (t' := s.toks + 1) (by rw [hD]; trivial) (.inl rfl) (fun b u hb q => (sb.2 b hb).trans q) (let ⟨o, _, _, _, e, _⟩ := hS'; ⟨o, e⟩) (setO_ok ⟨_, hS', fun k' => ?_⟩))
  rw [hk]
  show (hasK k' ks || decide (k' = k)) = (decide (k = k') || hasK k' ks)
  rw [Bool.or_comm]
  congr 1
  by_cases q1 : k = k'
  · rw [decide_eq_true q1, decide_eq_true q1.symm]
  · rw [decide_eq_false q1, decide_eq_false (Ne.symm q1)]

theorem call_lenS : CallR X (.builtin "len") (fun xs H Q => ∃ a ks, xs = [V.ref a] ∧ H a = some (setO X.prog X.w a ks) ∧ ks.length ≤ 1000 ∧ Q (.int (dcnt ks : Nat)) H) := by
  constructor
  intro pins s σ H xs us Q I r h
  obtain ⟨a, ks, rfl, ha, hl, q⟩ := h
  obtain ⟨u, rfl, ru⟩ := vals1 r
  cases ru
  obtain ⟨⟨S, ⟨o, es, ep, t, ho, hex, hd, _, _, hsz, hf, hn⟩, _⟩, _, _⟩ := I.hok a _ ha
  have hb : es.size < 4096 := hsz
  refine call_len_set ho hex hd hf (by omega) ⟨.int (dcnt ks : Nat), H, (I.tok _).tok _, ⟨_, by rw [hn]⟩, q⟩
end
theorem compTurn_setA (elt target iter : Expr) (ifs : List Expr) (scope : Scope) (pos : Pos) (it acc : Value) (env : Env) :
    compTurn (.SetComp elt [⟨target, iter, ifs, 0⟩] scope pos) 0 it acc env = (do
      standAt iter.pos
      match ← pyNext it with
      | none => pure (.done .next)
      | some v =>
        letOwnedTupleGo target it v
        assign target env v
        let mut ok := true
        for c in ifs do
          if ok then ok ← isTrue c env (eval c env)
        if ok then
          (do let v ← eval elt env; standAt elt.pos; let _ ← call (.builtin "set.add") [acc, v])
        again (.compLoop (.SetComp elt [⟨target, iter, ifs, 0⟩] scope pos) 0 it acc env)) := by rfl
theorem eval_SetCompA {env : Env} (elt gens scope pos) : eval (.SetComp elt gens scope pos) env =
    comprehension (.SetComp elt gens scope pos) scope env (firstIterPos gens pos) (newSet (.type "set")) (firstAsync gens) (firstIter gens env) := rfl
theorem codeAny_compStart_setA {prog : Program} {w : World} {A : Around} {R : Result → Shared → Prop} {s : Shared} {elt target iter ifs rest scope pos it acc env}
    (h0 : codeAny (model prog w) A (.compLoop (.SetComp elt (⟨target, iter, ifs, 0⟩ :: rest) scope pos) 0 it acc env) R s)
    (h : wpAny (model prog w) A (pyIter it) (fun it' s' => codeAny (model prog w) A (.compLoop (.SetComp elt (⟨target, iter, ifs, 0⟩ :: rest) scope pos) 0 it' acc env) R s') (notedBy (model prog w) A env fun x s' => R (.error x) s') s) :
    codeAny (model prog w) A (.compStart (.SetComp elt (⟨target, iter, ifs, 0⟩ :: rest) scope pos) 0 it acc env) R s := by
  refine codeAny_of_tree ?_
  show wpAny _ _ ((compStart (.SetComp elt (⟨target, iter, ifs, 0⟩ :: rest) scope pos) 0 it acc env).onRaise (fun x => do noteFrame x env; standAt theWindowsPlace)) _ _ s
  refine wpAny_notedAt ?_; unfold compStart
  show wpAny _ _ (ask >>= _) _ _ s; refine wpAny_bind (wpAny_askSetting (wpAny_ite ?_)); split
  · first | exact wpAny_bind (wpAny_pure (wpAny_pure (And.intro rfl h0))) | exact wpAny_pure (And.intro rfl h0)
  · first
    | exact wpAny_bind (wpAny_rule (wpAny_bind (wpAny_standAt (wpAny_bind (wpAny_mono h (fun it' s' h' => wpAny_pure (And.intro rfl h')) fun _ _ x => x)))))
    | (refine wpAny_bind (wpAny_rule ?_); show wpAny _ _ (standAt iter.pos >>= _) _ _ s; exact wpAny_bind (wpAny_standAt (wpAny_bind (wpAny_mono h (fun it' s' h' => wpAny_pure (And.intro rfl h')) fun _ _ x => x))))
section
variable {X : Cx}

noncomputable def tSc (X : Cx) (wi : TI) (g : TG) (tt : TT) (te : TE) (vs : List Nat) : TE := fun σ H Q => wi σ H fun J H1 => ∀ D, H1 D = none → ∃ W : Nat → Nat → Hp → Prop, (∃ m, W 0 m (upd H1 D (setO X.prog X.w D []))) ∧ ∀ i m H, W i m H →
  (J.stop i H ∧ Q (.ref D) H) ∨ (J.go i H ∧ ∃ Nx : Hp → Prop, (∀ H', Nx H' → ∃ m', m' < m ∧ W (i + 1) m' H') ∧ ∀ x H', J.yld i H x H' → g x (wipe σ vs) H' fun σ2 H2 => wipe σ2 vs = wipe σ vs ∧ tt σ2 H2 fun b H3 =>
    if b = true then te σ2 H3 fun y H4 => ∃ ks k, y = kV k ∧ H4 D = some (setO X.prog X.w D ks) ∧ ks.length < 1000 ∧ Nx (upd H4 D (setO X.prog X.w D (k :: ks))) else Nx H3)
theorem scLoop_any {prog : Program} {w : World} {A : Around} {R : Result → Shared → Prop} {s : Shared} {elt target iter : Expr} {ifs : List Expr} {scope : Scope} {pos : Pos} {it acc : Value} {env : Env} (I : Nat → Shared → Prop)
    (turn : ∀ n s, I n s → wpAny (model prog w) A (pyNext it) (fun r s₁ => match r with
      | none => R (.ok .next) s₁
      | some v => wpAny (model prog w) A (letOwnedTupleGo target it v) (fun _ s₁' => wpAny (model prog w) A (assign target env v) (fun _ s₂ =>
          wpAny (model prog w) A (forIn ifs true fun c r => if r = true then do let ok ← isTrue c env (eval c env); pure (ForInStep.yield ok) else pure (ForInStep.yield r)) (fun ok s₃ =>
            if ok = true then wpAny (model prog w) A (eval elt env) (fun x s₄ =>
              wpAny (model prog w) A (call (.builtin "set.add") [acc, x]) (fun _ s₅ => ∃ m, m < n ∧ I m s₅) (notedBy (model prog w) A env fun e s' => R (.error e) s') s₄) (notedBy (model prog w) A env fun e s' => R (.error e) s') s₃
            else ∃ m, m < n ∧ I m s₃) (notedBy (model prog w) A env fun e s' => R (.error e) s') s₂) (notedBy (model prog w) A env fun e s' => R (.error e) s') s₁') (notedBy (model prog w) A env fun e s' => R (.error e) s') s₁) (notedBy (model prog w) A env fun e s' => R (.error e) s') s)
    (n : Nat) (h : I n s) :
    codeAny (model prog w) A (.compLoop (.SetComp elt [⟨target, iter, ifs, 0⟩] scope pos) 0 it acc env) R s := by
  refine codeAny_loop rfl I (fun n s hI => ?_) n h
  show wpAny _ A ((compTurn (.SetComp elt [⟨target, iter, ifs, 0⟩] scope pos) 0 it acc env).onRaise (fun x => do noteFrame x env; theTreesLotGoes x)) _ _ s
  refine wpAny_noted ?_
  rw [compTurn_setA]
  refine wpAny_bind (wpAny_standAt (wpAny_bind (wpAny_mono (turn n s hI) (fun r s₁ h₁ => ?_) fun _ _ h' => h')))
  cases r with
  | none => exact wpAny_pure h₁
  | some v =>
    refine wpAny_bind (wpAny_mono h₁ (fun _ s₁' h₁' => ?_) fun _ _ h' => h')
    refine wpAny_bind (wpAny_mono h₁' (fun _ s₂ h₂ => wpAny_bind (wpAny_mono h₂ (fun ok s₃ h₃ => ?_) fun _ _ h' => h')) fun _ _ h' => h')
    cases ok with
    | false => exact wpAny_pure ⟨rfl, h₃⟩
    | true =>
      exact wpAny_bind (wpAny_bind (wpAny_mono h₃ (fun x s₄ h₄ => wpAny_bind (wpAny_standAt (wpAny_bind (wpAny_mono h₄ (fun _ s₅ h₅ => wpAny_pure (wpAny_pure ⟨rfl, h₅⟩)) fun _ _ h' => h')))) fun _ _ h' => h'))

theorem sc_core {pins : List (Addr × Obj)} {s : Shared} {σ : St} {H : Hp} {Q : VK} {elt tg iter : Expr} {ifs : List Expr} {scope : Scope} {own : List (Str × Nat)} {pos pos' : Pos} {wi : TI} {g : TG} {tt : TT} {te : TE} {use : Option (Value → Sem Unit)} {Qf : Value → Shared → Prop}
    (hc : X.calm = true) (hN : X.N.Nodup) (I : Inv X pins σ H s) (hi : PI X tg iter wi) (ok : BlkOk X.N X.env.scope scope own)
    (hg : ∀ (s : Shared) (H : Hp) (C : Addr) (cl : List (Str × Addr)) (fp : List Addr), PG (X.blk s H scope (compEnvC scope cl C X.env) fp) tg g) (ht : ∀ (s : Shared) (H : Hp) (C : Addr) (cl : List (Str × Addr)) (fp : List Addr), PTs (X.blk s H scope (compEnvC scope cl C X.env) fp) ifs tt)
    (he : ∀ (s : Shared) (H : Hp) (C : Addr) (cl : List (Str × Addr)) (fp : List Addr), PE (X.blk s H scope (compEnvC scope cl C X.env) fp) elt te) (hs : ∀ x, foldedSetIterable iter X.env x = pure x)
    (h : tSc X wi g tt te (own.map (·.2)) σ H Q)
    (hRR : ∀ D C s' m H', Inv X pins σ H' s' → Q (.ref D) H' → s'.heap.Ns C m → FpOk X pins H' C → compPost (model X.prog X.w) X.A X.xe use Qf (.ref D) C (.ok .next) s') :
    wpAny (model X.prog X.w) X.A (comprehension (.SetComp elt [⟨tg, iter, ifs, 0⟩] scope pos) scope X.env pos' (newSet (.type "set")) false (eval iter X.env) use) Qf X.xe s := by
  have hfree : ∀ y ∈ scope.names, y.2 = .free → ∃ c, X.env.cells.lookup y.1 = some c := fun y hy e => by
    rcases ok.free y hy e with k | k
    · exact I.ok.has _ (.inl k)
    · exact I.ok.has _ (.inr k)
  refine wpAny_comprehension_free (use := use) rfl hs (closure_ok hfree) ok.kind (fun y hy e => by rw [ok.uniq y hy, e])
    (thn (hi pins s σ H _ I h) fun xv s1 hx => thn hx fun itv s2 h2 => ?_)
  obtain ⟨it, fp, tn, J, H2, e, I2, T, st2, f2, q⟩ := h2
  subst e
  refine wpAny_newSet_of (knd := mixKind X.prog X.w) fun led hS0 => newEnv_comp ?_
  generalize hD : s2.heap.objs.size = D
  have hDn : H2 D = none := I2.hok.fresh (Nat.le_of_eq hD)
  obtain ⟨W, ⟨m0, w0⟩, turn⟩ := q D hDn
  -- the new set
  generalize hs3 : ({ s2 with heap := s2.heap.push { cls := .type "set", dict := none, data := .set #[] 0 (.fresh 0 0 led) } } : Shared) = s3
  have I3 : Inv X pins σ (upd H2 D (setO X.prog X.w D [])) s3 := by
    rw [← hs3]
    refine I2.laid (t' := s2.toks) (fun b o e => Heap.get?_push_of_some _ e) (Nat.le_of_eq hD) (setO_ok ?_)
    rw [hD] at hS0
    exact ⟨_, hS0, fun k => rfl⟩
  have h3 : s3.heap = s2.heap.push { cls := .type "set", dict := none, data := .set #[] 0 (.fresh 0 0 led) } := by rw [← hs3]
  have sz : ∀ b ∈ fp, b < s2.heap.objs.size := fun b hb => by
    obtain ⟨o, e, _⟩ := T.obj _ _ st2 b hb
    exact Heap.lt_size e
  have f3 : ∀ b ∈ fp, FpOk X pins (upd H2 D (setO X.prog X.w D [])) b ∧ b < s3.heap.objs.size := fun b hb => by
    have hlt := sz b hb
    refine ⟨⟨?_, (f2 b hb).2⟩, by rw [h3, Heap.size_push]; exact Nat.lt_succ_of_lt hlt⟩
    rw [upd_ne (by rw [← hD]; exact Nat.ne_of_lt hlt)]
    exact (f2 b hb).1
  have st3 : tn 0 s3.heap := T.keep _ _ _ st2 fun b _ o e => by rw [h3]; exact Heap.get?_push_of_some _ e
  have I4 := block_start I3 ok hN f3
  have pg := hg s3 (upd H2 D (setO X.prog X.w D [])) s3.heap.objs.size (cellsFrom (s3.heap.objs.size + 1) scope.names (cloFrom X.env.cells scope.names [])) fp
  have pt := ht s3 (upd H2 D (setO X.prog X.w D [])) s3.heap.objs.size (cellsFrom (s3.heap.objs.size + 1) scope.names (cloFrom X.env.cells scope.names [])) fp
  have pe := he s3 (upd H2 D (setO X.prog X.w D [])) s3.heap.objs.size (cellsFrom (s3.heap.objs.size + 1) scope.names (cloFrom X.env.cells scope.names [])) fp
  show codeAny _ _ (.compStart (.SetComp elt [⟨tg, iter, ifs, 0⟩] scope pos) 0 (.ref it) (.ref D) (compEnvC scope (cellsFrom (s3.heap.objs.size + 1) scope.names (cloFrom X.env.cells scope.names [])) s3.heap.objs.size X.env)) (compPost (model X.prog X.w) X.A X.xe use Qf (.ref D) s3.heap.objs.size) { s3 with heap := pushCells (s3.heap.push { cls := .type "dict", data := .dict #[] }) scope.names }
  have nfp : ∀ b ∈ fp, (upd H2 D (setO X.prog X.w D [])) b = none := fun b hb => (f3 b hb).1.1
  generalize hce : compEnvC scope (cellsFrom (s3.heap.objs.size + 1) scope.names (cloFrom X.env.cells scope.names [])) s3.heap.objs.size X.env = ce at I4 pg pt pe ⊢
  have cL : ce.locals = s3.heap.objs.size := by subst hce; rfl
  generalize hH3 : upd H2 D (setO X.prog X.w D []) = H3 at I3 I4 pg pt pe w0 nfp f3
  generalize hs4 : ({ s3 with heap := pushCells (s3.heap.push { cls := .type "dict", data := .dict #[] }) scope.names } : Shared) = s4 at I4 ⊢
  have st4 : tn 0 s4.heap := T.keep _ _ _ st3 fun b _ o e => by rw [← hs4]; exact pushCells_keeps _ _ _ _ (Heap.get?_push_of_some _ e)
  have stat : ∀ {σ' : St} {H' : Hp} {s' : Shared}, Inv (X.blk s3 H3 scope ce fp) [] σ' H' s' → (∀ b ∈ fp, H' b = none) → ∀ b ∈ fp, FpOk (X.blk s3 H3 scope ce fp) [] H' b := fun {σ' H' s'} I' hn b hb =>
    ⟨hn b hb, (I'.ok.exf b hb).1, I'.ok.exfs b hb, .inl hb, fun x c e => (I'.ok.exf b hb).2 x c e, fun p hp => absurd (show p ∈ ([] : List (Addr × Obj)) ++ [] from hp) (by simp)⟩
  have loop : codeAny (model X.prog X.w) X.A (.compLoop (.SetComp elt [⟨tg, iter, ifs, 0⟩] scope pos) 0 (.ref it) (.ref D) ce) (compPost (model X.prog X.w) X.A X.xe use Qf (.ref D) s3.heap.objs.size) s4 := by
    refine scLoop_any (fun n s' => ∃ i H', Inv (X.blk s3 H3 scope ce fp) [] (wipe σ (own.map (·.2))) H' s' ∧ tn i s'.heap ∧ (∀ b ∈ fp, H' b = none) ∧ W i n H') ?_ m0 ⟨0, H3, I4, st4, nfp, w0⟩
    rintro n s5 ⟨i, H5, I5, st5, n5, w5⟩
    rcases turn i n H5 w5 with ⟨stop, qq⟩ | ⟨go, Nx, hNx, step⟩
    · have td := T.done (X.blk s3 H3 scope ce fp) rfl rfl rfl hc i [] s5 _ H5 (fun _ _ => False) I5 (stat I5 n5) st5 stop
      refine thnF td fun r s6 ⟨hr, I6⟩ => ?_
      subst hr
      -- back in the def's context
      have I7 : Inv X pins σ H5 s6 := I3.call' (ch := fp) I6.os I6.base I6.hok I6.bare fun b hb => ⟨(f3 b hb).1.2.2.2.1, (f3 b hb).1.2.1, (f3 b hb).1.2.2.2.2.1, (f3 b hb).1.2.2.2.2.2⟩
      have nC : H5 s3.heap.objs.size = none := by
        have z : H5 ce.locals = none := I6.free
        rw [cL] at z
        exact z
      obtain ⟨m, hn, _⟩ := I6.loc
      have hn : s6.heap.Ns ce.locals m := hn
      rw [cL] at hn
      exact hRR D s3.heap.objs.size s6 m H5 I7 qq hn (I3.fpOk (Nat.le_refl _) nC)
    · have ti := T.item (X.blk s3 H3 scope ce fp) rfl rfl rfl hc i [] s5 _ H5 (fun _ _ => False) I5 (stat I5 n5) st5 go
      refine thnF ti fun r s6 ⟨u, hr, h6⟩ => ?_
      subst hr
      refine thnF h6 fun _ s7 ⟨x, H7, I7, r7, y7, st7, n7⟩ => ?_
      have I7' := I7.pinned (stat I7 n7) (T.obj _ _ st7)
      refine thnF (pg _ s7 _ H7 x u _ I7' r7 (step x H7 y7)) fun _ s8 ⟨σ8, H8, I8, hw8, q8⟩ => ?_
      refine thnF (pt _ s8 σ8 H8 _ I8 q8) fun b s9 ⟨H9, I9, q9⟩ => ?_
      -- the turn's end
      have fin : ∀ {s' : Shared} {H' : Hp}, Inv (X.blk s3 H3 scope ce fp) ([] ++ pinsAt fp s7.heap) σ8 H' s' → Nx H' → ∃ m, m < n ∧ ∃ i H', Inv (X.blk s3 H3 scope ce fp) [] (wipe σ (own.map (·.2))) H' s' ∧ tn i s'.heap ∧ (∀ b ∈ fp, H' b = none) ∧ W i m H' := fun {s' H'} I' nx => by
        obtain ⟨m', hm, w'⟩ := hNx H' nx
        have pin' : ∀ b ∈ fp, ∀ o, s7.heap.get? b = some o → s'.heap.get? b = some o ∧ H' b = none := fun b hb o e =>
          let z := I'.pin (b, o) (List.mem_append_right _ (List.mem_append_right _ (mem_pinsAt hb e)))
          ⟨z.1, z.2.1⟩
        have hl : (wipe σ (own.map (·.2))).length = σ8.length := by rw [← hw8, wipe_length]
        refine ⟨m', hm, i + 1, H', (I'.unpinned (pins := [])).weak hl (fun j v e => ?_), T.keep _ _ _ st7 fun b hb o e => (pin' b hb o e).1, fun b hb => ?_, w'⟩
        · rw [← hw8] at e
          exact (wipe_some e).1
        · obtain ⟨o, e, _⟩ := T.obj _ _ st7 b hb
          exact (pin' b hb o e).2
      cases b with
      | false =>
        simp only [Bool.false_eq_true, if_false] at q9 ⊢
        exact fin I9 q9
      | true =>
        simp only [if_true] at q9 ⊢
        refine thnF (pe _ s9 σ8 H9 _ I9 q9) fun z s10 ⟨yv, H10, I10, r10, ks, kk, ey, hD10, hz10, nx⟩ => ?_
        subst ey
        exact add_ok (X := X.blk s3 H3 scope ce fp) I10 hD10 hz10 r10 fun s11 I11 => fin I11 nx
  exact codeAny_compStart_setA loop (T.self X.A 0 _ _ _ st4 loop)
theorem pe_sc {elt tg iter : Expr} {ifs : List Expr} {scope : Scope} {own : List (Str × Nat)} {pos : Pos} {wi : TI} {g : TG} {tt : TT} {te : TE} (hc : X.calm = true) (hN : X.N.Nodup) (hi : PI X tg iter wi) (ok : BlkOk X.N X.env.scope scope own)
    (hg : ∀ (s : Shared) (H : Hp) (C : Addr) (cl : List (Str × Addr)) (fp : List Addr), PG (X.blk s H scope (compEnvC scope cl C X.env) fp) tg g) (ht : ∀ (s : Shared) (H : Hp) (C : Addr) (cl : List (Str × Addr)) (fp : List Addr), PTs (X.blk s H scope (compEnvC scope cl C X.env) fp) ifs tt)
    (he : ∀ (s : Shared) (H : Hp) (C : Addr) (cl : List (Str × Addr)) (fp : List Addr), PE (X.blk s H scope (compEnvC scope cl C X.env) fp) elt te) (hs : ∀ x, foldedSetIterable iter X.env x = pure x := by intro _; rfl) :
    PE X (.SetComp elt [⟨tg, iter, ifs, 0⟩] scope pos) (tSc X wi g tt te (own.map (·.2))) := by
  constructor
  intro pins s σ H Q I h
  rw [eval_SetCompA]
  refine sc_core hc hN I hi ok hg ht he hs h fun D C s' m H' I' q hn f => ⟨m, hn, fun h'' sb => ?_⟩
  obtain ⟨f0, f1, f2, f3, f4, f5⟩ := f
  exact ⟨.ref D, H', I'.turned (t' := s'.toks) (fun b o hb e => (sb.2 b hb).trans e) f0 f1 f3 f4 f5, rfl, q⟩
end
end L2

set_option Elab.async false
set_option linter.all false
set_option maxRecDepth 100000

namespace L2
open PySem PySem.Spec PyProof.Rows
theorem same_put {H H' : Hp} {D : Addr} {o : HO} (s : Same H H') (hD : H D = none) : Same H (upd H' D o) := fun b u e => by
  rw [upd_ne (ne_of_none e hD)]; exact s b u e
theorem Room.units150 {k : Nat} {A : Around} (r : Room k A) : A.units + 150 < cLine := by have := r.un; omega
theorem seqR {t u : TS} {D : Ends} {σ : St} {H : Hp} (R : St → Hp → Prop) (h2 : ∀ σ' H', R σ' H' → u D σ' H') (h1 : ∀ nx : St → Hp → Prop, (∀ σ' H', R σ' H' → nx σ' H') → t { D with nx := nx } σ H) : tSeq t u D σ H := h1 _ h2

theorem lc_tup_map {K : PySem.W.Frag} {a : Addr} {xs : List V} {g : TG} {tt : TT} {te : TE} {vs : List Nat} {σ : St} {H1 : Hp} {D : Addr} {Qd : Hp → Prop} (hD : H1 D = none) (f : Nat → V) (ha : H1 a = some (.tup xs)) (hz : xs.length < sizeLine)
    (hs : ∀ i x H (R : VK) (F : Hp → Prop), xs[i]? = some x → Same H1 H → (∀ H', Same H H' → R (f i) H') → g x (wipe σ vs) H fun σ2 H2 => wipe σ2 vs = wipe σ vs ∧ tt σ2 H2 fun b H3 => if b = true then te σ2 H3 R else F H3)
    (hd : ∀ H', Same H1 H' → H' D = some (.lst ((List.range xs.length).map f)) → Qd H') :
    ∃ W : Nat → Nat → Hp → Prop, (∃ m, W 0 m (upd H1 D (.lst []))) ∧ ∀ i m H, W i m H →
      ((Itt K a).stop i H ∧ Qd H) ∨ ((Itt K a).go i H ∧ ∃ Nx : Hp → Prop, (∀ H', Nx H' → ∃ m', m' < m ∧ W (i + 1) m' H') ∧ ∀ x H', (Itt K a).yld i H x H' → g x (wipe σ vs) H' fun σ2 H2 => wipe σ2 vs = wipe σ vs ∧ tt σ2 H2 fun b H3 =>
        if b = true then te σ2 H3 fun y H4 => ∃ acc, H4 D = some (.lst acc) ∧ acc.length < sizeLine ∧ Nx (upd H4 D (.lst (acc ++ [y]))) else Nx H3) := by
  refine lc_tup (xs := xs) (fun i H => Same H1 H ∧ H D = some (.lst ((List.range i).map f))) ⟨same_put (Same.refl _) hD, upd_same⟩ (fun i H _ ⟨s, _⟩ => SqT.of (s _ _ ha)) (fun i x H hx ⟨s, e⟩ => ?_) (fun H ⟨s, e⟩ => hd H s e)
  refine hs i x H _ _ hx s fun H' s' => ⟨_, s' _ _ e, ?_, same_put (s.trans s') hD, ?_⟩
  · rw [List.length_map, List.length_range]
    exact Nat.lt_trans (List.getElem?_eq_some_iff.mp hx).1 hz
  · rw [upd_same, List.range_succ, List.map_append]; rfl

theorem lc_list_map {K : PySem.W.Frag} {a : Addr} {xs : List V} {g : TG} {tt : TT} {te : TE} {vs : List Nat} {σ : St} {H1 : Hp} {D : Addr} {Qd : Hp → Prop} (hD : H1 D = none) (f : Nat → V) (ha : H1 a = some (.lst xs)) (hz : xs.length < sizeLine)
    (hs : ∀ i x H (R : VK) (F : Hp → Prop), xs[i]? = some x → Same H1 H → (∀ H', Same H H' → R (f i) H') → g x (wipe σ vs) H fun σ2 H2 => wipe σ2 vs = wipe σ vs ∧ tt σ2 H2 fun b H3 => if b = true then te σ2 H3 R else F H3)
    (hd : ∀ H', Same H1 H' → H' D = some (.lst ((List.range xs.length).map f)) → Qd H') :
    ∃ W : Nat → Nat → Hp → Prop, (∃ m, W 0 m (upd H1 D (.lst []))) ∧ ∀ i m H, W i m H →
      ((Itl K a).stop i H ∧ Qd H) ∨ ((Itl K a).go i H ∧ ∃ Nx : Hp → Prop, (∀ H', Nx H' → ∃ m', m' < m ∧ W (i + 1) m' H') ∧ ∀ x H', (Itl K a).yld i H x H' → g x (wipe σ vs) H' fun σ2 H2 => wipe σ2 vs = wipe σ vs ∧ tt σ2 H2 fun b H3 =>
        if b = true then te σ2 H3 fun y H4 => ∃ acc, H4 D = some (.lst acc) ∧ acc.length < sizeLine ∧ Nx (upd H4 D (.lst (acc ++ [y]))) else Nx H3) := by
  refine lc_list (xs := xs) (fun i H => Same H1 H ∧ H D = some (.lst ((List.range i).map f))) ⟨same_put (Same.refl _) hD, upd_same⟩ (fun i H _ ⟨s, _⟩ => SqL.of (s _ _ ha)) (fun i x H hx ⟨s, e⟩ => ?_) (fun H ⟨s, e⟩ => hd H s e)
  refine hs i x H _ _ hx s fun H' s' => ⟨_, s' _ _ e, ?_, same_put (s.trans s') hD, ?_⟩
  · rw [List.length_map, List.length_range]
    exact Nat.lt_trans (List.getElem?_eq_some_iff.mp hx).1 hz
  · rw [upd_same, List.range_succ, List.map_append]; rfl
section
variable {X : Cx} {T : String} {name : Str} {id : String} {r : V → List V → Hp → VK → Prop} {o e : Expr} {es : List Expr} {to : TE} {t : TA} {apos cpos : Pos}

end

theorem sc_tup_map {X : Cx} {K : PySem.W.Frag} {a : Addr} {xs : List V} {g : TG} {tt : TT} {te : TE} {vs : List Nat} {σ : St} {H1 : Hp} {D : Addr} {Qd : Hp → Prop} (hD : H1 D = none) (f : Nat → Key) (ha : H1 a = some (.tup xs)) (hz : xs.length < 1000)
    (hs : ∀ i x H (R : VK) (F : Hp → Prop), xs[i]? = some x → Same H1 H → (∀ H', Same H H' → R (kV (f i)) H') → g x (wipe σ vs) H fun σ2 H2 => wipe σ2 vs = wipe σ vs ∧ tt σ2 H2 fun b H3 => if b = true then te σ2 H3 R else F H3)
    (hd : ∀ H', Same H1 H' → H' D = some (setO X.prog X.w D ((List.range xs.length).map f).reverse) → Qd H') :
    ∃ W : Nat → Nat → Hp → Prop, (∃ m, W 0 m (upd H1 D (setO X.prog X.w D []))) ∧ ∀ i m H, W i m H →
      ((Itt K a).stop i H ∧ Qd H) ∨ ((Itt K a).go i H ∧ ∃ Nx : Hp → Prop, (∀ H', Nx H' → ∃ m', m' < m ∧ W (i + 1) m' H') ∧ ∀ x H', (Itt K a).yld i H x H' → g x (wipe σ vs) H' fun σ2 H2 => wipe σ2 vs = wipe σ vs ∧ tt σ2 H2 fun b H3 =>
        if b = true then te σ2 H3 fun y H4 => ∃ ks k, y = kV k ∧ H4 D = some (setO X.prog X.w D ks) ∧ ks.length < 1000 ∧ Nx (upd H4 D (setO X.prog X.w D (k :: ks))) else Nx H3) := by
  refine ⟨fun i m H => m = xs.length - i ∧ i ≤ xs.length ∧ Same H1 H ∧ H D = some (setO X.prog X.w D ((List.range i).map f).reverse), ⟨xs.length, by simp, Nat.zero_le _, same_put (Same.refl _) hD, upd_same⟩, ?_⟩
  rintro i m H ⟨rfl, hi, s, e⟩
  have q : SqT K H a xs := SqT.of (s _ _ ha)
  by_cases hlt : i < xs.length
  · refine .inr ⟨⟨xs, xs[i], q, by simp [hlt]⟩, fun H' => Same H1 H' ∧ H' D = some (setO X.prog X.w D ((List.range (i + 1)).map f).reverse), fun H' p' => ⟨xs.length - (i + 1), by omega, rfl, hlt, p'⟩, fun x H' y => ?_⟩
    obtain ⟨e', y⟩ := y
    subst e'
    refine hs i x _ _ _ (y xs q) s fun H' s' => ⟨_, f i, rfl, s' _ _ e, ?_, same_put (s.trans s') hD, ?_⟩
    · rw [List.length_reverse, List.length_map, List.length_range]
      omega
    · rw [upd_same, List.range_succ, List.map_append, List.reverse_append]; rfl
  · have e' : i = xs.length := by omega
    subst e'
    exact .inl ⟨⟨xs, q, Nat.le_refl _⟩, hd H s e⟩
end L2
namespace My
open PySem PySem.Spec PyProof.Rows L2
structure Fine (n k : Nat) (d : PyData) : Prop where
  sh : d.showable = true
  nd : d.hasDict = false
  dp : d.depth ≤ k
  wt : wtD d ≤ n
  st : shortD d = true
theorem Fine.mono {n k n' k' : Nat} {d : PyData} (h : Fine n k d) (a : n ≤ n') (b : k ≤ k') : Fine n' k' d := ⟨h.sh, h.nd, Nat.le_trans h.dp b, Nat.le_trans h.wt a, h.st⟩
theorem len_two {α : Type} : ∀ {xs : List α}, xs.length = 2 → ∃ x y, xs = [x, y]
  | [x, y], _ => ⟨x, y, rfl⟩

noncomputable def g0 (d : PyData) : Bool := d.showable && !d.hasDict && decide (d.depth ≤ 3) && decide (wtD d ≤ 300) && shortD d && d.canLay0
noncomputable def g1 (m : Nat) : PyData → Bool
  | .tuple ds => decide (ds.length ≤ m) && ds.all g0
  | .list ds => decide (ds.length ≤ m) && ds.all g0
  | d => g0 d
noncomputable def g2 (n m : Nat) : PyData → Bool
  | .tuple ds => decide (ds.length ≤ n) && ds.all (g1 m)
  | .list ds => decide (ds.length ≤ n) && ds.all (g1 m)
  | d => g0 d
noncomputable def wordD : PyData → Bool
  | .str z => wordV (.str z)
  | _ => false
noncomputable def kindD : PyData → Bool
  | .str k => decide (k = "number") || decide (k = "word")
  | _ => false
noncomputable def colL : List PyData → Bool
  | [x, y] => wordD x && kindD y
  | _ => false
noncomputable def colD : PyData → Bool
  | .tuple ds => colL ds
  | _ => false
noncomputable def nameD : PyData → Str
  | .tuple (.str z :: _) => z
  | _ => ""
noncomputable def formD : PyData → Bool
  | .tuple cs => decide (1 ≤ cs.length) && decide (cs.length ≤ 6) && cs.all colD && decide ((cs.map nameD).Nodup)
  | _ => false
theorem Dt.word {H : Hp} {v : V} {d : PyData} (h : Dt H v d) : wordV v = wordD d := by
  cases h <;> rfl

theorem kind_in (z : Str) : inV (.str z) ([("number" : Str), "word"].map V.str) = kindD (.str z) := by
  show (eqV (.str "number") (.str z) || (eqV (.str "word") (.str z) || false)) = (decide (z = "number") || decide (z = "word"))
  have e : ∀ x : Str, eqV (.str x) (.str z) = decide (z = x) := fun x => by
    show decide (x = z) = _
    exact decide_eq_decide.mpr ⟨Eq.symm, Eq.symm⟩
  rw [e, e, Bool.or_false]
theorem range_all (ds : List PyData) (f : PyData → Bool) (d0 : PyData) : ((List.range ds.length).map fun i => f (ds.getD i d0)).all id = ds.all f := by
  have e : (List.range ds.length).map (fun i => f (ds.getD i d0)) = ds.map f := by
    refine List.ext_getElem? fun i => ?_
    rw [List.getElem?_map, List.getElem?_map]
    by_cases h : i < ds.length
    · rw [List.getElem?_range h, List.getElem?_eq_getElem h]
      simp only [Option.map_some, List.getD_eq_getElem?_getD, List.getElem?_eq_getElem h, Option.getD_some]
    · rw [List.getElem?_eq_none (by simpa using h), List.getElem?_eq_none (by simpa using h)]; rfl
  rw [e, List.all_map]; rfl
theorem range_mapG {β : Type} (ds : List β) {α : Type} (f : β → α) (d0 : β) : (List.range ds.length).map (fun i => f (ds.getD i d0)) = ds.map f := by
  refine List.ext_getElem? fun i => ?_
  rw [List.getElem?_map, List.getElem?_map]
  by_cases h : i < ds.length
  · rw [List.getElem?_range h, List.getElem?_eq_getElem h]
    simp only [Option.map_some, List.getD_eq_getElem?_getD, List.getElem?_eq_getElem h, Option.getD_some]
  · rw [List.getElem?_eq_none (by simpa using h), List.getElem?_eq_none (by simpa using h)]; rfl
theorem range_map (ds : List PyData) {α : Type} (f : PyData → α) (d0 : PyData) : (List.range ds.length).map (fun i => f (ds.getD i d0)) = ds.map f := range_mapG ds f d0

theorem col_pair {H : Hp} {v : V} {d : PyData} (h : Dt H v d) (c : colD d = true) : ∃ a, v = .ref a ∧ ∃ (z k : Str), d = .tuple [.str z, .str k] ∧ H a = some (.tup [.str z, .str k]) := by
  cases h with
  | @tup a xs ds e r =>
    refine ⟨a, rfl, ?_⟩
    cases r with
    | nil => cases c
    | cons h1 r =>
      cases r with
      | nil => cases c
      | cons h2 r =>
        cases r with
        | cons _ _ => cases c
        | nil =>
          simp only [colD, colL, Bool.and_eq_true] at c
          cases h1 with
          | str z =>
            cases h2 with
            | str k => exact ⟨z, k, rfl, e⟩
            | _ => exact absurd c.2 (by simp [kindD])
          | _ => exact absurd c.1 (by simp [wordD])
  | _ => cases c
theorem dcnt_le : ∀ ks : List Key, dcnt ks ≤ ks.length
  | [] => Nat.le_refl _
  | k :: r => by
    have := dcnt_le r
    show (if hasK k r = true then dcnt r else dcnt r + 1) ≤ r.length + 1
    split <;> omega
theorem hasK_iff {k : Key} {ks : List Key} : hasK k ks = true ↔ k ∈ ks := by
  unfold hasK
  simp [List.any_eq_true]
theorem dcnt_full : ∀ ks : List Key, dcnt ks = ks.length ↔ ks.Nodup
  | [] => ⟨fun _ => List.nodup_nil, fun _ => rfl⟩
  | k :: r => by
    have h := dcnt_full r
    have l := dcnt_le r
    rw [List.nodup_cons]
    show (if hasK k r = true then dcnt r else dcnt r + 1) = r.length + 1 ↔ _
    by_cases q : hasK k r = true
    · rw [if_pos q]
      exact ⟨fun e => by omega, fun ⟨n, _⟩ => absurd (hasK_iff.mp q) n⟩
    · rw [if_neg q]
      constructor
      · intro e
        exact ⟨fun m => q (hasK_iff.mpr m), h.mp (by omega)⟩
      · rintro ⟨_, n⟩
        rw [h.mpr n]
theorem nodup_rev {α : Type} {l : List α} : l.reverse.Nodup ↔ l.Nodup := by
  unfold List.Nodup
  rw [List.pairwise_reverse]
  exact ⟨fun h => h.imp fun q z => q z.symm, fun h => h.imp fun q z => q z.symm⟩
theorem form_set {ds : List PyData} (l1 : 1 ≤ ds.length) (l6 : ds.length ≤ 6) (ca : ds.all colD = true) :
    formD (.tuple ds) = decide (V.int ((dcnt (ds.map fun d => (Sum.inr (nameD d) : Key)).reverse : Nat) : Int) = V.int ((ds.length : Nat) : Int)) := by
  show (decide (1 ≤ ds.length) && decide (ds.length ≤ 6) && ds.all colD && decide ((ds.map nameD).Nodup)) = _
  rw [decide_eq_true l1, decide_eq_true l6, ca]
  simp only [Bool.true_and]
  refine decide_eq_decide.mpr ?_
  have h := dcnt_full (ds.map fun d => (Sum.inr (nameD d) : Key)).reverse
  rw [List.length_reverse, List.length_map, nodup_rev] at h
  have e : (ds.map fun d => (Sum.inr (nameD d) : Key)) = (ds.map nameD).map Sum.inr := by rw [List.map_map]; rfl
  have n : (ds.map fun d => (Sum.inr (nameD d) : Key)).Nodup ↔ (ds.map nameD).Nodup := by
    rw [e]
    constructor
    · intro q
      refine (List.pairwise_map.mp q).imp fun h z => h (by rw [z])
    · intro q
      refine List.pairwise_map.mpr (q.imp fun h z => h (Sum.inr.inj z))
  rw [← n, ← h]
  constructor
  · intro q; rw [q]
  · intro q; injection q with q; omega
noncomputable def colDat (c : Str × Str) : PyData := .tuple [.str c.1, .str c.2]
theorem DtAll.of {H : Hp} {α : Type} (f : α → PyData) : ∀ {vs : List V} {cs : List α}, vs.length = cs.length → (∀ (i : Nat) (v : V) (c : α), vs[i]? = some v → cs[i]? = some c → Dt H v (f c)) → DtAll H vs (cs.map f)
  | [], [], _, _ => .nil
  | v :: vs, c :: cs, l, h => .cons (h 0 v c rfl rfl) (DtAll.of f (by simpa using l) fun i v c h1 h2 => h (i + 1) v c (by simpa using h1) (by simpa using h2))
end My

set_option Elab.async false
set_option linter.all false
set_option maxRecDepth 100000

namespace My
open PySem PySem.Spec PyProof.Rows L2
mutual
theorem Dt.fn {H : Hp} : ∀ {d d' : PyData} {v : V}, Dt H v d → Dt H v d' → d = d'
  | _, _, _, .non, h => by cases h; rfl
  | _, _, _, .bl b, h => by cases h; rfl
  | _, _, _, .int i, h => by cases h; rfl
  | _, _, _, .str x, h => by cases h; rfl
  | _, _, _, .lst e r, h => by
    cases h with
    | lst e' r' => rw [e] at e'; cases e'; rw [DtAll.fn r r']
    | tup e' r' => rw [e] at e'; cases e'
  | _, _, _, .tup e r, h => by
    cases h with
    | lst e' r' => rw [e] at e'; cases e'
    | tup e' r' => rw [e] at e'; cases e'; rw [DtAll.fn r r']
theorem DtAll.fn {H : Hp} : ∀ {d d' : List PyData} {v : List V}, DtAll H v d → DtAll H v d' → d = d'
  | _, _, _, .nil, h => by cases h; rfl
  | _, _, _, .cons a r, h => by
    cases h with
    | cons a' r' => rw [Dt.fn a a', DtAll.fn r r']
end
end My
namespace L2
open PySem PySem.Spec PyProof.Rows My
section
variable {X : Cx}
open Classical in

noncomputable def eqO (H : Hp) (d : PyData) (u : Value) : Bool := if h : ∃ (e : PyData) (x : V), RelV x u ∧ Dt H x e then PyData.eqv (Classical.choose h) d else false
end
end L2

namespace PySem.SeqAt
open AutoSeq1 (wpAny_loadPart')
open MeetsSeq MeetsSeq2 MeetsSeq3 SeqRoads2
end PySem.SeqAt

set_option Elab.async false
set_option linter.all false
set_option maxRecDepth 100000

namespace PySem
open Sem (wp)
section
variable {prog : Program} {w : World} {A : Around} {R : Result → Shared → Prop} {I ax : Addr}
end
end PySem
namespace L2
open PySem PySem.Spec PyProof.Rows My
section
variable {X : Cx}

end
end L2

set_option Elab.async false
set_option linter.all false
set_option maxRecDepth 100000

namespace L2
open PySem PySem.Spec PyProof.Rows My
section
variable {X : Cx}

noncomputable def rIns : V → List V → Hp → VK → Prop := fun x vs H Q => ∃ (a : Addr) (xs : List V) (i : Int) (y : V), x = .ref a ∧ vs = [.int i, y] ∧ H a = some (.lst xs) ∧ 0 ≤ i ∧ i ≤ (xs.length : Int) ∧ xs.length < sizeLine ∧
  Q .non (upd H a (.lst (xs.take i.toNat ++ y :: xs.drop i.toNat)))
theorem mt_insert : MtR X "list.insert" rIns := by
  constructor
  intro pins s σ H x vs v us Q I rx rv h
  obtain ⟨a, xs, i, y, rfl, rfl, hH, h0, h1, hz, q⟩ := h
  cases rx
  cases rv with
  | cons r1 rr =>
  cases rr with
  | cons r2 rr =>
  cases rr
  obtain ⟨t, rfl⟩ := r1
  rename_i u
  obtain ⟨z, its, n, r, hl, ob⟩ := I.lstM hH
  have hs := sizeLine_eq
  have hf : ¬ (!Builtin.List.listFitsIndex i) = true := by
    rw [show Builtin.List.listFitsIndex i = true from fitsIndex_both (by omega) (by omega)]; simp
  refine call_meets PySem.F.slot_list_insert ⟨_, ob, rfl⟩ PySem.F.entry_list_insert (PySem.F.args_list_insert_3 _ _ _)
    (AutoSeq1.list_insert_list_int_val_1 a its.toArray n i t u hf (by rw [List.size_toArray]; omega)) ⟨ob, ?_⟩
  refine ⟨.non, _, I.lset (its' := its.take i.toNat ++ u :: its.drop i.toNat) hH ob ?_ ((r.take _).append (.cons r2 (r.drop _))) ?_, rfl, q⟩
  · dsimp only
    rw [if_neg (by omega), List.size_toArray, Nat.min_eq_left (by omega)]
    apply Array.toList_inj.mp
    simp
    exact List.take_of_length_le (by rw [List.length_drop]; omega)
  · rw [List.length_append, List.length_cons, List.length_take, List.length_drop]
    omega

end
section
variable {X : Cx} {CX : CXT} {k : Nat} {f C : Addr} {fd : FuncData} {ps ks : List Str} {sp : Sp} {E : XK} {x m : Str} {p pos apos kpos : Pos} {e o : Expr} {es : List Expr} {kws : List Keyword} {te ta : TE} {t tk : TA} {nm : Option Str} {g : List Value → List Value → List Value} {gV : List V → List V → List V}

end
end L2

set_option Elab.async false
set_option linter.all false
set_option maxRecDepth 100000

namespace My
open PySem PySem.Spec PyProof.Rows L2

structure Frm (g : List Addr) (H H' : Hp) : Prop where
  keep : ∀ c o, c ∉ g → H c = some o → H' c = some o
  tups : ∀ c xs, H c = some (.tup xs) → H' c = some (.tup xs)
  live : ∀ c o, H c = some o → ∃ o', H' c = some o'
theorem Frm.of_same {g : List Addr} {H H' : Hp} (s : Same H H') : Frm g H H' := ⟨fun c o _ e => s c o e, fun c xs e => s c _ e, fun c o e => ⟨o, s c o e⟩⟩
theorem Frm.upd {g : List Addr} {H : Hp} {a : Addr} {o o' : HO} (h : H a = some o) (m : a ∈ g) (nt : ∀ xs, o ≠ .tup xs) : Frm g H (upd H a o') :=
  ⟨fun c u n e => by rw [L2.upd_ne (show c ≠ a from fun z => n (by rw [z]; exact m))]; exact e, fun c xs e => by rw [L2.upd_ne (ne_of e h (fun z => nt xs z.symm))]; exact e, fun c u e => by
    by_cases z : c = a
    · subst z; exact ⟨_, upd_same⟩
    · exact ⟨u, by rw [upd_ne z]; exact e⟩⟩
theorem Frm.lst {g : List Addr} {H : Hp} {a : Addr} {xs : List V} {o' : HO} (h : H a = some (.lst xs)) (m : a ∈ g) : Frm g H (L2.upd H a o') := .upd h m (fun _ z => by cases z)
theorem Eff.frm {b : Addr} {H H' : Hp} (e : Eff b H H') (hb : Bag H b) : Frm [b] H H' :=
  ⟨fun c o n h => e.2 c o (by simpa using n) h, fun c xs h => e.2 c _ (hb.neT h) h, fun c o h => by
    by_cases z : c = b
    · subst z
      obtain ⟨g, x, q, _⟩ := e.1
      exact ⟨_, q⟩
    · exact ⟨o, e.2 c o z h⟩⟩
noncomputable def Dis (f g : List Addr) : Prop := ∀ x, x ∈ f → x ∈ g → False
noncomputable abbrev Th := List Key × Int
noncomputable def dK : Key → PyData
  | .inl i => .int i
  | .inr x => .str x
theorem Paired.getL {α β : Type} {F : α → β → Prop} : ∀ {l₁ : List α} {l₂ : List β} {i : Nat} {a : α}, Paired F l₁ l₂ → l₁[i]? = some a → ∃ b, l₂[i]? = some b ∧ F a b
  | _, _, 0, _, .cons h _, e => by simp at e; subst e; exact ⟨_, rfl, h⟩
  | _, _, i + 1, a, .cons _ r, e => by
    obtain ⟨b, h1, h2⟩ := Paired.getL (i := i) r (by simpa using e)
    exact ⟨b, by simpa using h1, h2⟩
theorem Paired.app {α β : Type} {F : α → β → Prop} : ∀ {l₁ m₁ : List α} {l₂ m₂ : List β}, Paired F l₁ l₂ → Paired F m₁ m₂ → Paired F (l₁ ++ m₁) (l₂ ++ m₂)
  | _, _, _, _, .nil, s => s
  | _, _, _, _, .cons h r, s => .cons h (Paired.app r s)
theorem Paired.takeP {α β : Type} {F : α → β → Prop} : ∀ {l₁ : List α} {l₂ : List β} (n : Nat), Paired F l₁ l₂ → Paired F (l₁.take n) (l₂.take n)
  | _, _, 0, _ => .nil
  | _, _, n + 1, .nil => .nil
  | _, _, n + 1, .cons h r => .cons h (Paired.takeP n r)
theorem Paired.dropP {α β : Type} {F : α → β → Prop} : ∀ {l₁ : List α} {l₂ : List β} (n : Nat), Paired F l₁ l₂ → Paired F (l₁.drop n) (l₂.drop n)
  | _, _, 0, h => h
  | _, _, n + 1, .nil => .nil
  | _, _, n + 1, .cons _ r => Paired.dropP n r
noncomputable def keyOk : Key → Prop
  | .inl i => -999 ≤ i ∧ i ≤ 999
  | .inr x => WordS x
structure ThOk (t : Th) : Prop where
  ks : ∀ k ∈ t.1, keyOk k
  hi : t.1.length ≤ 4
  n1 : 1 ≤ t.2
  n2 : t.2 ≤ 999
noncomputable abbrev Own (α : Type) := Hp → Addr → α → List Addr → Prop
section
variable {α : Type} {R : Own α} {H H' : Hp}
end
section
variable {α : Type} {R : Own α} {H H' : Hp} {a : Addr} {ds : List α} {fp : List Addr}

end

end My
namespace L2
open PySem PySem.Spec PyProof.Rows
end L2
namespace My
open PySem PySem.Spec PyProof.Rows L2
end My

set_option Elab.async false
set_option linter.all false
set_option maxRecDepth 100000

namespace L2
open PySem PySem.Spec PyProof.Rows My
end L2
namespace My
open PySem PySem.Spec PyProof.Rows L2
theorem lt_line {n : Nat} (h : n ≤ 100000) : n < sizeLine := Nat.lt_of_le_of_lt h (by decide)

end My

set_option Elab.async false
set_option linter.all false
set_option maxRecDepth 100000

namespace L2
open PySem PySem.Spec PyProof.Rows My
section
variable {X : Cx}

noncomputable def rIsTT : List V → Hp → VK → Prop := fun vs H Q => ∃ x p, vs = [x, .ref p] ∧ Tyd H x ∧ H p = some (.tup [.ty "list", .ty "tuple"]) ∧ Q (.bl (instB H x "list" || instB H x "tuple")) H
theorem kitAny_lt (K : PySem.W.Frag) {H : Hp} {v : V} (h : Tyd H v) : PySem.W.kitAny K (.type (tyN H v)) [.type "list", .type "tuple"] = some (instB H v "list" || instB H v "tuple") := by
  have h1 := kit_T K h (n := "list") (by decide)
  have h2 := kit_T K h (n := "tuple") (by decide)
  simp only [PySem.W.kitAny, h1, h2]
  cases instB H v "list" <;> cases instB H v "tuple" <;> rfl
theorem call_isTT : CallR X (.builtin "isinstance") rIsTT := by
  constructor
  intro pins s σ H xs us Q I r h
  obtain ⟨x, p, rfl, ty, hp, q⟩ := h
  cases r with
  | cons r1 rr =>
  cases rr with
  | cons r2 rr =>
  cases rr
  cases (r2 : _ = _)
  have e := kitAny_lt X.K ty
  obtain ⟨its, rv, pl, _⟩ := I.tuple (SqT.of hp)
  obtain ⟨⟨cls, dd, data, sl⟩, ho, hc, n, hd⟩ := pl
  simp only at hc hd
  subst hc hd
  cases rv with
  | cons q1 rv =>
  cases rv with
  | cons q2 rv =>
  cases rv
  cases (q1 : _ = _)
  cases (q2 : _ = _)
  have fin : ∀ tk, EP X pins σ Q (.bool (instB H x "list" || instB H x "tuple")) { s with toks := tk } := fun tk => ⟨.bl _, H, I.tok tk, rfl, q⟩
  cases x with
  | non => cases (r1 : _ = _); exact PySem.W.kia_tup PySem.W.kitx_none I.kIn True.intro ho e (fun z => nomatch z) fin
  | bl y => cases (r1 : _ = _); exact PySem.W.kia_tup PySem.W.kitx_bool I.kIn True.intro ho e (fun z => nomatch z) fin
  | int i => obtain ⟨t, rfl⟩ := r1; exact PySem.W.kia_tup PySem.W.kitx_int I.kIn True.intro ho e (fun z => nomatch z) fin
  | str y => obtain ⟨t, rfl⟩ := r1; exact PySem.W.kia_tup PySem.W.kitx_str I.kIn True.intro ho e (fun z => nomatch z) fin
  | ref a =>
    cases (r1 : _ = _)
    rcases ty with ⟨ys, ea⟩ | ⟨ys, ea⟩
    · have z : tyN H (.ref a) = "list" := by show (match H a with | some (.lst _) => "list" | _ => "tuple") = _; rw [ea]
      rw [z] at e
      obtain ⟨_, _, m, _, h1⟩ := (show ObjOk X.prog X.w H s.heap a (.lst ys) from I.hok a _ ea)
      exact PySem.W.kia_tup PySem.W.kitx_list I.kIn ⟨_, h1, rfl⟩ ho e (fun z => nomatch z) fin
    · have z : tyN H (.ref a) = "tuple" := by show (match H a with | some (.lst _) => "list" | _ => "tuple") = _; rw [ea]
      rw [z] at e
      obtain ⟨_, _, _, o, h1, h2, _⟩ := (show ObjOk X.prog X.w H s.heap a (.tup ys) from I.hok a _ ea)
      exact PySem.W.kia_tup PySem.W.kitx_tuple I.kIn ⟨o, h1, h2⟩ ho e (fun z => nomatch z) fin
  | byt _ => exact ty.elim
  | flt _ => exact ty.elim
  | ty _ => exact ty.elim
end
end L2
namespace My
open PySem PySem.Spec PyProof.Rows L2

noncomputable def kindOf : Key → Str
  | .inl _ => "number"
  | .inr _ => "word"

structure ThK (ks : List Str) (t : Th) : Prop where
  ok : ThOk t
  kd : t.1.map kindOf = ks
mutual
def wideD : PyData → Bool
  | .list xs => decide (xs.length ≤ 1000) && wideAll xs
  | .tuple xs => decide (xs.length ≤ 1000) && wideAll xs
  | _ => true
def wideAll : List PyData → Bool
  | [] => true
  | x :: r => wideD x && wideAll r
end
theorem wideAll_iff : ∀ {ds : List PyData}, wideAll ds = true ↔ ∀ d ∈ ds, wideD d = true
  | [] => by simp [wideAll]
  | x :: r => by simp [wideAll, wideAll_iff (ds := r)]
theorem shortAll_iff : ∀ {ds : List PyData}, shortAll ds = true ↔ ∀ d ∈ ds, shortD d = true
  | [] => by simp [shortAll]
  | x :: r => by simp [shortAll, shortAll_iff (ds := r)]
theorem canAll_iff : ∀ {ds : List PyData}, PyData.canLayAll0 ds = true ↔ ∀ d ∈ ds, d.canLay0 = true
  | [] => by simp [PyData.canLayAll0]
  | x :: r => by simp [PyData.canLayAll0, canAll_iff (ds := r)]
theorem depthAll_le {n : Nat} : ∀ {ds : List PyData}, PyData.depthAll ds ≤ n ↔ ∀ d ∈ ds, d.depth ≤ n
  | [] => by simp [PyData.depthAll]
  | x :: r => by simp [PyData.depthAll, depthAll_le (ds := r), Nat.max_le]

structure Eas (n : Nat) (d : PyData) : Prop where
  can : d.canLay0 = true
  sh : shortD d = true
  wd : wideD d = true
  dp : d.depth ≤ n
theorem Eas.shaped {n : Nat} {d : PyData} (h : Eas n d) (hn : n ≤ 64) : SeqAt.shaped d = true := by
  simp only [SeqAt.shaped, h.can, Bool.true_and, decide_eq_true_eq]
  exact Nat.le_trans h.dp hn
theorem Eas.lst {n : Nat} {ds : List PyData} (hl : ds.length ≤ 1000) (h : ∀ d ∈ ds, Eas n d) : Eas (n + 1) (.list ds) where
  can := by rw [PyData.canLay0]; exact canAll_iff.mpr fun d hd => (h d hd).can
  sh := by rw [shortD]; exact shortAll_iff.mpr fun d hd => (h d hd).sh
  wd := by rw [wideD, decide_eq_true hl, Bool.true_and]; exact wideAll_iff.mpr fun d hd => (h d hd).wd
  dp := by rw [PyData.depth]; exact Nat.succ_le_succ (depthAll_le.mpr fun d hd => (h d hd).dp)
theorem Eas.tup {n : Nat} {ds : List PyData} (hl : ds.length ≤ 1000) (h : ∀ d ∈ ds, Eas n d) : Eas (n + 1) (.tuple ds) where
  can := by rw [PyData.canLay0]; exact canAll_iff.mpr fun d hd => (h d hd).can
  sh := by rw [shortD]; exact shortAll_iff.mpr fun d hd => (h d hd).sh
  wd := by rw [wideD, decide_eq_true hl, Bool.true_and]; exact wideAll_iff.mpr fun d hd => (h d hd).wd
  dp := by rw [PyData.depth]; exact Nat.succ_le_succ (depthAll_le.mpr fun d hd => (h d hd).dp)
theorem Eas.int (n : Nat) (i : Int) : Eas n (.int i) := ⟨rfl, rfl, rfl, Nat.zero_le _⟩
theorem Eas.non (n : Nat) : Eas n .none := ⟨rfl, rfl, rfl, Nat.zero_le _⟩
theorem Eas.word (n : Nat) {x : Str} (h : WordS x) : Eas n (.str x) := ⟨by
    simp only [PyData.canLay0, PyData.strOk, Array.all_eq_true, decide_eq_true_eq]
    intro i hi
    have := h.all x.cps[i] (by simp)
    omega, by rw [shortD]; exact decide_eq_true (Nat.le_trans h.hi (by decide)), rfl, Nat.zero_le _⟩
theorem Eas.mono {n m : Nat} {d : PyData} (h : Eas n d) (hm : n ≤ m) : Eas m d := ⟨h.can, h.sh, h.wd, Nat.le_trans h.dp hm⟩
theorem Eas.of_tup {n : Nat} {ds : List PyData} (h : Eas (n + 1) (.tuple ds)) : ds.length ≤ 1000 ∧ ∀ d ∈ ds, Eas n d := by
  have c := h.can; rw [PyData.canLay0] at c
  have s := h.sh; rw [shortD] at s
  have w := h.wd; rw [wideD, Bool.and_eq_true, decide_eq_true_eq] at w
  have p := h.dp; rw [PyData.depth] at p
  exact ⟨w.1, fun d hd => ⟨canAll_iff.mp c d hd, shortAll_iff.mp s d hd, wideAll_iff.mp w.2 d hd, depthAll_le.mp (Nat.le_of_succ_le_succ p) d hd⟩⟩
theorem Eas.no0t {ds : List PyData} (h : Eas 0 (.tuple ds)) : False := by have p := h.dp; rw [PyData.depth] at p; omega
theorem instB_tup {H : Hp} {a : Addr} {xs : List V} (e : H a = some (.tup xs)) : instB H (.ref a) "tuple" = true := by
  unfold instB
  rw [show tyN H (.ref _) = "tuple" by show (match H _ with | some (.lst _) => "list" | _ => "tuple") = _; rw [e]]; rfl
end My
namespace My
open PySem PySem.Spec PyProof.Rows L2
end My
namespace L2
open PySem PySem.Spec PyProof.Rows My
section
variable {X : Cx}
theorem call_tuple_ofK {K : PySem.W.Frag} (h : X.K = K := by rfl) : CallR X (.type "tuple") (fun xs H Q => ∃ p ys, xs = [.ref p] ∧ ((SqL K H p ys ∧ ∀ l, H l = none → Q (.ref l) (upd H l (.tup ys))) ∨ (SqT K H p ys ∧ Q (.ref p) H))) := by subst h; exact call_tuple_of
end
end L2
namespace L2
open PySem PySem.Spec PyProof.Rows My
section
variable {X : Cx}
end
end L2
namespace L2
open PySem PySem.Spec PyProof.Rows My
section
variable {X : Cx} {pos : Pos}

end
end L2
namespace My
open PySem PySem.Spec PyProof.Rows L2
end My

set_option Elab.async false
set_option linter.all false
set_option maxRecDepth 100000

namespace My
open PySem PySem.Spec PyProof.Rows L2
noncomputable abbrev Pgs := List (List Th)
section
variable {H H1 : Hp} {b : Addr} {ps : Pgs} {f : List Addr} {v : V} {t : Th}

end

theorem same_eff {H H1 H2 : Hp} {b : Addr} (s : Same H H1) (n : H b = none) (e : Eff b H1 H2) : Same H H2 := fun c o h => e.2 c o (fun z => by rw [z, n] at h; cases h) (s c o h)

end My

set_option Elab.async false
set_option linter.all false
set_option maxRecDepth 100000

namespace My
open PySem PySem.Spec PyProof.Rows L2

section
open PySem.SeqAt
open PySem.AutoSeq1 (wpAny_loadPart')
open PySem.MeetsSeq PySem.MeetsSeq2 PySem.MeetsSeq3
end
end My

set_option Elab.async false
set_option linter.all false
set_option maxRecDepth 100000

namespace PySem.W

noncomputable def KasT.val {α : Type} (lt : Nat → Nat → Bool) : KasT α → α
  | .ret a => a
  | .ask i j k => (k (lt i j)).val lt

section
variable {n : Nat} (h0 : 0 < n)
include h0
end
end PySem.W
namespace My
open PySem PySem.W PyProof.Rows PySem.Spec

section
variable {prog : Program} {w : World} {A : Around} {E : Value → Shared → Prop} {s : Shared}
end
end My
namespace My
open PySem PySem.W PyProof.Rows PySem.Spec L2
noncomputable def keyLt : Key → Key → Bool
  | .inl a, .inl b => decide (a < b)
  | .inr x, .inr y => decide (x.cps.toList < y.cps.toList)
  | _, _ => false
noncomputable def lexK : List Key → List Key → Bool
  | [], [] => false
  | [], _ :: _ => true
  | _ :: _, [] => false
  | x :: xs, y :: ys => if x = y then lexK xs ys else keyLt x y
noncomputable def thLt (s t : Th) : Bool := if s.1 = t.1 then decide (s.2 < t.2) else lexK s.1 t.1
end My
namespace L2
open PySem PySem.W PyProof.Rows PySem.Spec My
section
variable {X : Cx}

end
end L2

set_option Elab.async false
set_option linter.all false
set_option maxRecDepth 100000
namespace My
open PySem PySem.Spec PyProof.Rows L2

end My

set_option Elab.async false
set_option linter.all false
set_option maxRecDepth 100000

namespace My
open PySem PySem.Spec PyProof.Rows L2

section
open PySem.SeqAt
open PySem.AutoSeq1 (wpAny_loadPart')
open PySem.MeetsSeq PySem.MeetsSeq2 PySem.MeetsSeq3
end
end My
namespace L2
open PySem PySem.W PyProof.Rows PySem.Spec My
section
variable {X : Cx}
end
end L2

set_option Elab.async false
set_option linter.all false
set_option maxRecDepth 100000

namespace My
open PySem PySem.Spec PyProof.Rows L2
theorem ixN_of {n j : Nat} (h : j < n) : ixN n (j : Int) = some j := by
  unfold ixN
  rw [if_pos (by omega), if_pos (by omega)]
  simp
end My
namespace L2
open PySem PySem.Spec PyProof.Rows
section
variable {X : Cx} {pos p2 : Pos} {o lo hi : Expr} {to tl th : TE}

end
end L2

set_option Elab.async false
set_option linter.all false
set_option maxRecDepth 100000

namespace My
open PySem PySem.W PyProof.Rows PySem.Spec

structure TotB (n : Nat) (lt : Nat → Nat → Bool) : Prop where
  asym : ∀ i j, i < n → j < n → lt i j = true → lt j i = false
  tot : ∀ i j, i < n → j < n → i ≠ j → lt i j = false → lt j i = true
  trans : ∀ i j k, i < n → j < n → k < n → lt i j = true → lt j k = true → lt i k = true
section
variable {n : Nat} {lt : Nat → Nat → Bool} (T : TotB n lt) (h0 : 0 < n)
include T h0
omit T h0 in
omit T h0 in
end
open L2

noncomputable abbrev Ris (ts : List Th) : Prop := ts.Pairwise (fun s t => thLt s t = true)
end My

set_option Elab.async false
set_option linter.all false
set_option maxRecDepth 100000

namespace My
open PySem PySem.W PyProof.Rows PySem.Spec
section
variable {prog : Program} {w : World} {A : Around} {E : Value → Shared → Prop} {κ : SortKind} {it : Array Keyed}
variable {s : Shared}
end
end My
namespace L2
open PySem PySem.W PyProof.Rows PySem.Spec My
section
variable {X : Cx}
end
end L2

set_option Elab.async false
set_option linter.all false
set_option maxRecDepth 100000

namespace My
open PySem PySem.Spec PyProof.Rows L2
structure Lv (m : Nat) (ks : List Str) (ls : List (List Th)) : Prop where
  pg : ∀ p ∈ ls, p ≠ [] ∧ p.length ≤ m ∧ ∀ t ∈ p, ThK ks t
  ris : Ris ls.flatten
section
variable {m : Nat} {ks : List Str} {ls : List (List Th)} {t : Th} (L : Lv m ks ls) (hk : ThK ks t) (h0 : 0 < ls.length)
include L hk h0
end
end My

set_option Elab.async false
set_option linter.all false
set_option maxRecDepth 100000

namespace My
open PySem PySem.Spec PyProof.Rows L2
section
variable {C : Addr} {H H1 H2 : Hp} {x D L : Addr} {m fa : Nat} {ks : List Str} {ls : List (List Th)} {f1 f2 : List Addr}
end
end My

set_option Elab.async false
set_option linter.all false
set_option maxRecDepth 100000

namespace PySem
open Sem (wp)
open AutoSeq1 (wpAny_loadPart')
section
variable {prog : Program} {w : World} {A : Around} {E : Value → Shared → Prop} {s : Shared} {r : Addr} {a b c : Int} {t u v : Tok} {n : Nat}
end
end PySem
namespace L2
open PySem PySem.W PyProof.Rows PySem.Spec My
section
variable {X : Cx}
end
end L2

set_option Elab.async false
set_option linter.all false
set_option maxRecDepth 100000

namespace L2
open PySem PySem.W PyProof.Rows PySem.Spec My
structure FunD (K : PySem.W.Frag) (dV kV : Value) (x qual : Str) (st : Stmt) (f : Addr) (fd : FuncData) : Prop where
  ex : ∃ (oc : Value) (od : Option Addr) (doc pm : Value) (an : Option Addr) (cdv ct : Value) (osl : Array (Option Value)),
    fd = PySem.W.fnOf x qual (defArgs st) (defBody st) (defScope st) dV kV doc pm an cdv ct ∧ K.lookup f = some ⟨oc, od, .func fd, osl⟩ ∧ PySem.W.codeIn K cdv qual = true
  kp : PySem.W.keepIn K (.ref f) = true
section
variable {P : Program} {w : World} {K : PySem.W.Frag} {mg : Str → Option Value} {base : Heap}
end
end L2

set_option Elab.async false
set_option linter.all false
set_option maxRecDepth 100000

namespace L2
open PySem PySem.W PyProof.Rows PySem.Spec
section
variable {X : Cx}
end
end L2
namespace My
open PySem PySem.Spec PyProof.Rows L2
theorem seqC {v : V} {i : Nat} {u : TS} {D : Ends} {σ : L2.St} {H : Hp} (h : u D (σ.set i (some v)) H) : tSeq (tAsg (tC v) (gName i)) u D σ H := h
theorem Eff.put {b p : Addr} {H H' : Hp} {o : HO} (e : Eff b H H') (hb : Bag H b) (h : H p = none) : Eff b H (upd H' p o) := by
  refine ⟨?_, fun c u n z => by rw [upd_ne (ne_of_none z h)]; exact e.2 c u n z⟩
  obtain ⟨g, x, q, r⟩ := e.1
  exact ⟨g, x, by rw [upd_ne (hb.ne h)]; exact q, r⟩
section
variable {α β : Type} {K : PySem.W.Frag} {a : Addr} {xs : List V} {ds : List α} {g : TG} {tt : TT} {te : TE} {vs : List Nat} {σ : L2.St} {H1 : Hp} {D : Addr} {Qd : Hp → Prop} {F : Hp → V → α → Prop} {G : Hp → V → β → Prop}
theorem paired_imp {α β : Type} {F G : α → β → Prop} (h : ∀ a b, F a b → G a b) : ∀ {l₁ : List α} {l₂ : List β}, Paired F l₁ l₂ → Paired G l₁ l₂
  | _, _, .nil => .nil
  | _, _, .cons x r => .cons (h _ _ x) (paired_imp h r)
end

noncomputable abbrev Of := Int × List Nat
noncomputable def opn (cs : List Nat) (o : Of) : Bool := o.2.all fun k => decide (k ∈ cs)
noncomputable def least (ns : List Int) : Int := open Classical in if h : ∃ m, m ∈ ns ∧ ∀ y ∈ ns, m ≤ y then h.choose else 0
noncomputable abbrev It := Int × List Of
noncomputable def cost (cs : List Nat) (it : It) : Int := it.1 * least ((it.2.filter (opn cs)).map (·.1))
noncomputable def keepOf (ks : List Int) (cs : List Nat) : Int := (cs.map fun k => ks.getD k 0).sum
noncomputable def tot (its : List It) (ks : List Int) (cs : List Nat) : Int := (its.map (cost cs)).sum + keepOf ks cs
end My

set_option Elab.async false
set_option linter.all false
set_option maxRecDepth 100000

namespace My
open PySem PySem.Spec PyProof.Rows L2
noncomputable def oV : Option Key → V
  | none => .non
  | some k => kV k
end My
namespace L2
open PySem PySem.W PyProof.Rows PySem.Spec My
section
variable {X : Cx}
end
end L2

set_option Elab.async false
set_option linter.all false
set_option maxRecDepth 100000

namespace My
open PySem PySem.Spec PyProof.Rows L2
theorem Fine.num {i : Int} (h : i.natAbs < 10 ^ 4) : Fine 150 1 (.int i) := by
  have hl : i.natAbs.log2 < 1920 := by
    by_cases z : i.natAbs = 0
    · rw [z]; decide
    · exact Nat.lt_trans ((Nat.log2_lt z).mpr (Nat.lt_trans h (by decide : 10 ^ 4 < 2 ^ 14))) (by decide)
  have h2 : ((PyData.int i).shown).length ≤ 5 := by
    show (Str.ofString (toString i)).length ≤ 5
    have := int_text_length_le10 (a := i) (k := 4) (by decide) h
    rw [PySem.ofString_length]
    omega
  exact ⟨decide_eq_true hl, rfl, by show (0 : Nat) ≤ 1; decide, by show ((PyData.int i).shown).length ≤ 150; omega, rfl⟩
theorem Fine.key {k : Key} (h : keyOk k) : Fine 150 1 (dK k) := by
  cases k with
  | inl i => exact .num (by have := h.1; have := h.2; omega)
  | inr x =>
    have hw : WordS x := h
    have h1 := PySem.StrLaws.reprText_len x (fun c hc => by have := hw.all c hc; omega)
    have h2 := hw.hi
    exact ⟨rfl, rfl, by show (0 : Nat) ≤ 1; decide, by show (reprText x).length ≤ _; omega, decide_eq_true (by omega)⟩
theorem Fine.str {d : PyData} (h : Fine 10000000 5 d) : d.showable = true ∧ d.hasDict = false ∧ d.depth ≤ 100 ∧ d.shown.length ≤ sizeLine :=
  ⟨h.sh, h.nd, by have := h.dp; omega, by have := shown_le d; have := h.wt; have := sizeLine_eq; omega⟩
section
variable {C : Addr} {H H1 H2 : Hp} {x S L b : Addr} {m : Nat} {ks : List Str} {ls : List (List Th)} {ts : List Th} {f : List Addr}
end
end My

set_option Elab.async false
set_option linter.all false
set_option maxRecDepth 100000

namespace L2
open PySem PySem.W PyProof.Rows PySem.Spec My
section
variable {X : Cx}
end
end L2
namespace My
open PySem PySem.Spec PyProof.Rows L2
section
variable {C : Addr} {Hs H1 H2 : Hp} {x E : Addr} {m fa : Nat} {f0 : List Addr} {ls : List (List Th)} {es : List Th} {f : List Addr}
end
end My

set_option Elab.async false
set_option linter.all false
set_option maxRecDepth 100000

namespace My
open PySem PySem.W PyProof.Rows PySem.Spec
section
variable {prog : Program} {w : World} {A : Around} {E : Value → Shared → Prop} {s : Shared}
end
end My
namespace L2
open PySem PySem.W PyProof.Rows PySem.Spec My
section
variable {X : Cx} {x : Str} {p pos : Pos} {e : Expr} {es : List Expr} {kws : List Keyword} {t tk : TA} {id : String} {ks : List Str}

end
end L2

set_option Elab.async false
set_option linter.all false
set_option maxRecDepth 100000

namespace My
open PySem PySem.Spec PyProof.Rows L2
end My
namespace L2
open PySem PySem.Spec PyProof.Rows My
section
variable {X : Cx}

end
end L2
namespace My
open PySem PySem.Spec PyProof.Rows L2
end My
namespace L2
open PySem PySem.Spec PyProof.Rows My
theorem call_strDK {X : Cx} {K : PySem.W.Frag} (hg : X.A.guards = some []) (hu : X.A.units + 150 < cLine) (h : X.K = K := by rfl) : CallR X (.type "str") (fun xs H Q => ∃ x d, xs = [x] ∧ Dp K H x d ∧ d.showable = true ∧ d.hasDict = false ∧ d.depth ≤ 100 ∧ d.shown.length ≤ sizeLine ∧ Q (.str (strD d)) H) := by
  subst h; exact call_strD hg hu
end L2
namespace My
open PySem PySem.Spec PyProof.Rows L2
section
variable {C : Addr} {H H1 H2 H3 H5 : Hp} {x hl kp L : Addr} {m n n' c : Nat} {ks : List Str} {ts ts' : List Th} {bs bs' bs0 : List Pgs} {f1 f1' fb : List Addr} {ws : List (List Pgs × List Addr)} {vs xs' : List V} {p : Addr}
end

end My
namespace My
open PySem PySem.Spec PyProof.Rows L2
end My

set_option Elab.async false
set_option linter.all false
set_option maxRecDepth 100000

namespace My
open PySem PySem.W PyProof.Rows PySem.Spec L2
section
variable {prog : Program} {w : World} {A : Around} {E : Value → Shared → Prop} {s : Shared}
end
end My
namespace L2
open PySem PySem.W PyProof.Rows PySem.Spec My
section
variable {X : Cx}

end
end L2

set_option Elab.async false
set_option linter.all false
set_option maxRecDepth 100000

namespace My
open PySem PySem.Spec PyProof.Rows L2
noncomputable abbrev Bs := List (Key × List Int)
section
variable {H H' : Hp} {kvs : List (Key × V)} {bs : Bs} {f g : List Addr} {k : Key} {ns : List Int} {p : Addr}
end
end My
namespace L2
open PySem PySem.Spec PyProof.Rows
theorem u1 {n : Nat} (h : n + 64 < cLine) : n + 1 < cLine := by omega

end L2

set_option Elab.async false
set_option linter.all false
set_option maxRecDepth 100000

namespace My
open PySem PySem.Spec PyProof.Rows L2
noncomputable abbrev Res := Hp → List Addr → Prop
noncomputable def one (a : Addr) (o : HO) : Res := fun H f => H a = some o ∧ f = [a]
section
variable {ι : Type} [DecidableEq ι]
noncomputable def put {α : Type} (f : ι → α) (i : ι) (x : α) : ι → α := fun j => if j = i then x else f j
variable {R : ι → Res} {F : ι → List Addr} {H H' : Hp}
end

mutual
inductive DtF (H : Hp) : V → PyData → List Addr → Prop
  | non : DtF H .non .none []
  | bl (b : Bool) : DtF H (.bl b) (.bool b) []
  | int (i : Int) : DtF H (.int i) (.int i) []
  | str (x : Str) : DtF H (.str x) (.str x) []
  | tup {a : Addr} {xs : List V} {ds : List PyData} {f : List Addr} : H a = some (.tup xs) → DtFs H xs ds f → DtF H (.ref a) (.tuple ds) f
  | lst {a : Addr} {xs : List V} {ds : List PyData} {f : List Addr} : H a = some (.lst xs) → DtFs H xs ds f → DtF H (.ref a) (.list ds) (a :: f)
inductive DtFs (H : Hp) : List V → List PyData → List Addr → Prop
  | nil : DtFs H [] [] []
  | cons {v : V} {d : PyData} {f : List Addr} {vs : List V} {ds : List PyData} {g : List Addr} : DtF H v d f → DtFs H vs ds g → DtFs H (v :: vs) (d :: ds) (f ++ g)
end
mutual
theorem DtF.frm {g : List Addr} {H H' : Hp} (F : Frm g H H') : ∀ {d : PyData} {v : V} {f : List Addr}, DtF H v d f → Dis f g → DtF H' v d f
  | _, _, _, .non, _ => .non
  | _, _, _, .bl b, _ => .bl b
  | _, _, _, .int i, _ => .int i
  | _, _, _, .str x, _ => .str x
  | _, _, _, .tup e r, k => .tup (F.tups _ _ e) (DtFs.frm F r k)
  | _, _, _, .lst e r, k => .lst (F.keep _ _ (fun z => k _ List.mem_cons_self z) e) (DtFs.frm F r fun y a b => k y (List.mem_cons_of_mem _ a) b)
theorem DtFs.frm {g : List Addr} {H H' : Hp} (F : Frm g H H') : ∀ {ds : List PyData} {vs : List V} {f : List Addr}, DtFs H vs ds f → Dis f g → DtFs H' vs ds f
  | _, _, _, .nil, _ => .nil
  | _, _, _, .cons h r, k => .cons (DtF.frm F h fun y a b => k y (List.mem_append_left _ a) b) (DtFs.frm F r fun y a b => k y (List.mem_append_right _ a) b)
end
mutual
theorem DtF.dt {H : Hp} : ∀ {d : PyData} {v : V} {f : List Addr}, DtF H v d f → Dt H v d
  | _, _, _, .non => .non
  | _, _, _, .bl b => .bl b
  | _, _, _, .int i => .int i
  | _, _, _, .str x => .str x
  | _, _, _, .tup e r => .tup e (DtFs.dt r)
  | _, _, _, .lst e r => .lst e (DtFs.dt r)
theorem DtFs.dt {H : Hp} : ∀ {ds : List PyData} {vs : List V} {f : List Addr}, DtFs H vs ds f → DtAll H vs ds
  | _, _, _, .nil => .nil
  | _, _, _, .cons h r => .cons (DtF.dt h) (DtFs.dt r)
end
theorem map_eraseI {α β : Type} (f : α → β) : ∀ (l : List α) (i : Nat), (l.map f).eraseIdx i = (l.eraseIdx i).map f
  | [], _ => rfl
  | a :: r, 0 => rfl
  | a :: r, i + 1 => by simp [map_eraseI f r i]

end My
namespace L2
open PySem PySem.W PyProof.Rows PySem.Spec
section
variable {X : Cx}

end
end L2

set_option Elab.async false
set_option linter.all false
set_option maxRecDepth 100000

namespace L2
open PySem PySem.Spec PyProof.Rows

section
variable {X : Cx} {k : Nat} {f C p : Addr} {fd : FuncData} {ps : List Str} {sp : Sp} {m : Str} {pos : Pos} {e : Expr} {ta : TE}
end

end L2

set_option Elab.async false
set_option linter.all false
set_option maxRecDepth 100000

namespace My
open PySem PySem.Spec PyProof.Rows L2

theorem nextK {D : Ends} {σ : L2.St} {H : Hp} (h : D.nx σ H) : tNext D σ H := h
structure Sh where
  r : Nat
  e : Nat
  f : Nat
  b : Nat
  c : Nat
theorem SqT.sames {K : PySem.W.Frag} {H H' : Hp} {a : Addr} {xs : List V} (h : SqT K H a xs) (s : Same H H') : SqT K H' a xs := (show SqS K H' (false, a) xs from SqS.same (show SqS K H (false, a) xs from h) s)

theorem lc_tup_mapK {K : PySem.W.Frag} {a : Addr} {xs : List V} {g : TG} {tt : TT} {te : TE} {vs : List Nat} {σ : L2.St} {H1 : Hp} {D : Addr} {Qd : Hp → Prop} (hD : H1 D = none) (f : Nat → V) (ha : SqT K H1 a xs) (hz : xs.length < sizeLine)
    (hs : ∀ i x H (R : VK) (F : Hp → Prop), xs[i]? = some x → Same H1 H → (∀ H', Same H H' → R (f i) H') → g x (wipe σ vs) H fun σ2 H2 => wipe σ2 vs = wipe σ vs ∧ tt σ2 H2 fun b H3 => if b = true then te σ2 H3 R else F H3)
    (hd : ∀ H', Same H1 H' → H' D = some (.lst ((List.range xs.length).map f)) → Qd H') :
    ∃ W : Nat → Nat → Hp → Prop, (∃ m, W 0 m (upd H1 D (.lst []))) ∧ ∀ i m H, W i m H →
      ((Itt K a).stop i H ∧ Qd H) ∨ ((Itt K a).go i H ∧ ∃ Nx : Hp → Prop, (∀ H', Nx H' → ∃ m', m' < m ∧ W (i + 1) m' H') ∧ ∀ x H', (Itt K a).yld i H x H' → g x (wipe σ vs) H' fun σ2 H2 => wipe σ2 vs = wipe σ vs ∧ tt σ2 H2 fun b H3 =>
        if b = true then te σ2 H3 fun y H4 => ∃ acc, H4 D = some (.lst acc) ∧ acc.length < sizeLine ∧ Nx (upd H4 D (.lst (acc ++ [y]))) else Nx H3) := by
  refine lc_tup (xs := xs) (fun i H => Same H1 H ∧ H D = some (.lst ((List.range i).map f))) ⟨same_put (Same.refl _) hD, upd_same⟩ (fun i H _ ⟨s, _⟩ => SqT.sames ha s) (fun i x H hx ⟨s, e⟩ => ?_) (fun H ⟨s, e⟩ => hd H s e)
  refine hs i x H _ _ hx s fun H' s' => ⟨_, s' _ _ e, ?_, same_put (s.trans s') hD, ?_⟩
  · rw [List.length_map, List.length_range]
    exact Nat.lt_trans (List.getElem?_eq_some_iff.mp hx).1 hz
  · rw [upd_same, List.range_succ, List.map_append]; rfl
theorem FormAt.frm {g : List Addr} {H H' : Hp} {a : Addr} {cols : Cols} (h : FormAt H a cols) (F : Frm g H H') : FormAt H' a cols := by
  obtain ⟨ts, e, l, f⟩ := h.ex
  exact ⟨ts, F.tups _ _ e, l, fun i t c h1 h2 => F.tups _ _ (f i t c h1 h2)⟩
theorem FormAt.dt {H : Hp} {p : Addr} {cols : Cols} (fm : FormAt H p cols) : Dt H (.ref p) (.tuple (cols.map colDat)) := by
  obtain ⟨ts, e, l, f⟩ := fm.ex
  refine .tup e (.of colDat (by rw [List.length_map]; exact l) fun i v c h1 h2 => ?_)
  rw [List.getElem?_map] at h1
  obtain ⟨t, q, rfl⟩ := Option.map_eq_some_iff.mp h1
  exact .tup (f i t c q h2) (.cons (.str _) (.cons (.str _) .nil))
noncomputable def sp_column_names : Sp := fun vs H Q _ => ∃ (a : Addr) (cols : Cols), vs = [.ref a] ∧ FormAt H a cols ∧ cols.length ≤ 10 ∧ ∀ p H', Same H H' → H' p = some (.tup (cols.map fun c => V.str c.1)) → Q (.ref p) H'
theorem range_mapD {α β : Type} (f : α → β) (d : α) (l : List α) : ((List.range l.length).map fun i => f (l.getD i d)) = l.map f := by
  refine List.ext_getElem (by simp) fun i h1 h2 => ?_
  have hi : i < l.length := by simpa using h2
  simp [List.getD_eq_getElem?_getD, hi]
end My

set_option Elab.async false
set_option linter.all false
set_option maxRecDepth 100000

namespace L2
open PySem PySem.Spec PyProof.Rows
section
variable {X : Cx}
end
end L2

set_option Elab.async false
set_option linter.all false
set_option maxRecDepth 100000

namespace My
open PySem PySem.Spec PyProof.Rows L2
inductive Hd where
  | heap (ps : Pgs)
  | run (ls : Pgs)
  | bk (bs : List Pgs)
noncomputable def Hd.kind : Hd → Str
  | .heap _ => "heap"
  | .run _ => "sorted"
  | .bk _ => "hashed"
structure Cz where
  sh : Addr
  hp : Addr
  rn : Addr
  bk : Addr
  st : Addr
noncomputable abbrev Rs := List (Int × List Key)
theorem valV_neg {k k0 : Key} {v : V} {kvs : List (Key × V)} (c : k0 ≠ k) : valV ((k0, v) :: kvs) k = valV kvs k := by simp [valV, List.find?_cons, c]
noncomputable def RowK (cols : Cols) (row : List Key) : Prop := row.map kindOf = cols.map (·.2) ∧ ∀ k ∈ row, keyOk k
theorem RowK.len {cols : Cols} {row : List Key} (h : RowK cols row) : row.length = cols.length := by
  have := congrArg List.length h.1
  simpa using this
section
variable (K : PySem.W.Frag) (c : Cz) (P : Hd → Prop)
end
end My

set_option Elab.async false
set_option linter.all false
set_option maxRecDepth 100000

namespace My
open PySem PySem.Spec PyProof.Rows L2
section
variable {K : PySem.W.Frag} {c : Cz} {H H' : Hp} {x y : Addr} {h : Sh} {cols : Cols} {ws : List Str} {hd : Hd} {rs : Rs} {g : Nat} {dx fo kp hp d : Addr} {kvs : List (Key × V)} {fh f : List Addr}
end
end My

set_option Elab.async false
set_option linter.all false
set_option maxRecDepth 100000

namespace My
open PySem PySem.Spec PyProof.Rows L2
theorem in_strs (x : Str) (ws : List Str) : inV (.str x) (ws.map V.str) = decide (x ∈ ws) := by
  induction ws with
  | nil => rfl
  | cons c r ih =>
    rw [List.map_cons, inV, List.any_cons]
    rw [inV] at ih
    rw [ih]
    have e : eqV (V.str c) (V.str x) = decide (c = x) := rfl
    rw [e]
    by_cases z : c = x
    · simp [z]
    · have z' : ¬ x = c := fun y => z y.symm
      simp [z, z']
end My
namespace My
open PySem PySem.W PyProof.Rows PySem.Spec L2

end My
namespace L2
open PySem PySem.W PyProof.Rows PySem.Spec My
section
variable {X : Cx}

end
end L2

set_option Elab.async false
set_option linter.all false
set_option maxRecDepth 100000

namespace My
open PySem PySem.Spec PyProof.Rows L2
end My
namespace My
open PySem PySem.Spec PyProof.Rows L2
end My
namespace L2
open PySem PySem.Spec PyProof.Rows
end L2
namespace My
open PySem PySem.Spec PyProof.Rows L2
end My

set_option Elab.async false
set_option linter.all false
set_option maxRecDepth 100000

namespace My
open PySem PySem.Spec PyProof.Rows L2
end My
namespace My
open PySem PySem.Spec PyProof.Rows L2
end My

set_option Elab.async false
set_option linter.all false
set_option maxRecDepth 100000

namespace My
open PySem PySem.Spec PyProof.Rows L2
end My

set_option Elab.async false
set_option linter.all false
set_option maxRecDepth 100000

namespace L2
open PySem PySem.Spec PyProof.Rows
end L2
namespace My
open PySem PySem.Spec PyProof.Rows L2
end My
namespace My
open PySem PySem.Spec PyProof.Rows L2
end My

set_option Elab.async false
set_option linter.all false
set_option maxRecDepth 100000

namespace My
open PySem PySem.Spec PyProof.Rows L2
section
variable {α : Type} {R : Own α} {K : PySem.W.Frag} {c : Cz} {H H1 H2 : Hp} {x sh d pg fo : Addr} {h : Sh} {cols : Cols} {ws : List Str} {hd hd' : Hd} {rs rs' : Rs} {g g' : Nat} {f f' : List Addr} {kvs kvs' : List (Key × V)} {rsD rsD' : Rs} {q q' : α} {f2 f2' : List Addr}
end

end My
namespace My
open PySem PySem.Spec PyProof.Rows L2
end My

set_option Elab.async false
set_option linter.all false
set_option maxRecDepth 100000

namespace L2
open PySem PySem.Spec PyProof.Rows
noncomputable def metK (val : Nat → Key) (i : Nat) : List Key := ((List.range i).map val).reverse
theorem metK_s (val : Nat → Key) (i : Nat) : metK val (i + 1) = val i :: metK val i := by
  unfold metK
  rw [List.range_succ, List.map_append, List.reverse_append]; rfl
theorem setOf_cg {prog : Program} {w : World} {h : Heap} {a : Addr} {S S' : Key → Bool} {n n' : Nat} (hS : h.SetOf (mixKind prog w) a S n) (e : ∀ k, S k = S' k) (en : n = n') : h.SetOf (mixKind prog w) a S' n' := by
  have := funext e
  subst this; subst en; exact hS
theorem dcnt_leL : ∀ l : List Key, dcnt l ≤ l.length
  | [] => Nat.le_refl _
  | a :: r => by
    have := dcnt_leL r
    simp only [dcnt]
    split <;> (rw [List.length_cons]; omega)
theorem metK_len (val : Nat → Key) (i : Nat) : dcnt (metK val i) ≤ i := by
  have := dcnt_leL (metK val i)
  unfold metK at this ⊢
  rw [List.length_reverse, List.length_map, List.length_range] at this
  exact this
section
variable {prog : Program} {w : World} {A : Around} {R : Result → Shared → Prop} {it : Addr} {fp wr : List Addr} {GG : Array GenState → Array GenState → Prop} {n : Nat} {PP : Nat → Value → Prop} {Sx : Nat → Shared → Prop}
theorem upd_loopK (W : WalksS prog w A.in1 it fp wr GG n PP Sx) (D : Addr) (hDf : D ∉ fp) (val : Nat → Key) (hval : ∀ i v, PP i v → RelV (kV (val i)) v) (hn : n + 1 < scanBound) :
    ∀ (k i : Nat) (s : Shared), n - i = k → i ≤ n → Sx i s → s.heap.SetOf (mixKind prog w) D (fun q => hasK q (metK val i)) (dcnt (metK val i)) →
      (∀ s', Moved (D :: wr) GG s s' → s'.heap.SetOf (mixKind prog w) D (fun q => hasK q (metK val n)) (dcnt (metK val n)) → R (.ok (.ret .none)) s') →
      codeAny (model prog w) A (.builtin "set.update.loop" ⟨[.ref D, .ref it], []⟩) R s := by
  have hDw : D ∉ wr := fun z => hDf (W.sub _ z)
  have sub2 : ∀ b ∈ wr, b ∈ D :: wr := fun b hb => List.mem_cons_of_mem _ hb
  intro k
  induction k with
  | zero =>
    intro i s hk hi hst hS hR
    obtain rfl : i = n := by omega
    refine codeAny_builtin PyProof.Rows.F.entry_set_update_loop ?_
    rw [Around.under_plainId PyProof.Rows.F.plain_set_update_loop _]
    show wpAny _ A.in1 (pyNext (.ref it) >>= _) _ _ s
    refine wpAny_bind (W.done s _ _ hst fun s' mv => ?_)
    show wpAny _ A.in1 (ret Value.none) _ _ s'
    refine wpAny_pure (hR s' (mv.mono sub2) ?_)
    obtain ⟨o, es, ep, t, ho, rest⟩ := hS
    exact ⟨o, es, ep, t, mv.heap D _ hDw ho, rest⟩
  | succ k ih =>
    intro i s hk hi hst hS hR
    have hlt : i < n := by omega
    refine codeAny_builtin PyProof.Rows.F.entry_set_update_loop ?_
    rw [Around.under_plainId PyProof.Rows.F.plain_set_update_loop _]
    show wpAny _ A.in1 (pyNext (.ref it) >>= _) _ _ s
    refine wpAny_bind (W.item i s _ _ hlt hst fun v s' pv st2 mv => ?_)
    have rv := hval i v pv
    have hkey : (mixKind prog w).is (val i) v = true := kV_is rv
    have hsc : v.scannable = true := by
      cases e : val i with
      | inl j => rw [e] at rv; obtain ⟨t, rfl⟩ := rv; rfl
      | inr x => rw [e] at rv; obtain ⟨t, rfl⟩ := rv; rfl
    have hS2 : s'.heap.SetOf (mixKind prog w) D (fun q => hasK q (metK val i)) (dcnt (metK val i)) := by
      obtain ⟨o, es, ep, tb, ho, rest⟩ := hS
      exact ⟨o, es, ep, tb, mv.heap D _ hDw ho, rest⟩
    show wpAny _ A.in1 (holding [v] (setAdd D v) >>= _) _ _ s'
    refine wpAny_bind (wpAny_holding ?_)
    unfold setAdd
    refine wpAny_holding ?_
    refine wpAny_bind ((mixKind prog w).pyHash (k := val i) hkey ?_)
    have room : dcnt (metK val i) + 1 < scanBound := by have := metK_len val i; omega
    refine wpAny_setAddHashed_of (knd := mixKind prog w) (s := { s' with toks := s'.toks + 1 }) hkey hsc hS2 room fun h' sb hS3 => ?_
    have hSi : h'.SetOf (mixKind prog w) D (fun q => hasK q (metK val (i + 1))) (dcnt (metK val (i + 1))) := by
      refine setOf_cg hS3 (fun q => ?_) ?_
      · rw [metK_s]
        show (hasK q (metK val i) || decide (q = val i)) = (decide (val i = q) || hasK q (metK val i))
        rw [Bool.or_comm]
        congr 1
        by_cases z : val i = q
        · rw [decide_eq_true z, decide_eq_true z.symm]
        · rw [decide_eq_false z, decide_eq_false (Ne.symm z)]
      · rw [metK_s]; rfl
    refine wpAny_pure ⟨plainId_quiet PyProof.Rows.F.plain_set_update_loop _, ih (i + 1) _ (by omega) hlt (W.frame _ s' _ _ st2 (Nat.le_succ _) fun b hb o e => ?_) hSi fun s2 mv2 hS4 => ?_⟩
    · rw [sb.2 b (fun z : b = D => hDf (by rw [← z]; exact hb))]; exact e
    · refine hR s2 (Moved.trans W.gtrans ((mv.mono sub2).then_heap (Nat.le_succ _) fun b o hb e => ?_) mv2) hS4
      rw [sb.2 b (fun z : b = D => hb (by rw [z]; exact List.mem_cons_self))]; exact e
end
end L2
namespace PySem
open PySem.Spec PyProof.Rows L2
section
variable {prog : Program} {w : World} {A : Around} {E : Value → Shared → Prop} {s : Shared}
set_option maxHeartbeats 3200000 in
theorem call_set_tupK {a : Addr} {its : Array Value} {ks : List Key} {Q : Value → Shared → Prop} (hh : A.handled = none) (ha : s.heap.IsTuple a its) (hi : Vals (ks.map kV) its.toList) (hb : its.size + 1 < scanBound)
    (h : ∀ (h' : Heap) (tk : Nat), h'.SetOf (mixKind prog w) s.heap.objs.size (fun q => hasK q (metK (fun i => ks.getD i (.inl 0)) its.size)) (dcnt (metK (fun i => ks.getD i (.inl 0)) its.size)) →
      (∀ b o, b < s.heap.objs.size → s.heap.get? b = some o → h'.get? b = some o) → Q (.ref s.heap.objs.size) { s with heap := h', toks := tk }) :
    wpAny (model prog w) A (call (.type "set") [.ref a]) Q E s := by
  obtain ⟨c0, tl0, hmro0⟩ := F.called_set.mro
  have made0 := F.called_set.made
  have sub0 := F.called_set.sub
  refine wpAny_call (codeAny_of_tree ?_)
  show wpAny _ _ (callAny (.type "set") _) _ _ _
  refine wpAny_pure ⟨Code.quiet_builtin _ (by decide +kernel), codeAny_builtin F.entry_type_call ?_⟩
  rw [Around.under_plain (weight_type_call_type "set" [.ref a] []) rfl]
  have n1 := F.called_set.notType
  have n2 := F.called_set.canCreate
  have n3 := F.typeCall_set_1 (.ref a)
  repeat (any_goals (first | assumption | wp_step))
  refine codeAny_mono (code_set_new_1 (.ref a) (E := E) (Q₁ := fun u t => ∃ led : Bool, u = .ref s.heap.objs.size ∧ t = { s with heap := s.heap.push { cls := .type "set", dict := none, data := .set #[] 0 (.fresh 0 0 led) } }) fun led => ⟨led, rfl, rfl⟩) fun r s1 hr => ?_
  cases r with
  | error e => exact hr
  | ok fl =>
    cases fl with
    | ret u =>
      obtain ⟨led, rfl, rfl⟩ := hr
      generalize hH1 : s.heap.push { cls := .type "set", dict := none, data := .set #[] 0 (.fresh 0 0 led) } = H1
      have gD : H1.get? s.heap.objs.size = some { cls := .type "set", dict := none, data := .set #[] 0 (.fresh 0 0 led) } := by rw [← hH1]; exact Heap.get?_push_size _ rfl
      have hT : Shared.TypeIs { s with heap := H1 } (.ref s.heap.objs.size) "set" := ⟨_, gD, rfl⟩
      have i1 := F.called_set.init.lookup
      have i2 := F.called_set.init.bind (.ref s.heap.objs.size)
      repeat (any_goals (first | assumption | wp_step))
      refine codeAny_mono (codeAny_call_builtin (R := wants (fun u t => u = .none ∧ ∃ h' tk, t = { s with heap := h', toks := tk } ∧ h'.SetOf (mixKind prog w) s.heap.objs.size (fun q => hasK q (metK (fun i => ks.getD i (.inl 0)) its.size)) (dcnt (metK (fun i => ks.getD i (.inl 0)) its.size)) ∧ (∀ b o, b < s.heap.objs.size → s.heap.get? b = some o → h'.get? b = some o)) E) F.called_set.init.plain F.entry_set_init (check_set_init_1 hT ?_)) fun r2 s2 hr2 => ?_
      · obtain ⟨oa, hoa, hca, na, hda⟩ := ha
        obtain ⟨xc, xd, xdata, xsl⟩ := oa
        simp only at hca hda
        subst hca; subst hda
        have hk1 : ∀ b o, s.heap.get? b = some o → H1.get? b = some o := fun b o e => by rw [← hH1]; exact Heap.get?_push_of_some _ e
        have hoa1 := hk1 _ _ hoa
        have z1 := PySem.F.sub_tuple_set
        have z2 := PySem.F.sub_tuple_frozenset
        have z3 : (Value.type "tuple" == Value.type "dict") = false := by decide
        have ta1 : H1.IsTuple a its := ⟨_, hoa1, rfl, na, rfl⟩
        have szH : H1.objs.size = s.heap.objs.size + 1 := by rw [← hH1, Heap.size_push]
        have la : a < s.heap.objs.size := Heap.lt_size hoa
        unfold Builtin.«set.__init__» noKeywords Builtin.Frozenset.updateFrom
        generalize hPI : pyIter = PI
        wp_walk
        subst hPI
        refine wpAny_pyIter_tuple ta1 ?_
        refine wpAny_bind (wpAny_runValue ?_)
        have h3 : A.in1.in1.in1.handled = none := by simp [hh]
        have nI : a ≠ H1.objs.size := Nat.ne_of_lt (by rw [szH]; exact Nat.lt_succ_of_lt la)
        have nD : s.heap.objs.size ∉ [H1.objs.size, a] := by
          rw [szH]
          simp only [List.mem_cons, List.mem_singleton, List.not_mem_nil, or_false, not_or]
          exact ⟨Nat.ne_of_lt (Nat.lt_succ_self _), Nat.ne_of_gt la⟩
        have hval : ∀ (i : Nat) (v : Value), its[i]? = some v → RelV (kV ((fun i => ks.getD i (.inl 0)) i)) v := fun i v hv => by
          have hv' : its.toList[i]? = some v := by rw [Array.getElem?_toList]; exact hv
          have hil : i < ks.length := by
            have := hi.length
            rw [List.length_map] at this
            rw [this]
            exact (List.getElem?_eq_some_iff.mp hv').1
          obtain ⟨u, h1, h2⟩ := hi.get (x := kV ks[i]) (i := i) (by rw [List.getElem?_map, List.getElem?_eq_getElem hil]; rfl)
          rw [hv'] at h1
          cases h1
          show RelV (kV (ks.getD i (.inl 0))) v
          rw [List.getD_eq_getElem?_getD, List.getElem?_eq_getElem hil]
          exact h2
        refine L2.upd_loopK ((Walks.tuple h3 _ a nI its).toS) s.heap.objs.size nD (fun i => ks.getD i (.inl 0)) hval hb (its.size - 0) 0 _ (by omega) (Nat.zero_le _) ⟨⟨_, Heap.get?_push_size _ rfl, rfl, rfl⟩, (ta1.push _)⟩ ?hS0 ?hR
        case hS0 =>
          exact ⟨_, #[], 0, _, Heap.get?_push_of_some _ gD, ⟨rfl, rfl, rfl⟩, rfl, fun _ z => by simp at z, fun k => by simp [metK, hasK], by decide, by rfl, rfl⟩
        case hR =>
          intro s' mv hS'
          obtain ⟨h', g', d', tk', os'⟩ := s'
          have eg : g' = s.gens := mv.gens
          have ed : d' = s.drawn := mv.drawn
          have eo : os' = s.os := mv.os
          subst eg; subst ed; subst eo
          show wpAny _ _ _ _ _ _
          refine wpAny_pure ?_
          show wpAny _ _ (ret Value.none) _ _ _
          refine wpAny_pure ⟨rfl, h', tk', rfl, hS', fun b o hb e => ?_⟩
          refine mv.heap b o ?_ (Heap.get?_push_of_some _ (hk1 _ _ e))
          rw [szH]
          simp only [List.mem_cons, List.mem_singleton, List.not_mem_nil, or_false, not_or]
          exact ⟨Nat.ne_of_lt hb, Nat.ne_of_lt (Nat.lt_succ_of_lt hb)⟩
      · cases r2 with
        | error e => exact hr2
        | ok fl2 =>
          cases fl2 with
          | ret r =>
            obtain ⟨rfl, h', tk, rfl, hS', hk'⟩ := hr2
            repeat (any_goals (first | assumption | wp_step))
            exact h _ _ hS' hk'
          | _ => exact hr2.elim
    | _ => exact hr.elim
end
end PySem
namespace L2
open PySem PySem.Spec PyProof.Rows
section
variable {X : Cx}

theorem call_setT {K : PySem.W.Frag} (hc : X.calm = true) (hK : X.K = K := by rfl) : CallR X (.type "set") (fun xs H Q => ∃ (a : Addr) (ks : List Key), xs = [V.ref a] ∧ SqT K H a (ks.map kV) ∧ ks.length < 900 ∧ ∀ p, H p = none → Q (.ref p) (upd H p (setO X.prog X.w p ((List.range ks.length).map fun i => ks.getD i (.inl 0)).reverse))) := by
  subst hK
  constructor
  intro pins s σ H xs us Q I r h
  obtain ⟨a, ks, rfl, ha, hl, q⟩ := h
  obtain ⟨u, rfl, ru⟩ := vals1 r
  cases (ru : _ = _)
  obtain ⟨its, rv, ht, hz⟩ := I.tuple ha
  have hil : its.length = ks.length := by have := rv.length; rw [List.length_map] at this; omega
  refine call_set_tupK (ks := ks) (I.ok.hd hc) ht (by simpa using rv) (by unfold scanBound; rw [List.size_toArray, hil]; omega) fun h' tk hS hk => ?_
  have ez : its.toArray.size = ks.length := by rw [List.size_toArray, hil]
  rw [ez] at hS
  refine ⟨.ref s.heap.objs.size, _, I.laid (t' := tk) (fun b o e => hk b o (Heap.lt_size e) e) (Nat.le_refl _) (setO_ok ⟨_, hS, fun _ => rfl⟩), rfl, q _ (I.hok.fresh (Nat.le_refl _))⟩
end
end L2

set_option Elab.async false
set_option linter.all false
set_option maxRecDepth 100000

namespace My
open PySem PySem.Spec PyProof.Rows L2
end My

set_option Elab.async false
set_option linter.all false
set_option maxRecDepth 100000

namespace My
open PySem PySem.Spec PyProof.Rows L2
theorem seqIx_nat {n : Nat} {r : Int} (h0 : 0 ≤ r) (h1 : r < n) : seqIndex? r n = some r.toNat := by
  have := (ixN_seq (n := n) (i := r) (j := r.toNat) (by
    have := ixN_of (n := n) (j := r.toNat) (by omega)
    rwa [show ((r.toNat : Nat) : Int) = r by omega] at this)).1
  exact this
end My

set_option Elab.async false
set_option linter.all false
set_option maxRecDepth 100000

namespace My
open PySem PySem.Spec PyProof.Rows L2
section
variable {α : Type} {R : Own α} {K : PySem.W.Frag} {c : Cz} {H H1 H2 : Hp} {x sh d pg fo ko : Addr} {h : Sh} {cols : Cols} {ws : List Str} {hd hd' : Hd} {rs rs' : Rs} {g g' : Nat} {f f' : List Addr} {kvs kvs' : List (Key × V)} {rsD rsD' : Rs} {q q' : α} {f2 f2' : List Addr}
end

section
variable {cols : Cols} {ws : List Str} {rs : Rs} {g : Nat}
variable {m : Nat} {ls : Pgs}
end
end My
namespace My
open PySem PySem.Spec PyProof.Rows L2
end My
namespace L2

end L2
namespace My
open PySem PySem.Spec PyProof.Rows L2
structure P16 where
  (K : PySem.W.Frag) (c : Cz) (H : Hp) (a x sh d pg fo ko : Addr) (m fan : Nat) (cols : Cols) (ws : List Str)
noncomputable abbrev P16.h (p : P16) : Sh := ⟨p.m, 4, p.fan, 4, 16⟩

end My

set_option Elab.async false
set_option linter.all false
set_option maxRecDepth 100000

namespace My
open PySem PySem.Spec PyProof.Rows L2
section
variable {cols : Cols} {ws : List Str} {rs : Rs} {g n c : Nat} {bs : List Pgs}
end
end My
namespace My
open PySem PySem.Spec PyProof.Rows L2
end My
namespace My
open PySem PySem.Spec PyProof.Rows L2
section
variable {cols : Cols} {ws : List Str} {rs : Rs} {g n c : Nat} {bs : List Pgs}
end

end My
namespace My
open PySem PySem.Spec PyProof.Rows L2
end My

set_option Elab.async false
set_option linter.all false
set_option maxRecDepth 100000

namespace L2
open PySem PySem.Spec PyProof.Rows
noncomputable def MDict (w : World) (K : PySem.W.Frag) (a : Addr) (kvs : List (Str × V)) : Prop :=
  ∃ (es : Array DictEntry) (n : Nat), K.lookup a = some ⟨.type "dict", none, .dict es n, #[]⟩ ∧ PySem.W.KeysLit w.params es.toList ∧ (a == sysModules) = false ∧ Paired (fun (p : Str × V) (e : DictEntry) => (∃ t, e.key = .str p.1 t) ∧ RelV p.2 e.val) kvs es.toList
theorem mdict_find {kvs : List (Str × V)} {es : Array DictEntry} (h : Paired (fun (p : Str × V) (e : DictEntry) => (∃ t, e.key = .str p.1 t) ∧ RelV p.2 e.val) kvs es.toList) (z : Str) :
    (kvs.lookup z = none ∧ findBy Value.isStrOf es z = none) ∨ ∃ v u, kvs.lookup z = some v ∧ findBy Value.isStrOf es z = some u ∧ RelV v u := by
  obtain ⟨l⟩ := es
  unfold findBy
  rw [List.find?_toArray]
  simp only at h
  induction h with
  | nil => exact .inl ⟨rfl, rfl⟩
  | @cons p e l1 l2 r t ih =>
    obtain ⟨k, v⟩ := p
    obtain ⟨⟨tk, ek⟩, rv⟩ := r
    have ek : e.key = .str k tk := ek
    by_cases c : z = k
    · subst c
      refine .inr ⟨v, e.val, by rw [List.lookup_cons, beq_self_eq_true], ?_, rv⟩
      rw [List.find?_cons_of_pos (by rw [ek]; simp [Value.isStrOf])]; rfl
    · have c1 : (z == k) = false := beq_eq_false_iff_ne.mpr c
      have c2 : Value.isStrOf z e.key = false := by rw [ek]; simp [Value.isStrOf]; exact fun q => c q.symm
      rw [List.lookup_cons, c1, List.find?_cons_of_neg (by rw [c2]; simp)]
      exact ih
section
variable {X : Cx}
noncomputable def rInM (w : World) (K : PySem.W.Frag) (neg : Bool) : R2 := fun x y H Q => ∃ (a : Addr) (z : Str) (kvs : List (Str × V)), y = .ref a ∧ x = .str z ∧ MDict w K a kvs ∧ Q (.bl (if neg then !(kvs.lookup z).isSome else (kvs.lookup z).isSome)) H
theorem op_notInM {w : World} {K : PySem.W.Frag} (hw : X.w = w := by rfl) (hK : X.K = K := by rfl) : OpR X (compareOp .NotIn) (rInM w K true) := by
  subst hw hK
  constructor
  intro pins s σ H x y v u Q I rx ry h
  obtain ⟨a, z, kvs, rfl, rfl, ⟨es, n, hl, hk, hs, hp⟩, q⟩ := h
  cases ry
  obtain ⟨t, rfl⟩ := rx
  refine wpAny_notIn_of (strKind_is X.prog X.w z t) hs (PySem.W.mapOf_K (prog := X.prog) I.kIn hl hk) ?_
  refine ⟨.bl _, H, I.tok _, rfl, ?_⟩
  rcases mdict_find hp z with ⟨e1, e2⟩ | ⟨v', u', e1, e2, _⟩
  · rw [e2]; rw [e1] at q; exact q
  · rw [e2]; rw [e1] at q; exact q
noncomputable def rIxM (w : World) (K : PySem.W.Frag) : R2 := fun x y H Q => ∃ (a : Addr) (z : Str) (kvs : List (Str × V)) (v : V), x = .ref a ∧ y = .str z ∧ MDict w K a kvs ∧ kvs.lookup z = some v ∧ Q v H
theorem ix_mod {w : World} {K : PySem.W.Frag} (hw : X.w = w := by rfl) (hK : X.K = K := by rfl) : IxR X (rIxM w K) := by
  subst hw hK
  constructor
  intro value slice pins s σ H x y v u Q I rx ry h hs
  obtain ⟨a, z, kvs, v', rfl, rfl, ⟨es, n, hl, hk, hsm, hp⟩, e, q⟩ := h
  cases rx
  obtain ⟨t, rfl⟩ := ry
  rcases mdict_find hp z with ⟨e1, e2⟩ | ⟨v2, u2, e1, e2, r2⟩
  · rw [e] at e1; cases e1
  · rw [e] at e1; cases e1
    have hm := PySem.W.mapOf_K (prog := X.prog) I.kIn hl hk
    exact tail_any hm.typeIs slot_dict_getitem.lookup (wpAny_getItem_of (strKind_is X.prog X.w z t) hm e2 ⟨_, H, I.tok _, r2, q⟩) hs
end
end L2

set_option Elab.async false
set_option linter.all false
set_option maxRecDepth 100000

namespace My
open PySem PySem.Spec PyProof.Rows L2
inductive Hx where
  | run (ls : Pgs)
  | bk (bs : List Pgs)
noncomputable def Hx.kind : Hx → Str
  | .run _ => "tree"
  | .bk _ => "hash"
structure Ci where
  cz : Cz
  ix : Addr
section
variable {c : Ci} {H H' : Hp} {x : Addr} {h : Sh} {cols : Cols} {ws : List Str} {hx hx' : Hx} {f g : List Addr} {dx dp wp cp hp : Addr} {fh fh' : List Addr}
end

section
variable (K : PySem.W.Frag) (c : Ci) (P : Hx → Prop)
end
end My

set_option Elab.async false
set_option linter.all false
set_option maxRecDepth 100000

namespace My
open PySem PySem.Spec PyProof.Rows L2

section
variable {β : Type} {R : Own β} {K : PySem.W.Frag} {c : Ci} {H H1 : Hp} {x ix sh d pg fo : Addr} {h : Sh} {cols : Cols} {ws wk : List Str} {hd : Hd} {rs : Rs} {g : Nat} {f : List Addr} {kvs : List (Key × V)} {rsD : Rs} {hx : Hx} {b : β} {f2 : List Addr}
end

section
variable {β : Type} {R : Own β} {K : PySem.W.Frag} {c : Ci} {H H1 H2 : Hp} {x ix sh d pg fo : Addr} {h : Sh} {cols : Cols} {ws wk : List Str} {hd : Hd} {rs : Rs} {g : Nat} {f : List Addr} {kvs : List (Key × V)} {rsD : Rs} {hx : Hx} {b : β} {f2 fi : List Addr}

end

end My

set_option Elab.async false
set_option linter.all false
set_option maxRecDepth 100000

namespace L2
open PySem PySem.Spec PyProof.Rows
theorem newDict_any {M : Model} {A : Around} {E : Value → Shared → Prop} {s : Shared} {Q : Value → Shared → Prop} (h : Q (.ref s.heap.objs.size) { s with heap := s.heap.push { cls := .type "dict", data := .dict #[] } }) : wpAny M A newDict Q E s := by
  simp only [newDict, newObj]
  exact wpAny_bind (wpAny_alloc (wpAny_pure h))
section
variable {X : Cx} {pins : List (Addr × Obj)} {σ : St} {H : Hp} {s : Shared} {a : Addr} {y v : V} {u r : Value} {A : Around} {E : Value → Shared → Prop}
theorem d_dictSet {kvs : List (Key × V)} {k : Key} {Q : Unit → Shared → Prop} (I : Inv X pins σ H s) (e : H a = some (.dK kvs)) (l : kvs.length < sizeLine) (ry : RelV (kV k) u) (rv : RelV v r) (h : ∀ s', Inv X pins σ (upd H a (.dK (putK kvs k v))) s' → Q () s') :
    wpAny (model X.prog X.w) A (dictSet a u r) Q E s := by
  obtain ⟨z, hd, vs, rel, dd⟩ := dk_of I.hok e
  have hz : vs.length ≤ sizeLine := by rw [← rel.length]; exact z
  have hl : (putK kvs k v).length ≤ sizeLine := by have := length_putK kvs k v; omega
  refine wpAny_dictSet_pairs (hsz := hz) (kV_is ry) dd fun h' dd' hs => h _ ?_
  have he : ∃ q, h'.get? a = some q := let ⟨q, _, _, hq, _⟩ := dd'; ⟨q, hq⟩
  exact d_write I (by rw [e]; exact True.intro) hs he (dk_new hl hd (rel.put k rv) dd')
end
theorem compTurn_dictA (kE vE target iter : Expr) (ifs : List Expr) (scope : Scope) (pos : Pos) (it : Value) (d : Addr) (env : Env) :
    compTurn (.DictComp kE vE [⟨target, iter, ifs, 0⟩] scope pos) 0 it (.ref d) env = (do
      standAt iter.pos
      match ← pyNext it with
      | none => pure (.done .next)
      | some v =>
        letOwnedTupleGo target it v
        assign target env v
        let mut ok := true
        for c in ifs do
          if ok then ok ← isTrue c env (eval c env)
        if ok then
          (do let kv ← eval kE env; let vv ← holding [kv] (eval vE env); standAt { kE.pos with endLine := vE.pos.endLine, endCol := vE.pos.endCol }; holding [kv, vv] (dictSet d kv vv))
        again (.compLoop (.DictComp kE vE [⟨target, iter, ifs, 0⟩] scope pos) 0 it (.ref d) env)) := by rfl
theorem eval_DictCompA {env : Env} (kE vE gens scope pos) : eval (.DictComp kE vE gens scope pos) env =
    comprehension (.DictComp kE vE gens scope pos) scope env (firstIterPos gens pos) newDict (firstAsync gens) (firstIter gens env) := rfl
theorem codeAny_compStart_dictA {prog : Program} {w : World} {A : Around} {R : Result → Shared → Prop} {s : Shared} {kE vE target iter ifs rest scope pos it acc env}
    (h0 : codeAny (model prog w) A (.compLoop (.DictComp kE vE (⟨target, iter, ifs, 0⟩ :: rest) scope pos) 0 it acc env) R s)
    (h : wpAny (model prog w) A (pyIter it) (fun it' s' => codeAny (model prog w) A (.compLoop (.DictComp kE vE (⟨target, iter, ifs, 0⟩ :: rest) scope pos) 0 it' acc env) R s') (notedBy (model prog w) A env fun x s' => R (.error x) s') s) :
    codeAny (model prog w) A (.compStart (.DictComp kE vE (⟨target, iter, ifs, 0⟩ :: rest) scope pos) 0 it acc env) R s := by
  refine codeAny_of_tree ?_
  show wpAny _ _ ((compStart (.DictComp kE vE (⟨target, iter, ifs, 0⟩ :: rest) scope pos) 0 it acc env).onRaise (fun x => do noteFrame x env; standAt theWindowsPlace)) _ _ s
  refine wpAny_notedAt ?_; unfold compStart
  show wpAny _ _ (ask >>= _) _ _ s; refine wpAny_bind (wpAny_askSetting (wpAny_ite ?_)); split
  · first | exact wpAny_bind (wpAny_pure (wpAny_pure (And.intro rfl h0))) | exact wpAny_pure (And.intro rfl h0)
  · first
    | exact wpAny_bind (wpAny_rule (wpAny_bind (wpAny_standAt (wpAny_bind (wpAny_mono h (fun it' s' h' => wpAny_pure (And.intro rfl h')) fun _ _ x => x)))))
    | (refine wpAny_bind (wpAny_rule ?_); show wpAny _ _ (standAt iter.pos >>= _) _ _ s; exact wpAny_bind (wpAny_standAt (wpAny_bind (wpAny_mono h (fun it' s' h' => wpAny_pure (And.intro rfl h')) fun _ _ x => x))))
section
variable {X : Cx}

noncomputable def tDc (wi : TI) (g : TG) (tt : TT) (tk tv : TE) (vs : List Nat) : TE := fun σ H Q => wi σ H fun J H1 => ∀ D, H1 D = none → ∃ W : Nat → Nat → Hp → Prop, (∃ m, W 0 m (upd H1 D (.dK []))) ∧ ∀ i m H, W i m H →
  (J.stop i H ∧ Q (.ref D) H) ∨ (J.go i H ∧ ∃ Nx : Hp → Prop, (∀ H', Nx H' → ∃ m', m' < m ∧ W (i + 1) m' H') ∧ ∀ x H', J.yld i H x H' → g x (wipe σ vs) H' fun σ2 H2 => wipe σ2 vs = wipe σ vs ∧ tt σ2 H2 fun b H3 =>
    if b = true then tk σ2 H3 fun y H4 => tv σ2 H4 fun z H5 => ∃ kvs k, y = kV k ∧ H5 D = some (.dK kvs) ∧ kvs.length < sizeLine ∧ Nx (upd H5 D (.dK (putK kvs k z))) else Nx H3)
theorem dcLoop_any {prog : Program} {w : World} {A : Around} {R : Result → Shared → Prop} {s : Shared} {kE vE target iter : Expr} {ifs : List Expr} {scope : Scope} {pos : Pos} {it : Value} {d : Addr} {env : Env} (I : Nat → Shared → Prop)
    (turn : ∀ n s, I n s → wpAny (model prog w) A (pyNext it) (fun r s₁ => match r with
      | none => R (.ok .next) s₁
      | some v => wpAny (model prog w) A (letOwnedTupleGo target it v) (fun _ s₁' => wpAny (model prog w) A (assign target env v) (fun _ s₂ =>
          wpAny (model prog w) A (forIn ifs true fun c r => if r = true then do let ok ← isTrue c env (eval c env); pure (ForInStep.yield ok) else pure (ForInStep.yield r)) (fun ok s₃ =>
            if ok = true then wpAny (model prog w) A (eval kE env) (fun x s₄ => wpAny (model prog w) A (eval vE env) (fun y s₅ => wpAny (model prog w) A (dictSet d x y) (fun _ s₆ => ∃ m, m < n ∧ I m s₆) (notedBy (model prog w) A env fun e s' => R (.error e) s') s₅) (notedBy (model prog w) A env fun e s' => R (.error e) s') s₄) (notedBy (model prog w) A env fun e s' => R (.error e) s') s₃
            else ∃ m, m < n ∧ I m s₃) (notedBy (model prog w) A env fun e s' => R (.error e) s') s₂) (notedBy (model prog w) A env fun e s' => R (.error e) s') s₁') (notedBy (model prog w) A env fun e s' => R (.error e) s') s₁) (notedBy (model prog w) A env fun e s' => R (.error e) s') s)
    (n : Nat) (h : I n s) :
    codeAny (model prog w) A (.compLoop (.DictComp kE vE [⟨target, iter, ifs, 0⟩] scope pos) 0 it (.ref d) env) R s := by
  refine codeAny_loop rfl I (fun n s hI => ?_) n h
  show wpAny _ A ((compTurn (.DictComp kE vE [⟨target, iter, ifs, 0⟩] scope pos) 0 it (.ref d) env).onRaise (fun x => do noteFrame x env; theTreesLotGoes x)) _ _ s
  refine wpAny_noted ?_
  rw [compTurn_dictA]
  refine wpAny_bind (wpAny_standAt (wpAny_bind (wpAny_mono (turn n s hI) (fun r s₁ h₁ => ?_) fun _ _ h' => h')))
  cases r with
  | none => exact wpAny_pure h₁
  | some v =>
    refine wpAny_bind (wpAny_mono h₁ (fun _ s₁' h₁' => ?_) fun _ _ h' => h')
    refine wpAny_bind (wpAny_mono h₁' (fun _ s₂ h₂ => wpAny_bind (wpAny_mono h₂ (fun ok s₃ h₃ => ?_) fun _ _ h' => h')) fun _ _ h' => h')
    cases ok with
    | false => exact wpAny_pure ⟨rfl, h₃⟩
    | true =>
      exact wpAny_bind (wpAny_bind (wpAny_mono h₃ (fun x s₄ h₄ => wpAny_bind (wpAny_holding (wpAny_mono h₄ (fun y s₅ h₅ => wpAny_bind (wpAny_standAt (wpAny_holding (wpAny_mono h₅ (fun _ s₆ h₆ => wpAny_pure ⟨rfl, h₆⟩) fun _ _ h' => h')))) fun _ _ h' => h'))) fun _ _ h' => h'))
theorem dc_core {pins : List (Addr × Obj)} {s : Shared} {σ : St} {H : Hp} {Q : VK} {kE vE tg iter : Expr} {ifs : List Expr} {scope : Scope} {own : List (Str × Nat)} {pos pos' : Pos} {wi : TI} {g : TG} {tt : TT} {tk tv : TE} {use : Option (Value → Sem Unit)} {Qf : Value → Shared → Prop}
    (hc : X.calm = true) (hN : X.N.Nodup) (I : Inv X pins σ H s) (hi : PI X tg iter wi) (ok : BlkOk X.N X.env.scope scope own)
    (hg : ∀ (s : Shared) (H : Hp) (C : Addr) (cl : List (Str × Addr)) (fp : List Addr), PG (X.blk s H scope (compEnvC scope cl C X.env) fp) tg g) (ht : ∀ (s : Shared) (H : Hp) (C : Addr) (cl : List (Str × Addr)) (fp : List Addr), PTs (X.blk s H scope (compEnvC scope cl C X.env) fp) ifs tt)
    (hk : ∀ (s : Shared) (H : Hp) (C : Addr) (cl : List (Str × Addr)) (fp : List Addr), PE (X.blk s H scope (compEnvC scope cl C X.env) fp) kE tk) (hv : ∀ (s : Shared) (H : Hp) (C : Addr) (cl : List (Str × Addr)) (fp : List Addr), PE (X.blk s H scope (compEnvC scope cl C X.env) fp) vE tv) (hs : ∀ x, foldedSetIterable iter X.env x = pure x)
    (h : tDc wi g tt tk tv (own.map (·.2)) σ H Q)
    (hRR : ∀ D C s' m H', Inv X pins σ H' s' → Q (.ref D) H' → s'.heap.Ns C m → FpOk X pins H' C → compPost (model X.prog X.w) X.A X.xe use Qf (.ref D) C (.ok .next) s') :
    wpAny (model X.prog X.w) X.A (comprehension (.DictComp kE vE [⟨tg, iter, ifs, 0⟩] scope pos) scope X.env pos' newDict false (eval iter X.env) use) Qf X.xe s := by
  have hfree : ∀ y ∈ scope.names, y.2 = .free → ∃ c, X.env.cells.lookup y.1 = some c := fun y hy e => by
    rcases ok.free y hy e with k | k
    · exact I.ok.has _ (.inl k)
    · exact I.ok.has _ (.inr k)
  refine wpAny_comprehension_free (use := use) rfl hs (closure_ok hfree) ok.kind (fun y hy e => by rw [ok.uniq y hy, e])
    (thn (hi pins s σ H _ I h) fun xv s1 hx => thn hx fun itv s2 h2 => ?_)
  obtain ⟨it, fp, tn, J, H2, e, I2, T, st2, f2, q⟩ := h2
  subst e
  refine newDict_any (newEnv_comp ?_)
  generalize hD : s2.heap.objs.size = D
  have hDn : H2 D = none := I2.hok.fresh (Nat.le_of_eq hD)
  obtain ⟨W, ⟨m0, w0⟩, turn⟩ := q D hDn
  -- the new list
  generalize hs3 : ({ s2 with heap := s2.heap.push { cls := .type "dict", data := .dict #[] } } : Shared) = s3
  have I3 : Inv X pins σ (upd H2 D (.dK [])) s3 := by
    rw [← hs3]
    rw [← hD]
    exact I2.laid (t' := s2.toks) (fun b o e => Heap.get?_push_of_some _ e) (Nat.le_refl _) (dk_empty s2.heap I2.big)
  have h3 : s3.heap = s2.heap.push { cls := .type "dict", data := .dict #[] } := by rw [← hs3]
  have sz : ∀ b ∈ fp, b < s2.heap.objs.size := fun b hb => by
    obtain ⟨o, e, _⟩ := T.obj _ _ st2 b hb
    exact Heap.lt_size e
  have f3 : ∀ b ∈ fp, FpOk X pins (upd H2 D (.dK [])) b ∧ b < s3.heap.objs.size := fun b hb => by
    have hlt := sz b hb
    refine ⟨⟨?_, (f2 b hb).2⟩, by rw [h3, Heap.size_push]; exact Nat.lt_succ_of_lt hlt⟩
    rw [upd_ne (by rw [← hD]; exact Nat.ne_of_lt hlt)]
    exact (f2 b hb).1
  have st3 : tn 0 s3.heap := T.keep _ _ _ st2 fun b _ o e => by rw [h3]; exact Heap.get?_push_of_some _ e
  have I4 := block_start I3 ok hN f3
  have pg := hg s3 (upd H2 D (.dK [])) s3.heap.objs.size (cellsFrom (s3.heap.objs.size + 1) scope.names (cloFrom X.env.cells scope.names [])) fp
  have pt := ht s3 (upd H2 D (.dK [])) s3.heap.objs.size (cellsFrom (s3.heap.objs.size + 1) scope.names (cloFrom X.env.cells scope.names [])) fp
  have pk := hk s3 (upd H2 D (.dK [])) s3.heap.objs.size (cellsFrom (s3.heap.objs.size + 1) scope.names (cloFrom X.env.cells scope.names [])) fp
  have pv := hv s3 (upd H2 D (.dK [])) s3.heap.objs.size (cellsFrom (s3.heap.objs.size + 1) scope.names (cloFrom X.env.cells scope.names [])) fp
  show codeAny _ _ (.compStart (.DictComp kE vE [⟨tg, iter, ifs, 0⟩] scope pos) 0 (.ref it) (.ref D) (compEnvC scope (cellsFrom (s3.heap.objs.size + 1) scope.names (cloFrom X.env.cells scope.names [])) s3.heap.objs.size X.env)) (compPost (model X.prog X.w) X.A X.xe use Qf (.ref D) s3.heap.objs.size) { s3 with heap := pushCells (s3.heap.push { cls := .type "dict", data := .dict #[] }) scope.names }
  have nfp : ∀ b ∈ fp, (upd H2 D (.dK [])) b = none := fun b hb => (f3 b hb).1.1
  generalize hce : compEnvC scope (cellsFrom (s3.heap.objs.size + 1) scope.names (cloFrom X.env.cells scope.names [])) s3.heap.objs.size X.env = ce at I4 pg pt pk pv ⊢
  have cL : ce.locals = s3.heap.objs.size := by subst hce; rfl
  generalize hH3 : upd H2 D (.dK []) = H3 at I3 I4 pg pt pk pv w0 nfp f3
  generalize hs4 : ({ s3 with heap := pushCells (s3.heap.push { cls := .type "dict", data := .dict #[] }) scope.names } : Shared) = s4 at I4 ⊢
  have st4 : tn 0 s4.heap := T.keep _ _ _ st3 fun b _ o e => by rw [← hs4]; exact pushCells_keeps _ _ _ _ (Heap.get?_push_of_some _ e)
  have stat : ∀ {σ' : St} {H' : Hp} {s' : Shared}, Inv (X.blk s3 H3 scope ce fp) [] σ' H' s' → (∀ b ∈ fp, H' b = none) → ∀ b ∈ fp, FpOk (X.blk s3 H3 scope ce fp) [] H' b := fun {σ' H' s'} I' hn b hb =>
    ⟨hn b hb, (I'.ok.exf b hb).1, I'.ok.exfs b hb, .inl hb, fun x c e => (I'.ok.exf b hb).2 x c e, fun p hp => absurd (show p ∈ ([] : List (Addr × Obj)) ++ [] from hp) (by simp)⟩
  have loop : codeAny (model X.prog X.w) X.A (.compLoop (.DictComp kE vE [⟨tg, iter, ifs, 0⟩] scope pos) 0 (.ref it) (.ref D) ce) (compPost (model X.prog X.w) X.A X.xe use Qf (.ref D) s3.heap.objs.size) s4 := by
    refine dcLoop_any (fun n s' => ∃ i H', Inv (X.blk s3 H3 scope ce fp) [] (wipe σ (own.map (·.2))) H' s' ∧ tn i s'.heap ∧ (∀ b ∈ fp, H' b = none) ∧ W i n H') ?_ m0 ⟨0, H3, I4, st4, nfp, w0⟩
    rintro n s5 ⟨i, H5, I5, st5, n5, w5⟩
    rcases turn i n H5 w5 with ⟨stop, qq⟩ | ⟨go, Nx, hNx, step⟩
    · have td := T.done (X.blk s3 H3 scope ce fp) rfl rfl rfl hc i [] s5 _ H5 (fun _ _ => False) I5 (stat I5 n5) st5 stop
      refine thnF td fun r s6 ⟨hr, I6⟩ => ?_
      subst hr
      -- back in the def's context
      have I7 : Inv X pins σ H5 s6 := I3.call' (ch := fp) I6.os I6.base I6.hok I6.bare fun b hb => ⟨(f3 b hb).1.2.2.2.1, (f3 b hb).1.2.1, (f3 b hb).1.2.2.2.2.1, (f3 b hb).1.2.2.2.2.2⟩
      have nC : H5 s3.heap.objs.size = none := by
        have z : H5 ce.locals = none := I6.free
        rw [cL] at z
        exact z
      obtain ⟨m, hn, _⟩ := I6.loc
      have hn : s6.heap.Ns ce.locals m := hn
      rw [cL] at hn
      exact hRR D s3.heap.objs.size s6 m H5 I7 qq hn (I3.fpOk (Nat.le_refl _) nC)
    · have ti := T.item (X.blk s3 H3 scope ce fp) rfl rfl rfl hc i [] s5 _ H5 (fun _ _ => False) I5 (stat I5 n5) st5 go
      refine thnF ti fun r s6 ⟨u, hr, h6⟩ => ?_
      subst hr
      refine thnF h6 fun _ s7 ⟨x, H7, I7, r7, y7, st7, n7⟩ => ?_
      have I7' := I7.pinned (stat I7 n7) (T.obj _ _ st7)
      refine thnF (pg _ s7 _ H7 x u _ I7' r7 (step x H7 y7)) fun _ s8 ⟨σ8, H8, I8, hw8, q8⟩ => ?_
      refine thnF (pt _ s8 σ8 H8 _ I8 q8) fun b s9 ⟨H9, I9, q9⟩ => ?_
      -- the turn's end
      have fin : ∀ {s' : Shared} {H' : Hp}, Inv (X.blk s3 H3 scope ce fp) ([] ++ pinsAt fp s7.heap) σ8 H' s' → Nx H' → ∃ m, m < n ∧ ∃ i H', Inv (X.blk s3 H3 scope ce fp) [] (wipe σ (own.map (·.2))) H' s' ∧ tn i s'.heap ∧ (∀ b ∈ fp, H' b = none) ∧ W i m H' := fun {s' H'} I' nx => by
        obtain ⟨m', hm, w'⟩ := hNx H' nx
        have pin' : ∀ b ∈ fp, ∀ o, s7.heap.get? b = some o → s'.heap.get? b = some o ∧ H' b = none := fun b hb o e =>
          let z := I'.pin (b, o) (List.mem_append_right _ (List.mem_append_right _ (mem_pinsAt hb e)))
          ⟨z.1, z.2.1⟩
        have hl : (wipe σ (own.map (·.2))).length = σ8.length := by rw [← hw8, wipe_length]
        refine ⟨m', hm, i + 1, H', (I'.unpinned (pins := [])).weak hl (fun j v e => ?_), T.keep _ _ _ st7 fun b hb o e => (pin' b hb o e).1, fun b hb => ?_, w'⟩
        · rw [← hw8] at e
          exact (wipe_some e).1
        · obtain ⟨o, e, _⟩ := T.obj _ _ st7 b hb
          exact (pin' b hb o e).2
      cases b with
      | false =>
        simp only [Bool.false_eq_true, if_false] at q9 ⊢
        exact fin I9 q9
      | true =>
        simp only [if_true] at q9 ⊢
        refine thnF (pk _ s9 σ8 H9 _ I9 q9) fun z s10 ⟨yv, H10, I10, r10, q10⟩ => ?_
        refine thnF (pv _ s10 σ8 H10 _ I10 q10) fun z2 s11 ⟨yv2, H11, I11, r11, kvs, kk, ek, eD, lD, nx⟩ => ?_
        subst ek
        exact d_dictSet (X := X.blk s3 H3 scope ce fp) I11 eD lD r10 r11 fun s12 I12 => fin I12 nx
  exact codeAny_compStart_dictA loop (T.self X.A 0 _ _ _ st4 loop)
theorem pe_dc {kE vE tg iter : Expr} {ifs : List Expr} {scope : Scope} {own : List (Str × Nat)} {pos : Pos} {wi : TI} {g : TG} {tt : TT} {tk tv : TE} (hc : X.calm = true) (hN : X.N.Nodup) (hi : PI X tg iter wi) (ok : BlkOk X.N X.env.scope scope own)
    (hg : ∀ (s : Shared) (H : Hp) (C : Addr) (cl : List (Str × Addr)) (fp : List Addr), PG (X.blk s H scope (compEnvC scope cl C X.env) fp) tg g) (ht : ∀ (s : Shared) (H : Hp) (C : Addr) (cl : List (Str × Addr)) (fp : List Addr), PTs (X.blk s H scope (compEnvC scope cl C X.env) fp) ifs tt)
    (hk : ∀ (s : Shared) (H : Hp) (C : Addr) (cl : List (Str × Addr)) (fp : List Addr), PE (X.blk s H scope (compEnvC scope cl C X.env) fp) kE tk) (hv : ∀ (s : Shared) (H : Hp) (C : Addr) (cl : List (Str × Addr)) (fp : List Addr), PE (X.blk s H scope (compEnvC scope cl C X.env) fp) vE tv) (hs : ∀ x, foldedSetIterable iter X.env x = pure x := by intro _; rfl) :
    PE X (.DictComp kE vE [⟨tg, iter, ifs, 0⟩] scope pos) (tDc wi g tt tk tv (own.map (·.2))) := by
  constructor
  intro pins s σ H Q I h
  rw [eval_DictCompA]
  refine dc_core hc hN I hi ok hg ht hk hv hs h fun D C s' m H' I' q hn f => ⟨m, hn, fun h'' sb => ?_⟩
  obtain ⟨f0, f1, f2, f3, f4, f5⟩ := f
  exact ⟨.ref D, H', I'.turned (t' := s'.toks) (fun b o hb e => (sb.2 b hb).trans e) f0 f1 f3 f4 f5, rfl, q⟩
end
end L2

set_option Elab.async false
set_option linter.all false
set_option maxRecDepth 100000

namespace L2
open PySem PySem.Spec PyProof.Rows

theorem dc_tup {K : PySem.W.Frag} {a : Addr} {xs : List V} {g : TG} {tt : TT} {tk tv : TE} {vs : List Nat} {σ : St} {H1 : Hp} {D : Addr} {Qd : Hp → Prop} (Pv : Nat → Hp → Prop) (h0 : Pv 0 (upd H1 D (.dK []))) (hl : ∀ i H, i ≤ xs.length → Pv i H → SqT K H a xs)
    (hs : ∀ i x H, xs[i]? = some x → Pv i H → g x (wipe σ vs) H fun σ2 H2 => wipe σ2 vs = wipe σ vs ∧ tt σ2 H2 fun b H3 =>
      if b = true then tk σ2 H3 fun y H4 => tv σ2 H4 fun z H5 => ∃ kvs k, y = kV k ∧ H5 D = some (.dK kvs) ∧ kvs.length < sizeLine ∧ Pv (i + 1) (upd H5 D (.dK (putK kvs k z))) else Pv (i + 1) H3) (hd : ∀ H, Pv xs.length H → Qd H) :
    ∃ W : Nat → Nat → Hp → Prop, (∃ m, W 0 m (upd H1 D (.dK []))) ∧ ∀ i m H, W i m H →
      ((Itt K a).stop i H ∧ Qd H) ∨ ((Itt K a).go i H ∧ ∃ Nx : Hp → Prop, (∀ H', Nx H' → ∃ m', m' < m ∧ W (i + 1) m' H') ∧ ∀ x H', (Itt K a).yld i H x H' → g x (wipe σ vs) H' fun σ2 H2 => wipe σ2 vs = wipe σ vs ∧ tt σ2 H2 fun b H3 =>
        if b = true then tk σ2 H3 fun y H4 => tv σ2 H4 fun z H5 => ∃ kvs k, y = kV k ∧ H5 D = some (.dK kvs) ∧ kvs.length < sizeLine ∧ Nx (upd H5 D (.dK (putK kvs k z))) else Nx H3) := by
  refine ⟨fun i m H => m = xs.length - i ∧ i ≤ xs.length ∧ Pv i H, ⟨xs.length, by simp, Nat.zero_le _, h0⟩, ?_⟩
  rintro i m H ⟨rfl, hi, p⟩
  have q := hl i H hi p
  by_cases hlt : i < xs.length
  · refine .inr ⟨⟨xs, xs[i], q, by simp [hlt]⟩, Pv (i + 1), fun H' p' => ⟨xs.length - (i + 1), by omega, rfl, hlt, p'⟩, fun x H' y => ?_⟩
    obtain ⟨e, y⟩ := y
    subst e
    exact hs i x _ (y xs q) p
  · have e : i = xs.length := by omega
    subst e
    exact .inl ⟨⟨xs, q, Nat.le_refl _⟩, hd H p⟩

end L2
namespace My
open PySem PySem.Spec PyProof.Rows L2
inductive Cn where
  | is (col : Str) (v : Key)
  | frm (col : Str) (lo hi : Option Key)
noncomputable def Cn.col : Cn → Str
  | .is w _ => w
  | .frm w _ _ => w
noncomputable def cnV : Cn → List V
  | .is w v => [.str w, .str "is", kV v]
  | .frm w lo hi => [.str w, .str "from", oV lo, oV hi]
noncomputable def CnAt (H : Hp) (v : V) (c : Cn) : Prop := ∃ p, v = .ref p ∧ H p = some (.tup (cnV c))
theorem CnAt.frm {g : List Addr} {H H' : Hp} {v : V} {c : Cn} (h : CnAt H v c) (F : Frm g H H') : CnAt H' v c := by
  obtain ⟨p, e, h⟩ := h
  exact ⟨p, e, F.tups _ _ h⟩
noncomputable def CnsAt (H : Hp) (a : Addr) (cs : List Cn) : Prop := ∃ vs, H a = some (.tup vs) ∧ Paired (CnAt H) vs cs
theorem CnsAt.frm {g : List Addr} {H H' : Hp} {a : Addr} {cs : List Cn} (h : CnsAt H a cs) (F : Frm g H H') : CnsAt H' a cs := by
  obtain ⟨vs, e, h⟩ := h
  exact ⟨vs, F.tups _ _ e, Paired.mono (fun _ _ z => CnAt.frm z F) h⟩

noncomputable def CnKd (kd : Str) : Cn → Prop
  | .is _ v => kindOf v = kd ∧ keyOk v
  | .frm _ lo hi => (∀ k, lo = some k → kindOf k = kd ∧ keyOk k) ∧ (∀ k, hi = some k → kindOf k = kd ∧ keyOk k) ∧ (lo ≠ none ∨ hi ≠ none)
structure CnsK (cols : Cols) (cs : List Cn) : Prop where
  nd : (cs.map Cn.col).Nodup
  len : cs.length ≤ 6
  ok : ∀ c ∈ cs, ∃ (i : Nat) (kd : Str), cols[i]? = some (c.col, kd) ∧ CnKd kd c
structure Ask where
  wants : List Str
  conds : List Cn
  order : List Str
  first : Option Nat
structure AskOk (cols : Cols) (a : Ask) : Prop where
  w1 : 1 ≤ a.wants.length
  w6 : a.wants.length ≤ 6
  wn : ∀ w ∈ a.wants, w ∈ cols.map (·.1)
  wd : a.wants.Nodup
  cs : CnsK cols a.conds
  o4 : a.order.length ≤ 4
  on : ∀ w ∈ a.order, w ∈ cols.map (·.1)
  od : a.order.Nodup
  fi : ∀ n, a.first = some n → 1 ≤ n ∧ n ≤ 20

end My

set_option Elab.async false
set_option linter.all false
set_option maxRecDepth 100000

namespace My
open PySem PySem.W PyProof.Rows PySem.Spec L2
end My
namespace L2
open PySem PySem.W PyProof.Rows PySem.Spec My
section
variable {X : Cx}

end
end L2
namespace My
open PySem PySem.W PyProof.Rows PySem.Spec L2
end My

set_option Elab.async false
set_option linter.all false
set_option maxRecDepth 100000

namespace L2
open PySem PySem.Spec PyProof.Rows
end L2
namespace My
open PySem PySem.Spec PyProof.Rows L2

end My

set_option Elab.async false
set_option linter.all false
set_option maxRecDepth 100000

namespace My
open PySem PySem.W PyProof PyProof.Rows PySem.Spec L2
section
variable {prog : Program} {w : World} {A : Around} {E : Value → Shared → Prop} {s : Shared}
end
end My
namespace L2
open PySem PySem.W PyProof PyProof.Rows PySem.Spec My
variable {X : Cx}
end L2

set_option Elab.async false
set_option linter.all false
set_option maxRecDepth 100000

namespace My
open PySem PySem.Spec PyProof.Rows L2

theorem paired_idx {α β : Type} {F : α → β → Prop} : ∀ {l₁ : List α} {l₂ : List β}, l₁.length = l₂.length → (∀ (i : Nat) (a : α) (b : β), l₁[i]? = some a → l₂[i]? = some b → F a b) → Paired F l₁ l₂
  | [], [], _, _ => .nil
  | [], _ :: _, h, _ => by simp at h
  | _ :: _, [], h, _ => by simp at h
  | a :: l₁, b :: l₂, h, f => .cons (f 0 a b rfl rfl) (paired_idx (by simpa using h) fun i x y h1 h2 => f (i + 1) x y (by simpa using h1) (by simpa using h2))
theorem merge_keep {w : Str} : ∀ (cs : Cols) (acc : List (Key × V)), w ∉ cs.map (·.1) → valV (mergeK acc (cs.map fun c => (Sum.inr c.1, V.str c.2))) (.inr w) = valV acc (.inr w)
  | [], acc, _ => rfl
  | c :: cs, acc, h => by
    have h1 : ¬ w = c.1 := fun z => h (by rw [z]; simp)
    have h2 : w ∉ cs.map (·.1) := fun z => h (by rw [List.map_cons]; exact List.mem_cons_of_mem _ z)
    show valV (mergeK (putK acc (Sum.inr c.1) (V.str c.2)) (cs.map fun c => (Sum.inr c.1, V.str c.2))) (.inr w) = _
    rw [merge_keep cs _ h2, valV_put, if_neg (fun z => h1 (by cases z; rfl))]
theorem merge_val {w kd : Str} : ∀ (cs : Cols) (acc : List (Key × V)) (i : Nat), (cs.map (·.1)).Nodup → cs[i]? = some (w, kd) → valV (mergeK acc (cs.map fun c => (Sum.inr c.1, V.str c.2))) (.inr w) = some (.str kd)
  | [], _, i, _, h => by simp at h
  | c :: cs, acc, 0, hn, h => by
    simp at h
    subst h
    show valV (mergeK (putK acc (Sum.inr w) (V.str kd)) (cs.map fun c => (Sum.inr c.1, V.str c.2))) (.inr w) = _
    rw [List.map_cons, List.nodup_cons] at hn
    rw [merge_keep cs _ hn.1, valV_put, if_pos rfl]
  | c :: cs, acc, i + 1, hn, h => by
    rw [List.map_cons, List.nodup_cons] at hn
    exact merge_val cs _ i hn.2 (by simpa using h)
end My

set_option Elab.async false
set_option linter.all false
set_option maxRecDepth 100000

namespace L2
open PySem PySem.W PyProof.Rows PySem.Spec My
section
variable {X : Cx}
end
end L2
namespace My
open PySem PySem.Spec PyProof.Rows L2
end My
namespace My
open PySem PySem.Spec PyProof.Rows L2
end My

set_option Elab.async false
set_option linter.all false
set_option maxRecDepth 100000

namespace L2
open PySem PySem.Spec PyProof.Rows
end L2
namespace My
open PySem PySem.Spec PyProof.Rows L2
section
variable {h : Sh} {cols : Cols} {ws : List Str} {n g : Nat} {rs : Rs} {hd : Hd}
end
end My
namespace My
open PySem PySem.Spec PyProof.Rows L2

end My
namespace My
open PySem PySem.Spec PyProof.Rows L2
section
variable {α : Type} {R : Own α} {K : PySem.W.Frag} {c : Cz} {H H1 H2 : Hp} {x sh d pg fo : Addr} {h : Sh} {cols : Cols} {ws : List Str} {hd hd' : Hd} {rs rs' : Rs} {g g' : Nat} {f f' : List Addr} {kvs kvs' : List (Key × V)} {q q' : α} {f2 f2' : List Addr} {b : Addr}
end
end My
namespace My
open PySem PySem.Spec PyProof.Rows L2
end My
namespace My
open PySem PySem.Spec PyProof.Rows L2
end My

set_option Elab.async false
set_option linter.all false
set_option maxRecDepth 100000

namespace My
open PySem PySem.Spec PyProof.Rows L2

noncomputable def free (n : Nat) (l : List Nat) : List Nat := (List.range n).filter fun k => decide (k ∉ l)
end My

set_option Elab.async false
set_option linter.all false
set_option maxRecDepth 100000

namespace L2
open PySem PySem.W PyProof.Rows PySem.Spec My
section
variable {X : Cx}

end
end L2
namespace My
open PySem PySem.Spec PyProof.Rows L2
section
variable {α β : Type} {K : PySem.W.Frag} {a : Addr} {xs : List V} {ds : List α} {g : TG} {tt : TT} {te : TE} {vs : List Nat} {σ : L2.St} {H1 : Hp} {D : Addr} {Qd : Hp → Prop} {F : Hp → V → α → Prop} {G : Hp → V → β → Prop}

theorem lc_selTP (p : α → Bool) (f : α → β) (hD : H1 D = none) (ha : H1 a = some (.tup xs)) (hF : Paired (F H1) xs ds) (sF : ∀ {H : Hp} {v : V} {d : α}, F H1 v d → Same H1 H → F H v d) (sG : ∀ {H H' : Hp} {v : V} {d : β}, G H v d → Frm [D] H H' → G H' v d) (hz : xs.length < 10000)
    (hs : ∀ x d H (Rk : VK) (N : Hp → Prop), d ∈ ds → F H x d → Same H1 H → (∃ o, H D = some o) → (p d = true → ∀ y H', Same H H' → G H' y (f d) → Rk y H') → (p d = false → ∀ H', Same H H' → N H') → g x (wipe σ vs) H fun σ2 H2 => wipe σ2 vs = wipe σ vs ∧ tt σ2 H2 fun b H3 => if b = true then te σ2 H3 Rk else N H3)
    (hd : ∀ H' ys, Same H1 H' → H' D = some (.lst ys) → Paired (G H') ys ((ds.filter p).map f) → Qd H') :
    ∃ W : Nat → Nat → Hp → Prop, (∃ m, W 0 m (upd H1 D (.lst []))) ∧ ∀ i m H, W i m H →
      ((Itt K a).stop i H ∧ Qd H) ∨ ((Itt K a).go i H ∧ ∃ Nx : Hp → Prop, (∀ H', Nx H' → ∃ m', m' < m ∧ W (i + 1) m' H') ∧ ∀ x H', (Itt K a).yld i H x H' → g x (wipe σ vs) H' fun σ2 H2 => wipe σ2 vs = wipe σ vs ∧ tt σ2 H2 fun b H3 =>
        if b = true then te σ2 H3 fun y H4 => ∃ acc, H4 D = some (.lst acc) ∧ acc.length < sizeLine ∧ Nx (upd H4 D (.lst (acc ++ [y]))) else Nx H3) := by
  have hlen := Paired.length hF
  refine lc_tup (xs := xs) (fun i H => Same H1 H ∧ ∃ ys, H D = some (.lst ys) ∧ Paired (G H) ys (((ds.take i).filter p).map f)) ⟨same_put (Same.refl _) hD, [], upd_same, .nil⟩ (fun i H _ ⟨s, _⟩ => SqT.of (s _ _ ha)) (fun i x H hx ⟨s, ys, e, q⟩ => ?_) (fun H ⟨s, ys, e, q⟩ => ?_)
  · obtain ⟨d, hd', hf⟩ := Paired.getL hF hx
    have e2 : ds.take (i + 1) = ds.take i ++ [d] := by rw [List.take_succ, hd']; rfl
    refine hs x d H _ _ (List.mem_of_getElem? hd') (sF hf s) s ⟨_, e⟩ (fun hp y H' s' gy => ⟨_, s' _ _ e, ?_, same_put (s.trans s') hD, ys ++ [y], upd_same, ?_⟩) (fun hp H' s' => ⟨s.trans s', ys, s' _ _ e, ?_⟩)
    · have h1 := Paired.length q
      rw [List.length_map] at h1
      have h2 := List.length_filter_le p (ds.take i)
      rw [List.length_take] at h2
      exact lt_line (by omega)
    · rw [e2, List.filter_append, List.map_append]
      have fr : Frm [D] H' (upd H' D (.lst (ys ++ [y]))) := .lst (s' _ _ e) (by simp)
      refine Paired.app (paired_imp (fun a b h => sG (sG h (.of_same s')) fr) q) ?_
      simp only [List.filter_cons, hp, if_true, List.filter_nil, List.map_cons, List.map_nil]
      exact .cons (sG gy fr) .nil
    · rw [e2, List.filter_append, List.map_append]
      simp only [List.filter_cons, hp, List.filter_nil, List.append_nil, Bool.false_eq_true, if_false, List.map_nil]
      exact paired_imp (fun a b h => sG h (.of_same s')) q
  · rw [List.take_of_length_le (by omega)] at q
    exact hd H ys s e q
end
noncomputable def nD (ks : List Nat) : PyData := .list (ks.map fun k : Nat => PyData.int k)
end My

set_option Elab.async false
set_option linter.all false
set_option maxRecDepth 100000

namespace L2
open PySem PySem.Spec PyProof.Rows
section
variable {X : Cx}
end
end L2

set_option Elab.async false
set_option linter.all false
set_option maxRecDepth 100000

namespace My
open PySem PySem.Spec PyProof.Rows L2

noncomputable def atomD : PyData → Bool
  | .none => true
  | .bool _ => true
  | .int _ => true
  | .str x => decide (x.length ≤ 1000) && PyData.strOk x
  | _ => false
noncomputable def Gd (n : Nat) : Nat → PyData → Bool
  | 0, d => atomD d
  | k + 1, .list ds => decide (ds.length ≤ n) && ds.all (Gd n k)
  | k + 1, .tuple ds => decide (ds.length ≤ n) && ds.all (Gd n k)
  | _ + 1, d => atomD d
theorem gd_tup {n k : Nat} {ds : List PyData} : Gd n (k + 1) (.tuple ds) = true ↔ ds.length ≤ n ∧ ∀ d ∈ ds, Gd n k d = true := by
  rw [Gd, Bool.and_eq_true, decide_eq_true_eq, List.all_eq_true]
theorem gd_lst {n k : Nat} {ds : List PyData} : Gd n (k + 1) (.list ds) = true ↔ ds.length ≤ n ∧ ∀ d ∈ ds, Gd n k d = true := by
  rw [Gd, Bool.and_eq_true, decide_eq_true_eq, List.all_eq_true]
theorem gd_atom {n k : Nat} {d : PyData} (h : atomD d = true) : Gd n k d = true := by
  cases k with
  | zero => exact h
  | succ k => cases d <;> first | exact h | cases h
theorem gd_mono {n n' : Nat} (hn : n ≤ n') : ∀ {k k' : Nat} {d : PyData}, k ≤ k' → Gd n k d = true → Gd n' k' d = true
  | 0, k', d, _, h => gd_atom h
  | k + 1, 0, d, hk, _ => absurd hk (by omega)
  | k + 1, k' + 1, .tuple ds, hk, h => by
    obtain ⟨a, b⟩ := gd_tup.mp h
    exact gd_tup.mpr ⟨by omega, fun d hd => gd_mono hn (by omega) (b d hd)⟩
  | k + 1, k' + 1, .list ds, hk, h => by
    obtain ⟨a, b⟩ := gd_lst.mp h
    exact gd_lst.mpr ⟨by omega, fun d hd => gd_mono hn (by omega) (b d hd)⟩
  | k + 1, k' + 1, .none, hk, h => rfl
  | k + 1, k' + 1, .bool b, hk, h => rfl
  | k + 1, k' + 1, .int i, hk, h => rfl
  | k + 1, k' + 1, .str x, hk, h => h
  | k + 1, k' + 1, .dict _, hk, h => by cases h
theorem atom_eas {d : PyData} (k : Nat) (h : atomD d = true) : Eas k d := by
  cases d with
  | none => exact .non k
  | bool b => exact ⟨rfl, rfl, rfl, Nat.zero_le _⟩
  | int i => exact .int k i
  | str x =>
    simp only [atomD, Bool.and_eq_true, decide_eq_true_eq] at h
    exact ⟨h.2, decide_eq_true h.1, rfl, Nat.zero_le _⟩
  | _ => cases h
theorem gd_eas {n : Nat} (hn : n ≤ 1000) : ∀ {k : Nat} {d : PyData}, Gd n k d = true → Eas k d
  | 0, d, h => atom_eas 0 h
  | k + 1, .tuple ds, h => by
    obtain ⟨a, b⟩ := gd_tup.mp h
    exact .tup (by omega) fun d hd => gd_eas hn (b d hd)
  | k + 1, .list ds, h => by
    obtain ⟨a, b⟩ := gd_lst.mp h
    exact .lst (by omega) fun d hd => gd_eas hn (b d hd)
  | k + 1, .none, h => .non _
  | k + 1, .bool b, h => ⟨rfl, rfl, rfl, Nat.zero_le _⟩
  | k + 1, .int i, h => .int _ i
  | k + 1, .str x, h => atom_eas _ h
  | k + 1, .dict _, h => by cases h
theorem gd_str {n k : Nat} {x : Str} (h : WordS x) : Gd n k (.str x) = true := gd_atom (by
  have h4 := (Eas.word 0 h).can
  have h5 := h.hi
  simp only [atomD, Bool.and_eq_true, decide_eq_true_eq]
  exact ⟨by omega, h4⟩)

noncomputable def strOf : PyData → Str
  | .str x => x
  | _ => ""
noncomputable def nameIn (cols : Cols) : PyData → Bool
  | .str x => decide (x ∈ cols.map (·.1))
  | _ => false
noncomputable def areColsD (cols : Cols) (lo hi : Nat) : PyData → Bool
  | .tuple ds => decide (lo ≤ ds.length) && decide (ds.length ≤ hi) && ds.all (nameIn cols) && decide ((ds.map strOf).Nodup)
  | _ => false
noncomputable def kindAt (cols : Cols) : PyData → Option Str
  | .str x => (cols.find? fun c => decide (c.1 = x)).map (·.2)
  | _ => none
noncomputable def valD (k : Str) : PyData → Bool
  | .int i => decide (k = "number") && (decide (-999 ≤ i) && decide (i ≤ 999))
  | .str x => decide (k ≠ "number") && (decide (k = "word") && wordV (.str x))
  | _ => false
noncomputable def nonD : PyData → Bool
  | .none => true
  | _ => false
noncomputable def isW (w : Str) : PyData → Bool
  | .str x => decide (x = w)
  | _ => false
noncomputable def boundsD (k : Str) (a b : PyData) : Bool := !(nonD a && nonD b) && ((nonD a || valD k a) && (nonD b || valD k b))
noncomputable def condL (cols : Cols) : List PyData → Bool
  | [c, w, x] => match kindAt cols c with
    | none => false
    | some k => isW "is" w && valD k x
  | [c, w, x, y] => match kindAt cols c with
    | none => false
    | some k => isW "from" w && boundsD k x y
  | _ => false
noncomputable def condD (cols : Cols) : PyData → Bool
  | .tuple ds => condL cols ds
  | _ => false
noncomputable def headOf : PyData → Str
  | .tuple (c :: _) => strOf c
  | _ => ""
noncomputable def condsD (cols : Cols) : PyData → Bool
  | .tuple ds => decide (ds.length ≤ 6) && ds.all (condD cols) && decide ((ds.map headOf).Nodup)
  | _ => false
theorem isVal_dt {H : Hp} {v : V} {d : PyData} (h : Dt H v d) (k : Str) : isVal k v = valD k d := by
  unfold isVal
  cases h with
  | int i =>
    by_cases c : k = "number"
    · rw [if_pos c]; show _ = (decide (k = "number") && _); rw [decide_eq_true c]; rfl
    · rw [if_neg c]
      show _ = (decide (k = "number") && _)
      rw [decide_eq_false c]
      split <;> rfl
  | str x =>
    by_cases c : k = "number"
    · rw [if_pos c]; show _ = (decide (k ≠ "number") && _); rw [decide_eq_false (fun z => z c)]; rfl
    · rw [if_neg c]
      show _ = (decide (k ≠ "number") && (decide (k = "word") && _))
      rw [decide_eq_true c]
      by_cases c2 : k = "word"
      · rw [if_pos c2, decide_eq_true c2]; rfl
      · rw [if_neg c2, decide_eq_false c2]; rfl
  | _ => split <;> first | rfl | (split <;> rfl)

noncomputable def ColAt (H : Hp) (v : V) (c : Str × Str) : Prop := ∃ t, v = .ref t ∧ H t = some (.tup [.str c.1, .str c.2])
theorem ColAt.frm {g : List Addr} {H H' : Hp} {v : V} {c : Str × Str} (h : ColAt H v c) (F : Frm g H H') : ColAt H' v c := by
  obtain ⟨t, e, h⟩ := h
  exact ⟨t, e, F.tups _ _ h⟩
theorem FormAt.cols {H : Hp} {a : Addr} {cols : Cols} (h : FormAt H a cols) : ∃ xs, H a = some (.tup xs) ∧ Paired (ColAt H) xs cols := by
  obtain ⟨ts, ea, lt, ft⟩ := h.ex
  refine ⟨_, ea, paired_idx (by rw [List.length_map]; exact lt) fun i v c h1 h2 => ?_⟩
  rw [List.getElem?_map] at h1
  obtain ⟨t, ht, rfl⟩ := Option.map_eq_some_iff.mp h1
  exact ⟨t, rfl, ft i t c ht h2⟩
theorem eqv_str_no {x : Str} {d : PyData} (h : isStrD d = false) : PyData.eqv (.str x) d = false := by
  cases d with
  | str z => cases h
  | _ => rfl
theorem kindAt_no {cols : Cols} {d : PyData} (h : isStrD d = false) : kindAt cols d = none := by
  cases d with
  | str z => cases h
  | _ => rfl
theorem kindAt_eq (cols : Cols) (d : PyData) : kindAt cols d = ((cols.filter fun c => PyData.eqv (.str c.1) d).map (·.2)).head? := by
  cases hs : isStrD d with
  | true =>
    cases d with
    | str x =>
      have e : ∀ c : Str × Str, PyData.eqv (.str c.1) (.str x) = decide (c.1 = x) := fun c => by
        by_cases h : c.1 = x <;> simp [PyData.eqv, h]
      show (cols.find? fun c => decide (c.1 = x)).map (·.2) = _
      rw [show (fun c : Str × Str => PyData.eqv (.str c.1) (.str x)) = fun c => decide (c.1 = x) from funext e, List.head?_map, List.head?_filter]
    | _ => cases hs
  | false =>
    rw [kindAt_no hs]
    have e : (cols.filter fun c => PyData.eqv (.str c.1) d) = [] := List.filter_eq_nil_iff.mpr fun c _ => by rw [eqv_str_no hs]; exact Bool.false_ne_true
    rw [e]; rfl
theorem inS_no {v : V} {ws : List Str} (h : ∀ z, eqV (.str z) v = false) : inV v (ws.map V.str) = false := by
  unfold inV
  rw [List.any_eq_false]
  intro y hy
  obtain ⟨z, _, rfl⟩ := List.mem_map.mp hy
  rw [h z]; exact Bool.false_ne_true
theorem strs_of {H : Hp} : ∀ {xs : List V} {ds : List PyData}, DtAll H xs ds → (∀ d ∈ ds, isStrD d = true) → ∃ ws : List Str, ds = ws.map PyData.str ∧ xs = ws.map V.str
  | _, _, .nil, _ => ⟨[], rfl, rfl⟩
  | _, _, .cons h r, f => by
    obtain ⟨ws, e1, e2⟩ := strs_of r fun d hd => f d (List.mem_cons_of_mem _ hd)
    have := f _ List.mem_cons_self
    cases h with
    | str x => exact ⟨x :: ws, by rw [e1]; rfl, by rw [e2]; rfl⟩
    | _ => cases this
theorem nameIn_str {cols : Cols} {d : PyData} (h : nameIn cols d = true) : isStrD d = true := by
  cases d with
  | str x => rfl
  | _ => cases h
theorem strs_back (ws : List Str) : (ws.map PyData.str).map strOf = ws := by
  rw [List.map_map]
  exact (List.map_congr_left fun _ _ => rfl).trans (List.map_id _)
theorem inr_nodup (ws : List Str) : ((ws.map (Sum.inr : Str → Key)).reverse).Nodup ↔ ws.Nodup := by
  rw [(List.reverse_perm _).nodup_iff, List.Nodup, List.pairwise_map]
  exact ⟨fun h => List.Pairwise.imp (fun h z => h (by rw [z])) h, fun h => List.Pairwise.imp (fun h z => h (Sum.inr.inj z)) h⟩
theorem dcnt_iff (ws : List Str) : dcnt ((ws.map (Sum.inr : Str → Key)).reverse) = ws.length ↔ ws.Nodup := by
  have := dcnt_full ((ws.map (Sum.inr : Str → Key)).reverse)
  rw [List.length_reverse, List.length_map] at this
  rw [this, inr_nodup]
theorem setlen_iff (ws : List Str) : decide (V.int (dcnt ((List.range (ws.map (Sum.inr : Str → Key)).length).map fun i => (ws.map (Sum.inr : Str → Key)).getD i (.inl 0)).reverse : Nat) = V.int ((ws.map V.str).length : Nat)) = decide ws.Nodup := by
  have e : ((List.range (ws.map (Sum.inr : Str → Key)).length).map fun i => (ws.map (Sum.inr : Str → Key)).getD i (.inl 0)) = ws.map Sum.inr := by
    refine List.ext_getElem (by simp) fun i h1 h2 => ?_
    simp only [List.getElem_map, List.getElem_range, List.getD_eq_getElem?_getD, List.getElem?_eq_getElem h2, Option.getD_some]
  rw [e, List.length_map]
  refine decide_eq_decide.mpr ⟨fun h => (dcnt_iff ws).mp (by injection h with h; omega), fun h => by rw [(dcnt_iff ws).mpr h]⟩
theorem Dt.isNon {H : Hp} {v : V} {d : PyData} (h : Dt H v d) : decide (v = V.non) = nonD d := by
  cases h <;> first | rfl | (exact decide_eq_false (fun z => by cases z))
theorem eqv_isW (w : Str) (d : PyData) : PyData.eqv d (.str w) = isW w d := by
  cases d with
  | str x => by_cases h : x = w <;> simp [PyData.eqv, isW, h]
  | _ => rfl
theorem in34 (n : Nat) : inV (V.int (n : Int)) [V.int 3, V.int 4] = decide (n = 3 ∨ n = 4) := by
  have e : ∀ i j : Int, eqV (V.int i) (V.int j) = decide (i = j) := fun i j => rfl
  unfold inV
  rw [List.any_cons, List.any_cons, e, e, Bool.eq_iff_iff]
  simp only [List.any_nil, Bool.or_false, Bool.or_eq_true, decide_eq_true_eq]
  omega
theorem len_three {α : Type} : ∀ {xs : List α}, xs.length = 3 → ∃ x y z, xs = [x, y, z]
  | [x, y, z], _ => ⟨x, y, z, rfl⟩
theorem len_four {α : Type} : ∀ {xs : List α}, xs.length = 4 → ∃ x y z w, xs = [x, y, z, w]
  | [x, y, z, w], _ => ⟨x, y, z, w, rfl⟩
theorem dt3 {H : Hp} {xs : List V} {a b c : PyData} (r : DtAll H xs [a, b, c]) : ∃ x y z, xs = [x, y, z] ∧ Dt H x a ∧ Dt H y b ∧ Dt H z c := by
  cases r with
  | cons h1 r => cases r with
    | cons h2 r => cases r with
      | cons h3 r => cases r; exact ⟨_, _, _, rfl, h1, h2, h3⟩
theorem dt4 {H : Hp} {xs : List V} {a b c d : PyData} (r : DtAll H xs [a, b, c, d]) : ∃ x y z w, xs = [x, y, z, w] ∧ Dt H x a ∧ Dt H y b ∧ Dt H z c ∧ Dt H w d := by
  cases r with
  | cons h1 r =>
    obtain ⟨x, y, z, e, q⟩ := dt3 r
    exact ⟨_, x, y, z, by rw [e], h1, q⟩
theorem eas_in {n : Nat} {ds : List PyData} (h : Eas n (.tuple ds)) {d : PyData} (hd : d ∈ ds) : Eas n d := by
  cases n with
  | zero => exact absurd h Eas.no0t
  | succ n => exact (h.of_tup.2 d hd).mono (Nat.le_succ n)
theorem condD_len {cols : Cols} {ds : List PyData} (h : ¬ (ds.length = 3 ∨ ds.length = 4)) : condD cols (.tuple ds) = false := by
  match ds with
  | [] => rfl
  | [_] => rfl
  | [_, _] => rfl
  | [_, _, _] => exact absurd (.inl rfl) h
  | [_, _, _, _] => exact absurd (.inr rfl) h
  | _ :: _ :: _ :: _ :: _ :: _ => rfl
theorem cond_head {cols : Cols} {d : PyData} (h : condD cols d = true) : ∃ r, d = .tuple (.str (headOf d) :: r) := by
  cases d with
  | tuple ds =>
    have key : ∀ c : PyData, ∀ r : List PyData, kindAt cols c ≠ none → ∃ r', PyData.tuple (c :: r) = .tuple (.str (headOf (.tuple (c :: r))) :: r') := fun c r q => by
      cases c with
      | str x => exact ⟨r, rfl⟩
      | _ => exact absurd rfl q
    match ds, h with
    | [c, w, x], h =>
      refine key c _ fun z => ?_
      have h : (match kindAt cols c with | none => false | some k => isW "is" w && valD k x) = true := h
      rw [z] at h; cases h
    | [c, w, x, y], h =>
      refine key c _ fun z => ?_
      have h : (match kindAt cols c with | none => false | some k => isW "from" w && boundsD k x y) = true := h
      rw [z] at h; cases h
  | _ => cases h
theorem putK_any (kvs : List (Key × V)) (k : Key) (v : V) (q : Key) : ((putK kvs k v).any fun kv => decide (kv.1 = q)) = (decide (k = q) || kvs.any fun kv => decide (kv.1 = q)) := by
  unfold putK
  split
  · rename_i h
    have e : ((kvs.map fun kv => if kv.1 = k then (kv.1, v) else kv).any fun kv => decide (kv.1 = q)) = kvs.any fun kv => decide (kv.1 = q) := by
      rw [List.any_map]
      congr 1
      funext kv
      show decide ((if kv.1 = k then (kv.1, v) else kv).1 = q) = decide (kv.1 = q)
      split <;> rfl
    rw [e]
    by_cases c : k = q
    · subst c; rw [h]; simp
    · rw [decide_eq_false c, Bool.false_or]
  · rw [List.any_append, Bool.or_comm]
    congr 1
    rw [List.any_cons, List.any_nil, Bool.or_false]
theorem putK_len (kvs : List (Key × V)) (k : Key) (v : V) : (putK kvs k v).length = if (kvs.any fun kv => decide (kv.1 = k)) = true then kvs.length else kvs.length + 1 := by
  unfold putK
  split <;> simp
structure CfOk (cols : Cols) : Prop where
  c1 : 1 ≤ cols.length
  c6 : cols.length ≤ 6
  kd : Kinds cols
  nm : ∀ c ∈ cols, WordS c.1
  nd : (cols.map (·.1)).Nodup
theorem merge_kind {cols : Cols} (h : (cols.map (·.1)).Nodup) (x : Str) : valV (mergeK [] (cols.map fun c => ((Sum.inr c.1 : Key), V.str c.2))) (.inr x) = (kindAt cols (.str x)).map V.str := by
  show _ = ((cols.find? fun c => decide (c.1 = x)).map (·.2)).map V.str
  cases hf : cols.find? fun c => decide (c.1 = x) with
  | none =>
    rw [merge_keep cols [] (fun z => by
      obtain ⟨c, hc, e⟩ := List.mem_map.mp z
      have := List.find?_eq_none.mp hf c hc
      exact this (decide_eq_true e))]
    rfl
  | some c =>
    have e1 : c.1 = x := by simpa using List.find?_some hf
    obtain ⟨i, hi, e2⟩ := List.getElem_of_mem (List.mem_of_find?_eq_some hf)
    exact merge_val cols [] i h (by rw [List.getElem?_eq_getElem hi, e2, ← e1])
theorem eqvL_nil (es : List PyData) : PyData.eqv (.list es) (.list []) = decide (es = []) := by
  cases es <;> simp [PyData.eqv, PyData.eqvAll]
theorem strsG_dt (H : Hp) : ∀ ws : List Str, DtAll H (ws.map V.str) (ws.map PyData.str)
  | [] => .nil
  | _ :: r => .cons (.str _) (strsG_dt H r)
noncomputable def sp_kind_of : Sp := fun vs H Q _ => ∃ (a : Addr) (v : V) (cols : Cols) (d : PyData) (n : Nat), vs = [.ref a, v] ∧ FormAt H a cols ∧ CfOk cols ∧ Dt H v d ∧ Eas n d ∧ n ≤ 60 ∧ ∀ H', Same H H' → Q (match kindAt cols d with | none => .non | some k => .str k) H'
noncomputable def sp_are_columnsD : Sp := fun vs H Q _ => ∃ (a : Addr) (v : V) (cols : Cols) (d : PyData) (lo hi n : Nat), vs = [.ref a, v, .int lo, .int hi] ∧ FormAt H a cols ∧ CfOk cols ∧ Dt H v d ∧ Eas n d ∧ hi ≤ 10 ∧ ∀ H', Same H H' → Q (.bl (areColsD cols lo hi d)) H'
noncomputable def sp_are_bounds : Sp := fun vs H Q _ => ∃ (k : Str) (v u : V) (d e : PyData) (n : Nat), vs = [.str k, v, u] ∧ Dt H v d ∧ Dt H u e ∧ Eas n d ∧ Eas n e ∧ ∀ H', Same H H' → Q (.bl (boundsD k d e)) H'
noncomputable def sp_is_condition : Sp := fun vs H Q _ => ∃ (a : Addr) (v : V) (cols : Cols) (d : PyData) (n : Nat), vs = [.ref a, v] ∧ FormAt H a cols ∧ CfOk cols ∧ Dt H v d ∧ Eas n d ∧ n ≤ 50 ∧ ∀ H', Same H H' → Q (.bl (condD cols d)) H'
noncomputable def sp_by_columnD : Sp := fun vs H Q _ => ∃ (a : Addr) (xs : List V) (ds : List PyData) (ws : List Str), vs = [.ref a] ∧ H a = some (.tup xs) ∧ DtAll H xs ds ∧ ds.length ≤ 10 ∧ Paired (fun d w => ∃ r, d = PyData.tuple (.str w :: r)) ds ws ∧ ∀ p kvs H', Same H H' → H' p = some (.dK kvs) → kvs.length = dcnt ((ws.map Sum.inr).reverse) → Q (.ref p) H'
noncomputable def sp_are_conditions : Sp := fun vs H Q _ => ∃ (a : Addr) (v : V) (cols : Cols) (d : PyData) (n : Nat), vs = [.ref a, v] ∧ FormAt H a cols ∧ CfOk cols ∧ Dt H v d ∧ Eas n d ∧ n ≤ 50 ∧ ∀ H', Same H H' → Q (.bl (condsD cols d)) H'
end My

set_option Elab.async false
set_option linter.all false
set_option maxRecDepth 100000

namespace My
open PySem PySem.Spec PyProof.Rows L2
noncomputable def oD : Option Key → PyData
  | none => .none
  | some k => dK k
noncomputable def cnD : Cn → List PyData
  | .is w v => [.str w, .str "is", dK v]
  | .frm w lo hi => [.str w, .str "from", oD lo, oD hi]
noncomputable def firD : Option Nat → PyData
  | none => .none
  | some n => .int n
noncomputable def askDat (a : Ask) : PyData := .tuple [.tuple (a.wants.map .str), .tuple (a.conds.map fun c => .tuple (cnD c)), .tuple (a.order.map .str), firD a.first]
theorem key_dt (H : Hp) (k : Key) : Dt H (kV k) (dK k) := by
  cases k with
  | inl i => exact .int i
  | inr x => exact .str x
theorem oD_dt (H : Hp) (o : Option Key) : Dt H (oV o) (oD o) := by
  cases o with
  | none => exact .non
  | some k => exact key_dt H k
theorem cn_dt (H : Hp) (c : Cn) : DtAll H (cnV c) (cnD c) := by
  cases c with
  | is w v => exact .cons (.str _) (.cons (.str _) (.cons (key_dt H v) .nil))
  | frm w lo hi => exact .cons (.str _) (.cons (.str _) (.cons (oD_dt H lo) (.cons (oD_dt H hi) .nil)))
theorem key_gd {n k : Nat} {q : Key} (h : keyOk q) : Gd n k (dK q) = true := by
  cases q with
  | inl i => exact gd_atom rfl
  | inr x => exact gd_str h
theorem kind_val {kd : Str} {q : Key} (h : kindOf q = kd) (ok : keyOk q) : valD kd (dK q) = true := by
  cases q with
  | inl i =>
    subst h
    have ok : -999 ≤ i ∧ i ≤ 999 := ok
    show (decide (("number" : Str) = "number") && (decide (-999 ≤ i) && decide (i ≤ 999))) = true
    rw [decide_eq_true ok.1, decide_eq_true ok.2]; decide +kernel
  | inr x =>
    subst h
    have ok : WordS x := ok
    show (decide (("word" : Str) ≠ "number") && (decide (("word" : Str) = "word") && wordV (.str x))) = true
    rw [show wordV (.str x) = true from ok.b]; decide +kernel
theorem kindAt_at {cols : Cols} (h : (cols.map (·.1)).Nodup) {i : Nat} {w kd : Str} (e : cols[i]? = some (w, kd)) : kindAt cols (.str w) = some kd := by
  have h1 := merge_kind h w
  rw [merge_val cols [] i h e] at h1
  cases hk : kindAt cols (.str w) with
  | none => rw [hk] at h1; cases h1
  | some k => rw [hk] at h1; injection h1 with h1; injection h1 with h1; rw [h1]
theorem cond_good {cols : Cols} (hn : (cols.map (·.1)).Nodup) {c : Cn} {i : Nat} {kd : Str} (e : cols[i]? = some (c.col, kd)) (hk : CnKd kd c) : condD cols (.tuple (cnD c)) = true := by
  have ka := kindAt_at hn e
  cases c with
  | is w v =>
    show (match kindAt cols (.str w) with | none => false | some k => isW "is" (.str "is") && valD k (dK v)) = true
    rw [show kindAt cols (.str w) = some kd from ka]
    show (isW "is" (.str "is") && valD kd (dK v)) = true
    rw [kind_val hk.1 hk.2]; decide +kernel
  | frm w lo hi =>
    show (match kindAt cols (.str w) with | none => false | some k => isW "from" (.str "from") && boundsD k (oD lo) (oD hi)) = true
    rw [show kindAt cols (.str w) = some kd from ka]
    show (isW "from" (.str "from") && boundsD kd (oD lo) (oD hi)) = true
    obtain ⟨h1, h2, h3⟩ := hk
    have nk : ∀ q : Key, nonD (dK q) = false := fun q => by cases q <;> rfl
    have e1 : (nonD (oD lo) || valD kd (oD lo)) = true := by
      cases lo with
      | none => rfl
      | some q => show (nonD (dK q) || valD kd (dK q)) = true; rw [kind_val (h1 q rfl).1 (h1 q rfl).2, Bool.or_true]
    have e2 : (nonD (oD hi) || valD kd (oD hi)) = true := by
      cases hi with
      | none => rfl
      | some q => show (nonD (dK q) || valD kd (dK q)) = true; rw [kind_val (h2 q rfl).1 (h2 q rfl).2, Bool.or_true]
    have e3 : (nonD (oD lo) && nonD (oD hi)) = false := by
      cases lo with
      | some q => show (nonD (dK q) && _) = false; rw [nk q]; rfl
      | none => cases hi with
        | some q => show (true && nonD (dK q)) = false; rw [nk q]; rfl
        | none => exact absurd h3 (by simp)
    have e4 : isW "from" (.str "from") = true := by decide +kernel
    rw [e4]
    unfold boundsD
    rw [e1, e2, e3]; rfl
theorem cols_good {cols : Cols} {ws : List Str} {lo hi : Nat} (h1 : lo ≤ ws.length) (h2 : ws.length ≤ hi) (h3 : ∀ w ∈ ws, w ∈ cols.map (·.1)) (h4 : ws.Nodup) : areColsD cols lo hi (.tuple (ws.map .str)) = true := by
  show (decide (lo ≤ (ws.map PyData.str).length) && decide ((ws.map PyData.str).length ≤ hi) && (ws.map PyData.str).all (nameIn cols) && decide (((ws.map PyData.str).map strOf).Nodup)) = true
  rw [strs_back, List.length_map, decide_eq_true h1, decide_eq_true h2, decide_eq_true h4, show (ws.map PyData.str).all (nameIn cols) = true from List.all_eq_true.mpr fun d hd => by
    obtain ⟨w, hw, rfl⟩ := List.mem_map.mp hd
    exact decide_eq_true (h3 w hw)]
  rfl
theorem ask_gd {cols : Cols} {a : Ask} (hco : CfOk cols) (h : AskOk cols a) : Gd 6 6 (askDat a) = true := by
  have hw : ∀ w, w ∈ cols.map (·.1) → WordS w := fun w m => by
    obtain ⟨c, hc, rfl⟩ := List.mem_map.mp m
    exact hco.nm c hc
  refine gd_tup.mpr ⟨by show 4 ≤ 6; decide, fun d hd => ?_⟩
  simp only [List.mem_cons, List.not_mem_nil, or_false] at hd
  rcases hd with rfl | rfl | rfl | rfl
  · refine gd_tup.mpr ⟨by rw [List.length_map]; exact h.w6, fun d hd => ?_⟩
    obtain ⟨w, m, rfl⟩ := List.mem_map.mp hd
    exact gd_str (hw w (h.wn w m))
  · refine gd_tup.mpr ⟨by rw [List.length_map]; exact h.cs.len, fun d hd => ?_⟩
    obtain ⟨c, m, rfl⟩ := List.mem_map.mp hd
    obtain ⟨i, kd, e1, e2⟩ := h.cs.ok c m
    have hc := hco.nm _ (List.mem_of_getElem? e1)
    cases c with
    | is w v =>
      refine gd_tup.mpr ⟨by show 3 ≤ 6; decide, fun d hd => ?_⟩
      replace hd : d ∈ [PyData.str w, .str "is", dK v] := hd
      simp only [List.mem_cons, List.not_mem_nil, or_false] at hd
      rcases hd with rfl | rfl | rfl
      · exact gd_str hc
      · exact gd_atom (by decide +kernel)
      · exact key_gd e2.2
    | frm w lo hi =>
      refine gd_tup.mpr ⟨by show 4 ≤ 6; decide, fun d hd => ?_⟩
      replace hd : d ∈ [PyData.str w, .str "from", oD lo, oD hi] := hd
      simp only [List.mem_cons, List.not_mem_nil, or_false] at hd
      have go : ∀ o : Option Key, (∀ k, o = some k → keyOk k) → Gd 6 3 (oD o) = true := fun o q => by
        cases o with
        | none => exact gd_atom rfl
        | some k => exact key_gd (q k rfl)
      rcases hd with rfl | rfl | rfl | rfl
      · exact gd_str hc
      · exact gd_atom (by decide +kernel)
      · exact go lo fun k e => (e2.1 k e).2
      · exact go hi fun k e => (e2.2.1 k e).2
  · refine gd_tup.mpr ⟨by rw [List.length_map]; have := h.o4; omega, fun d hd => ?_⟩
    obtain ⟨w, m, rfl⟩ := List.mem_map.mp hd
    exact gd_str (hw w (h.on w m))
  · cases a.first with
    | none => exact gd_atom rfl
    | some n => exact gd_atom rfl
end My

set_option Elab.async false
set_option linter.all false
set_option maxRecDepth 100000

namespace L2
open PySem PySem.W PyProof.Rows PySem.Spec My
section
variable {X : Cx}
theorem op_rep_strA : OpR X (binaryOp .Mult) (fun x y H Q => ∃ z n, x = .str z ∧ y = .int n ∧ 1 ≤ n ∧ n ≤ 1000 ∧ 0 < z.length ∧ z.length ≤ 1000 ∧ Q (.str ⟨(List.replicate n.toNat z.cps).foldl (· ++ ·) #[]⟩) H) := by
  constructor
  intro pins s σ H x y v u Q I rx ry h
  obtain ⟨z, n, rfl, rfl, h1, h2, h3, h4, q⟩ := h
  by_cases c : n = 1
  · subst c
    obtain ⟨t, rfl⟩ := rx
    obtain ⟨t', rfl⟩ := ry
    refine PySem.P.mul_str (by decide) (fun _ e => by cases e) (fun _ e => by cases e) ?_
    rw [if_neg (by decide), show ((1 : Int) == 1 || z.length == 0) = true from rfl, if_pos rfl]
    refine ⟨.str z, H, I, ⟨_, rfl⟩, ?_⟩
    have e : (⟨(List.replicate (1 : Int).toNat z.cps).foldl (· ++ ·) #[]⟩ : Str) = z := by
      cases z; simp
    rw [e] at q
    exact q
  · exact op_rep_str.run pins s σ H _ _ v u Q I rx ry ⟨z, n, rfl, rfl, by omega, h2, h3, h4, q⟩
end
end L2

set_option Elab.async false
set_option linter.all false
set_option maxRecDepth 100000

namespace L2
open PySem PySem.Spec PyProof.Rows
section
variable {prog : Program} {w : World} {A : Around} {E : Value → Shared → Prop}

end
section
variable {X : Cx}

end
end L2

set_option Elab.async false
set_option linter.all false
set_option maxRecDepth 100000

namespace My
open PySem PySem.Spec PyProof.Rows L2
structure ColsC (H : Hp) (ts : List Addr) (cols : Cols) : Prop where
  lt : ts.length = cols.length
  at_ : ∀ (j : Nat) (t : Addr) (c : Str × Str), ts[j]? = some t → cols[j]? = some c → H t = some (.tup [.str c.1, .str c.2])
theorem ColsC.snoc {H H' : Hp} {ts : List Addr} {cols : Cols} {t : Addr} {c : Str × Str} (h : ColsC H ts cols) (s : ∀ c xs, H c = some (.tup xs) → H' c = some (.tup xs)) (ht : H' t = some (.tup [.str c.1, .str c.2])) : ColsC H' (ts ++ [t]) (cols ++ [c]) := by
  refine ⟨by rw [List.length_append, List.length_append, h.lt]; rfl, fun j t' c' h1 h2 => ?_⟩
  by_cases hj : j < ts.length
  · rw [List.getElem?_append_left hj] at h1
    rw [List.getElem?_append_left (by rw [← h.lt]; exact hj)] at h2
    exact s _ _ (h.at_ j t' c' h1 h2)
  · have hj1 : j < (ts ++ [t]).length := (List.getElem?_eq_some_iff.mp h1).1
    rw [List.length_append] at hj1
    have hj2 : j = ts.length := by simp at hj1; omega
    subst hj2
    rw [List.getElem?_append_right (by omega)] at h1
    rw [List.getElem?_append_right (by rw [h.lt]; omega), h.lt] at h2
    simp at h1 h2
    rw [← h1, ← h2]; exact ht
noncomputable def sp_law_formC : Sp := fun vs H Q _ => ∃ (b : Addr), vs = [.ref b] ∧ Bag H b ∧ ∀ p cols H', FormAt H' p cols → CfOk cols → Eff b H H' → Q (.ref p) H'
end My

set_option Elab.async false
set_option linter.all false
set_option maxRecDepth 100000

namespace L2
open PySem PySem.W PyProof.Rows PySem.Spec
section
variable {X : Cx}

noncomputable def tFmt (te : TE) : TE := fun σ H Q => te σ H fun v H1 => (∃ x, v = .str x ∧ x.length ≤ sizeLine ∧ Q (.str x) H1) ∨ (∃ i : Int, v = .int i ∧ i.natAbs.log2 < 1920 ∧ Q (.str (toString i)) H1)
theorem pe_fmt {e : Expr} {te : TE} {pos : Pos} (he : PE X e te) : PE X (.FormattedValue e (-1) none pos) (tFmt te) := by
  constructor
  intro pins s σ H Q I h
  refine FormattedValue_plain (thn (he pins s σ H _ I h) fun v s1 ⟨x, H1, I1, r1, q1⟩ => ?_)
  rcases q1 with ⟨z, rfl, hz, q⟩ | ⟨i, rfl, hi, q⟩
  · obtain ⟨t, rfl⟩ := r1
    exact formatField_str (fun t' tk => ⟨.str z, H1, I1.tok _, ⟨_, rfl⟩, q⟩) hz
  · obtain ⟨t, rfl⟩ := r1
    exact wpAny_formatField_int hi ⟨.str _, H1, I1.tok _, ⟨_, rfl⟩, q⟩

structure PJ (X : Cx) (es : List Expr) (t : Str → TE) : Prop where
  run : ∀ (acc : Str) (pins : List (Addr × Obj)) (s : Shared) (σ : St) (H : Hp) (Q : VK), Inv X pins σ H s → t acc σ H Q → wpAny (model X.prog X.w) X.A (joinParts acc (evalEach es X.env)) (EP X pins σ Q) X.xe s
noncomputable def tJ0 : Str → TE := fun acc σ H Q => acc.length ≤ sizeLine ∧ Q (.str acc) H
noncomputable def tJ (t : TE) (ts : Str → TE) : Str → TE := fun acc σ H Q => t σ H fun v H1 => ∃ y, v = .str y ∧ (acc ++ y).length ≤ sizeLine ∧ ts (acc ++ y) σ H1 Q
theorem pj_nil : PJ X [] tJ0 := ⟨fun acc pins s σ H Q I ⟨hz, q⟩ => joinParts_nil ⟨.str acc, H, I.tok _, ⟨_, rfl⟩, q⟩ hz⟩
theorem pj_cons {e : Expr} {es : List Expr} {te : TE} {ts : Str → TE} (he : PE X e te) (hr : PJ X es ts) : PJ X (e :: es) (tJ te ts) := by
  constructor
  intro acc pins s σ H Q I h
  refine joinParts_cons (thn (he pins s σ H _ I h) fun v s1 ⟨x, H1, I1, r1, y, e1, hz, q1⟩ => ?_)
  subst e1
  obtain ⟨t, rfl⟩ := r1
  exact ⟨hz, hr.run _ pins s1 σ H1 Q I1 q1⟩
theorem pe_fstr {e1 e2 : Expr} {es : List Expr} {ts : Str → TE} {pos : Pos} (h : PJ X (e1 :: e2 :: es) ts) : PE X (.JoinedStr (e1 :: e2 :: es) pos) (ts Str.empty) :=
  ⟨fun pins s σ H Q I q => JoinedStr_many (h.run _ pins s σ H Q I q)⟩
end
end L2
namespace L2
open PySem PySem.W PyProof.Rows PySem.Spec
section
variable {prog : Program} {w : World} {A : Around} {E : Value → Shared → Prop} {s : Shared}

theorem star_items {t : Addr} {its : Array Value} {i : Nat} {Q : List Value → Shared → Prop} (hh : A.handled = none) (ht : IsTup s.heap t its) (hi : i ≤ its.size) (hz : its.size ≤ 10000)
    (hQ : ∀ (g : Heap) (tk : Nat), (∀ b o, b ≠ s.heap.objs.size → s.heap.get? b = some o → g.get? b = some o) →
      Q (its.toList.take i ++ [.ref g.objs.size]) { s with heap := g.push { cls := .type "list", data := .seq (its.toList.drop i).toArray }, toks := tk }) :
    wpAny (model prog w) A (unpackItems (.ref t) (i + 1) (some i)) Q E s := by
  obtain ⟨o0, ho0, hrest⟩ := id ht
  have far : t ≠ s.heap.objs.size := Nat.ne_of_lt (Heap.lt_size ho0)
  have tl : (its.toList.take i).length = i := by rw [List.length_take, Array.length_toList]; exact Nat.min_eq_left hi
  unfold unpackItems notIterableAtAll
  refine wpAny_bind (wpAny_bind (wpAny_specialOf ht.typeIs slot_tuple_iter.lookup (wpAny_pure ?_))); simp only [Bool.false_eq_true, if_false]
  refine wpAny_bind (wpAny_holding (iter_tuple ht (wpAny_bind (wpAny_holding (draw_tuple far i 0 _ _ ⟨_, Heap.get?_push_size _ rfl, rfl, rfl⟩ (ht.push _) (by omega) fun g1 it1 k1 => ?_)))))
  have ht1 := (ht.push { cls := .type "tuple_iterator", data := .fields #[.ref t, .int 0 0] }).extBut k1.extBut far
  rw [Nat.zero_add] at it1; rw [List.drop_zero, if_neg (by rw [tl]; exact Nat.lt_irrefl _)]
  obtain ⟨⟨o1, h1, _⟩, o2, h2, _⟩ := And.intro (id it1) (id ht1)
  refine wpAny_bind (wpAny_holding (kun_collect (s := { s with heap := g1 }) (.inr (.inr (.inr rfl))) (Walks.tuple (A := A.in1) hh s.heap.objs.size t far its) (fun _ _ z => z.1.typeIs) hi ⟨it1, ht1⟩ (Heap.lt_size h1) (Heap.lt_size h2) (fun g2 tk k2 => ?_) (Nat.le_trans hz (by decide))))
  have e0 : i + 1 - 1 - i = 0 := by omega
  dsimp only
  rw [e0, if_neg (Nat.not_lt_zero _), Nat.sub_zero, List.take_length, List.drop_length]
  refine wpAny_bind (wpAny_newList (wpAny_pure ?_) (by rw [List.length_drop, Array.length_toList]; exact Nat.le_trans (Nat.sub_le _ _) (Nat.le_trans hz (by decide))))
  rw [List.append_nil]
  exact hQ g2 tk fun b o nb e => k2 b o nb (k1.extBut b o nb (Heap.get?_push_of_some _ e))
end
section
variable {X : Cx}

noncomputable def gStar (K : PySem.W.Frag) (i : Nat) (t : TGs) : TG := fun v σ H Q => ∃ a xs, v = .ref a ∧ SqT K H a xs ∧ i ≤ xs.length ∧ xs.length ≤ 10000 ∧ ∀ p, H p = none → t (xs.take i ++ [.ref p]) σ (upd H p (.lst (xs.drop i))) Q
theorem pg_star {K : PySem.W.Frag} {es : List Expr} {k : Nat} {t : TGs} {i : Nat} {pos : Pos} (hc : X.calm = true) (h : PGs X es t) (hK : X.K = K := by rfl)
    (hn : (assignEach es X.env).length = i + 1 := by rfl) (hst : (assignEach es X.env).findIdx? (·.1) = some i := by rfl) : PG X (.Tuple es k pos) (gStar K i t) := by
  subst hK
  constructor
  intro pins s σ H v u Q I r hw
  obtain ⟨a, xs, e1, hq, hi, hz, hw⟩ := hw
  subst e1
  cases r
  obtain ⟨its, rv, ht, hz2⟩ := I.tuple hq
  have hl := rv.length
  rw [assign_Tuple]
  refine wpAny_bind (wpAny_standAt ?_)
  unfold unpack
  rw [hn, hst]
  refine wpAny_bind (wpAny_holding (star_items (I.ok.hd hc) ht (by simp; omega) (by simp; omega) fun g tk kp => ?_))
  have I1 : Inv X pins σ H { s with heap := g, toks := tk } := I.kept (t' := tk) fun b o e => kp b o (Nat.ne_of_lt (Heap.lt_size e)) e
  have rd : Vals (xs.drop i) (its.drop i) := Vals.drop i rv
  have I2 := I1.lnew (t' := tk) rd (by rw [List.length_drop]; exact Nat.le_trans (Nat.sub_le _ _) (Nat.le_trans hz (by decide)))
  refine h pins _ σ _ _ _ Q (by simpa using I2) ?_ (hw g.objs.size I1.fresh)
  have rt : Vals (xs.take i) (its.take i) := Vals.take i rv
  simpa using rt.append (.cons (show RelV (.ref g.objs.size) (.ref g.objs.size) from rfl) .nil)
end
end L2

set_option Elab.async false
set_option linter.all false
set_option maxRecDepth 1000000

namespace L2
open PySem PySem.W PyProof.Rows PySem.Spec
section
variable {X : Cx}
theorem mt_removeprefix : MtR X "str.removeprefix" (fun x xs H Q => ∃ a b, x = .str a ∧ xs = [.str b] ∧ a.length ≤ sizeLine ∧ Q (.str (Txt.removeprefix a b)) H) := by
  constructor
  intro pins s σ H x xs v us Q I rx rs h
  obtain ⟨a, b, rfl, rfl, hz, q⟩ := h
  obtain ⟨t, rfl⟩ := rx
  obtain ⟨u, rfl, t2, rfl⟩ := vals1 rs
  exact PySem.SC.removeprefix (fun t' k => ⟨.str _, H, I.tok _, ⟨_, rfl⟩, q⟩) hz
theorem pe_removeprefix {o e : Expr} {to te : TE} {apos pos : Pos} (ho : PE X o to) (he : PE X e te) (hs : starEach [e] X.env = [(false, eval e X.env)] := by rfl) (hbase : attributeBase o "removeprefix" X.env (eval o X.env) = eval o X.env := by rfl) (hline : (apos.endLine == pos.line) = true := by rfl) :
    PE X (.Call (.Attribute o "removeprefix" apos) [e] [] pos) (tM1 (fun x xs H Q => ∃ a b, x = .str a ∧ xs = [.str b] ∧ a.length ≤ sizeLine ∧ Q (.str (Txt.removeprefix a b)) H) to te) :=
  pe_m1 F.slot_str_removeprefix F.type_str_removeprefix mt_removeprefix ho he hs hbase hline
end
end L2
namespace My
open PySem PySem.Spec PyProof.Rows L2
noncomputable def numT (i : Int) : Str := Str.ofString (toString i)
noncomputable def numOk (i : Int) : Bool := decide (intText? (numT i) = some i) && (numT i != "-0") && decide ((numT i).length ≤ 4) && decide (1 ≤ (Txt.removeprefix (numT i) "-").length) && decide ((Txt.removeprefix (numT i) "-").length ≤ 3) && (Txt.removeprefix (numT i) "-").cps.toList.all (fun c => decide (48 ≤ c) && decide (c ≤ 57)) && (decide (Txt.removeprefix (numT i) "-" = "0") || ((Txt.removeprefix (numT i) "-").cps.toList.headD 0 != 48)) && (numT i).cps.toList.all (fun c => decide (c = 45) || (decide (48 ≤ c) && decide (c ≤ 57))) && decide (1 ≤ (numT i).length)
theorem num_all : ∀ n : _root_.Fin 1999, numOk ((n.val : Int) - 999) = true := by decide +kernel
structure NumTx (i : Int) : Prop where
  int : intText? (numT i) = some i
  ne : numT i ≠ "-0"
  l4 : (numT i).length ≤ 4
  d1 : 1 ≤ (Txt.removeprefix (numT i) "-").length
  d3 : (Txt.removeprefix (numT i) "-").length ≤ 3
  ds : ∀ c ∈ (Txt.removeprefix (numT i) "-").cps.toList, 48 ≤ c ∧ c ≤ 57
  hd : Txt.removeprefix (numT i) "-" = "0" ∨ (Txt.removeprefix (numT i) "-").cps.toList.headD 0 ≠ 48
  cs : ∀ c ∈ (numT i).cps.toList, c = 45 ∨ (48 ≤ c ∧ c ≤ 57)
  l1 : 1 ≤ (numT i).length
theorem num_tx {i : Int} (h : -999 ≤ i ∧ i ≤ 999) : NumTx i := by
  have e := num_all ⟨(i + 999).toNat, by omega⟩
  rw [show (((i + 999).toNat : Nat) : Int) - 999 = i by omega] at e
  unfold numOk at e
  simp only [Bool.and_eq_true, decide_eq_true_eq, List.all_eq_true, Bool.or_eq_true, bne_iff_ne, ne_eq] at e
  obtain ⟨⟨⟨⟨⟨⟨⟨⟨a, b⟩, c⟩, d⟩, e⟩, f⟩, g⟩, h⟩, j⟩ := e
  exact ⟨a, b, c, d, e, f, g, h, j⟩
noncomputable def keyS : Key → Str
  | .inl i => numT i
  | .inr x => x
noncomputable def boundS : Option Key → Str
  | none => ""
  | some k => keyS k
noncomputable def condS : Cn → Str
  | .is w k => Str.empty ++ w ++ "=" ++ keyS k
  | .frm w lo hi => Str.empty ++ w ++ "=" ++ boundS lo ++ ".." ++ boundS hi
noncomputable def colsS (ws : List Str) : Str := if ws = [] then "-" else Txt.join "+" ws
noncomputable def condsS (cs : List Cn) : Str := if cs = [] then "-" else Txt.join "," (cs.map condS)
theorem len_app (x y : Str) : (x ++ y).length = x.length + y.length := strLen_append x y
theorem key_len {k : Key} (h : keyOk k) : (keyS k).length ≤ 8 := by
  cases k with
  | inl i => have := (num_tx h).l4; show (numT i).length ≤ 8; omega
  | inr x => exact (show WordS x from h).hi
theorem bound_len {o : Option Key} (h : ∀ k, o = some k → keyOk k) : (boundS o).length ≤ 8 := by
  cases o with
  | none => decide
  | some k => exact key_len (h k rfl)

noncomputable def sp_show_columns : Sp := fun vs H Q _ => ∃ (a : Addr) (ws : List Str), vs = [.ref a] ∧ H a = some (.tup (ws.map V.str)) ∧ (∀ w ∈ ws, WordS w) ∧ ws.length ≤ 6 ∧ Q (.str (colsS ws)) H
noncomputable def sp_show_bound : Sp := fun vs H Q _ => ∃ (o : Option Key), vs = [oV o] ∧ (∀ k, o = some k → keyOk k) ∧ Q (.str (boundS o)) H
end My

set_option Elab.async false
set_option linter.all false
set_option maxRecDepth 100000

namespace L2
open PySem PySem.W PyProof.Rows PySem.Spec
section
variable {X : Cx}
theorem pgs_starred {e : Expr} {es : List Expr} {t : TG} {u : TGs} {p : Pos} (h1 : PG X e t) (h2 : PGs X es u)
    (hs : (assignEach (.Starred e p :: es) X.env).map (·.2) = assign e X.env :: (assignEach es X.env).map (·.2) := by rfl) : PGs X (.Starred e p :: es) (gCons t u) :=
  ⟨fun pins s σ H vs us Q I r ⟨v, vr, e1, h⟩ => by
    subst e1
    cases r with
    | cons r rr => rw [hs]; exact assignInOrder_cons (thn (h1 pins s σ H _ _ _ I r h) fun _ s1 ⟨σ1, H1, I1, q1⟩ => h2 pins s1 σ1 H1 _ _ Q I1 rr q1)⟩
end
end L2
namespace My
open PySem PySem.Spec PyProof.Rows L2
theorem sum_len {ws : List Str} {n : Nat} (h : ∀ w ∈ ws, w.length ≤ n) : (ws.map (·.length)).sum ≤ n * ws.length := by
  induction ws with
  | nil => simp
  | cons w r ih =>
    have h1 := h w List.mem_cons_self
    have h2 := ih fun x hx => h x (List.mem_cons_of_mem _ hx)
    rw [List.map_cons, List.sum_cons, List.length_cons, Nat.mul_succ]
    omega
theorem words_sum {ws : List Str} (h : ∀ w ∈ ws, WordS w) : (ws.map (·.length)).sum ≤ 8 * ws.length := sum_len fun w hw => (h w hw).hi
theorem log_small {n : Nat} (h : n ≤ 999) : n.log2 < 1920 := by
  rcases Nat.eq_zero_or_pos n with rfl | hp
  · decide
  · exact Nat.lt_of_lt_of_le ((Nat.log2_lt (by omega)).mpr (show n < 2 ^ 10 by omega)) (by decide)
theorem lit_len : (Str.empty).length = 0 ∧ ("=" : Str).length = 1 ∧ (".." : Str).length = 2 ∧ (" " : Str).length = 1 ∧ ("-" : Str).length = 1 ∧ ("," : Str).length = 1 ∧ ("+" : Str).length = 1 := by decide +kernel
theorem line {n : Nat} (h : n ≤ 1000) : n ≤ sizeLine := Nat.le_trans h (by decide)
theorem join_len (y : Str) : ∀ ws : List Str, (Txt.join y ws).length ≤ (ws.map (·.length)).sum + ws.length * y.length := by
  intro ws
  rw [TL.len_tl, TL.join_eq, TL.tl_join]
  induction ws with
  | nil => exact Nat.zero_le _
  | cons w r ih =>
    cases r with
    | nil => simp [TL.joinL, TL.tl, Str.length]
    | cons w2 r2 =>
      have e : TL.joinL (TL.tl y) (List.map TL.tl (w :: w2 :: r2)) = TL.tl w ++ (TL.tl y ++ TL.joinL (TL.tl y) (List.map TL.tl (w2 :: r2))) := by simp [TL.joinL]
      rw [e, List.length_append, List.length_append, ← TL.len_tl w, ← TL.len_tl y]
      have e2 : (List.map (fun x : Str => x.length) (w :: w2 :: r2)).sum = w.length + (List.map (fun x : Str => x.length) (w2 :: r2)).sum := rfl
      have e3 : (w :: w2 :: r2).length * y.length = (w2 :: r2).length * y.length + y.length := by rw [List.length_cons, Nat.succ_mul]
      rw [e2, e3]
      omega
theorem cols_len {ws : List Str} (h : ∀ w ∈ ws, WordS w) (l : ws.length ≤ 6) : (colsS ws).length ≤ 60 := by
  have h1 := words_sum h
  have h2 := join_len "+" ws
  obtain ⟨_, _, _, _, e5, _, e7⟩ := lit_len
  unfold colsS
  split
  · omega
  · rw [e7] at h2; omega
noncomputable def CnOk : Cn → Prop
  | .is w v => WordS w ∧ keyOk v
  | .frm w lo hi => WordS w ∧ (∀ k, lo = some k → keyOk k) ∧ (∀ k, hi = some k → keyOk k)
theorem CnsK.cnok {cols : Cols} {cs : List Cn} (hco : CfOk cols) (h : CnsK cols cs) : ∀ c ∈ cs, CnOk c := fun c hc => by
  obtain ⟨i, kd, hi, hk⟩ := h.ok c hc
  have hw : WordS c.col := hco.nm _ (List.mem_of_getElem? hi)
  cases c with
  | is w v => exact ⟨hw, hk.2⟩
  | frm w lo hi => exact ⟨hw, fun k e => (hk.1 k e).2, fun k e => (hk.2.1 k e).2⟩
theorem cond_len {c : Cn} (h : CnOk c) : (condS c).length ≤ 30 := by
  cases c with
  | is w v =>
    have h1 := h.1.hi
    have h2 := key_len h.2
    show (Str.empty ++ w ++ "=" ++ keyS v).length ≤ 30
    rw [len_app, len_app, len_app]
    have e1 : (Str.empty).length = 0 := by decide
    have e2 : ("=" : Str).length = 1 := by decide +kernel
    omega
  | frm w lo hi =>
    have h1 := h.1.hi
    have h2 := bound_len h.2.1
    have h3 := bound_len h.2.2
    show (Str.empty ++ w ++ "=" ++ boundS lo ++ ".." ++ boundS hi).length ≤ 30
    rw [len_app, len_app, len_app, len_app, len_app]
    have e1 : (Str.empty).length = 0 := by decide
    have e2 : ("=" : Str).length = 1 := by decide +kernel
    have e3 : (".." : Str).length = 2 := by decide +kernel
    omega
theorem conds_len {cs : List Cn} (h : ∀ c ∈ cs, CnOk c) (l : cs.length ≤ 6) : (condsS cs).length ≤ 200 := by
  have h1 := sum_len (ws := cs.map condS) (n := 30) fun w hw => by
    obtain ⟨c, hc, rfl⟩ := List.mem_map.mp hw
    exact cond_len (h c hc)
  have h2 := join_len "," (cs.map condS)
  obtain ⟨_, _, _, _, e5, e6, _⟩ := lit_len
  unfold condsS
  split
  · omega
  · rw [e6] at h2; rw [List.length_map] at h1 h2; omega
noncomputable def sp_show_condition : Sp := fun vs H Q _ => ∃ (v : V) (c : Cn), vs = [v] ∧ CnAt H v c ∧ CnOk c ∧ ∀ H', Same H H' → Q (.str (condS c)) H'
noncomputable def sp_show_conditions : Sp := fun vs H Q _ => ∃ (a : Addr) (cs : List Cn), vs = [.ref a] ∧ CnsAt H a cs ∧ (∀ c ∈ cs, CnOk c) ∧ cs.length ≤ 6 ∧ ∀ H', Same H H' → Q (.str (condsS cs)) H'
end My

set_option Elab.async false
set_option linter.all false
set_option maxRecDepth 100000

namespace My
open PySem PySem.Spec PyProof.Rows L2

noncomputable def plainC (c : Nat) : Prop := c = 45 ∨ (48 ≤ c ∧ c ≤ 57) ∨ (97 ≤ c ∧ c ≤ 122)
theorem word_cs {w : Str} (h : WordS w) : ∀ c ∈ TL.tl w, plainC c := fun c hc => .inr (.inr (h.all c hc))
theorem key_cs {k : Key} (h : keyOk k) : ∀ c ∈ TL.tl (keyS k), plainC c := fun c hc => by
  cases k with
  | inl i => rcases (num_tx h).cs c hc with z | z
             · exact .inl z
             · exact .inr (.inl z)
  | inr x => exact word_cs h c hc
theorem bound_cs {o : Option Key} (h : ∀ k, o = some k → keyOk k) : ∀ c ∈ TL.tl (boundS o), plainC c := fun c hc => by
  cases o with
  | none =>
    have e : TL.tl (boundS none) = [] := by unfold boundS; exact (by decide +kernel : TL.tl ("" : Str) = [])
    rw [e] at hc; cases hc
  | some k => exact key_cs (h k rfl) c hc
theorem lits : TL.tl ("=" : Str) = [61] ∧ TL.tl (".." : Str) = [46, 46] ∧ TL.tl ("," : Str) = [44] ∧ TL.tl ("+" : Str) = [43] ∧ TL.tl (" " : Str) = [32] ∧ TL.tl ("-" : Str) = [45] ∧ TL.tl Str.empty = [] := by decide +kernel
theorem lit256 : ("=" : Str).cps.all (· < 256) = true ∧ (".." : Str).cps.all (· < 256) = true ∧ ("," : Str).cps.all (· < 256) = true ∧ ("+" : Str).cps.all (· < 256) = true ∧ (" " : Str).cps.all (· < 256) = true := by decide +kernel
theorem cond_cs {c : Cn} (h : CnOk c) : ∀ x ∈ TL.tl (condS c), plainC x ∨ x = 61 ∨ x = 46 := fun x hx => by
  obtain ⟨e1, e2, _, _, _, _, e0⟩ := lits
  cases c with
  | is w v =>
    have hx : x ∈ TL.tl (Str.empty ++ w ++ "=" ++ keyS v) := hx
    simp only [TL.tl_append, e1, e0, List.mem_append, List.mem_singleton, List.not_mem_nil, false_or] at hx
    rcases hx with (hx | hx) | hx
    · exact .inl (word_cs h.1 x hx)
    · exact .inr (.inl hx)
    · exact .inl (key_cs h.2 x hx)
  | frm w lo hi =>
    have hx : x ∈ TL.tl (Str.empty ++ w ++ "=" ++ boundS lo ++ ".." ++ boundS hi) := hx
    simp only [TL.tl_append, e1, e2, e0, List.mem_append, List.mem_singleton, List.mem_cons, List.not_mem_nil, false_or, or_false] at hx
    rcases hx with (((hx | hx) | hx) | hx) | hx
    · exact .inl (word_cs h.1 x hx)
    · exact .inr (.inl hx)
    · exact .inl (bound_cs h.2.1 x hx)
    · exact .inr (.inr (by rcases hx with z | z <;> exact z))
    · exact .inl (bound_cs h.2.2 x hx)
theorem join_cs {P : Nat → Prop} {y : Str} (hy : ∀ c ∈ TL.tl y, P c) : ∀ {ws : List Str}, (∀ w ∈ ws, ∀ c ∈ TL.tl w, P c) → ∀ c ∈ TL.tl (Txt.join y ws), P c := by
  intro ws h
  rw [TL.join_eq, TL.tl_join]
  induction ws with
  | nil => intro c hc; cases hc
  | cons w r ih =>
    cases r with
    | nil => exact h w List.mem_cons_self
    | cons w2 r2 =>
      intro c hc
      rw [show TL.joinL (TL.tl y) (List.map TL.tl (w :: w2 :: r2)) = TL.tl w ++ (TL.tl y ++ TL.joinL (TL.tl y) (List.map TL.tl (w2 :: r2))) by simp [TL.joinL]] at hc
      rcases List.mem_append.mp hc with z | z
      · exact h w List.mem_cons_self c z
      · rcases List.mem_append.mp z with z | z
        · exact hy c z
        · exact ih (fun x hx => h x (List.mem_cons_of_mem _ hx)) c z
theorem split_cols {ws : List Str} (h : ∀ w ∈ ws, WordS w) (ne : ws ≠ []) : colsS ws = Txt.join "+" ws ∧ Txt.split (colsS ws) "+" = ws := by
  obtain ⟨_, _, _, e4, _, _, _⟩ := lits
  have e : colsS ws = Txt.join "+" ws := by unfold colsS; rw [if_neg ne]
  refine ⟨e, ?_⟩
  rw [e]
  refine TL.split_join (s := 43) (S := []) e4 lit256.2.2.2.1 ne fun p hp hm => ?_
  have := word_cs (h p hp) 43 hm
  unfold plainC at this
  omega
theorem split_conds {cs : List Cn} (h : ∀ c ∈ cs, CnOk c) (ne : cs ≠ []) : condsS cs = Txt.join "," (cs.map condS) ∧ Txt.split (condsS cs) "," = cs.map condS := by
  obtain ⟨_, _, e3, _, _, _, _⟩ := lits
  have e : condsS cs = Txt.join "," (cs.map condS) := by unfold condsS; rw [if_neg ne]
  refine ⟨e, ?_⟩
  rw [e]
  refine TL.split_join (s := 44) (S := []) e3 lit256.2.2.1 (fun z => ne (List.map_eq_nil_iff.mp z)) fun p hp hm => ?_
  obtain ⟨c, hc, rfl⟩ := List.mem_map.mp hp
  have := cond_cs (h c hc) 44 hm
  unfold plainC at this
  omega
theorem empty_app (w : Str) : Str.empty ++ w = w := TL.ext_tl (by rw [TL.tl_append, lits.2.2.2.2.2.2, List.nil_append])

theorem cut_is {w : Str} {v : Key} (h : CnOk (.is w v)) : Txt.partition (condS (.is w v)) "=" = (w, ("=" : Str), keyS v) ∧ Txt.partition (keyS v) ".." = (keyS v, Str.empty, Str.empty) := by
  obtain ⟨e1, e2, _⟩ := lits
  refine ⟨?_, TL.partition_none (s := 46) (S := [46]) e2 fun hm => ?_⟩
  · show Txt.partition (Str.empty ++ w ++ "=" ++ keyS v) "=" = _
    rw [empty_app]
    refine TL.partition_app (s := 61) (S := []) e1 fun hm => ?_
    have := word_cs h.1 61 hm
    unfold plainC at this
    omega
  · have := key_cs h.2 46 hm
    unfold plainC at this
    omega
theorem cut_frm {w : Str} {lo hi : Option Key} (h : CnOk (.frm w lo hi)) : Txt.partition (condS (.frm w lo hi)) "=" = (w, ("=" : Str), boundS lo ++ ".." ++ boundS hi) ∧ Txt.partition (boundS lo ++ ".." ++ boundS hi) ".." = (boundS lo, (".." : Str), boundS hi) := by
  obtain ⟨e1, e2, _⟩ := lits
  refine ⟨?_, TL.partition_app (s := 46) (S := [46]) e2 fun hm => ?_⟩
  · have e : condS (.frm w lo hi) = w ++ "=" ++ (boundS lo ++ ".." ++ boundS hi) := by
      show Str.empty ++ w ++ "=" ++ boundS lo ++ ".." ++ boundS hi = _
      rw [empty_app]
      refine TL.ext_tl ?_
      simp only [TL.tl_append, List.append_assoc]
    rw [e]
    refine TL.partition_app (s := 61) (S := []) e1 fun hm => ?_
    have := word_cs h.1 61 hm
    unfold plainC at this
    omega
  · have := bound_cs h.2.1 46 hm
    unfold plainC at this
    omega
theorem not_dash {cs : List Cn} (h : ∀ c ∈ cs, CnOk c) (ne : cs ≠ []) : condsS cs ≠ "-" := fun e => by
  have e2 := (split_conds h ne).2
  obtain ⟨c, r, rfl⟩ : ∃ c r, cs = c :: r := by cases cs with | nil => exact absurd rfl ne | cons c r => exact ⟨c, r, rfl⟩
  have m : 61 ∈ TL.tl (condsS (c :: r)) := by
    rw [(split_conds h ne).1, TL.join_eq, TL.tl_join]
    have hc : 61 ∈ TL.tl (condS c) := by
      cases c <;> simp [condS, TL.tl_append, lits.1]
    cases r with
    | nil => exact hc
    | cons c2 r2 => simp [TL.joinL, hc]
  rw [e, lits.2.2.2.2.2.1] at m
  simp at m
end My

set_option Elab.async false
set_option linter.all false
set_option maxRecDepth 100000

namespace My
open PySem PySem.Spec PyProof.Rows L2
theorem cns_dt0 {H : Hp} : ∀ {vs : List V} {cs : List Cn}, Paired (CnAt H) vs cs → DtAll H vs (cs.map fun c => .tuple (cnD c))
  | _, _, .nil => .nil
  | _, _, .cons ⟨p, e, h⟩ r => by subst e; exact .cons (.tup h (cn_dt _ _)) (cns_dt0 r)
theorem conds_good {cols : Cols} {cs : List Cn} (hn : (cols.map (·.1)).Nodup) (h : CnsK cols cs) : condsD cols (.tuple (cs.map fun c => .tuple (cnD c))) = true := by
  show (decide ((cs.map fun c => PyData.tuple (cnD c)).length ≤ 6) && (cs.map fun c => PyData.tuple (cnD c)).all (condD cols) && decide (((cs.map fun c => PyData.tuple (cnD c)).map headOf).Nodup)) = true
  have e : ((cs.map fun c => PyData.tuple (cnD c)).map headOf) = cs.map Cn.col := by
    rw [List.map_map]
    exact List.map_congr_left fun c _ => by cases c <;> rfl
  rw [e, List.length_map, decide_eq_true h.len, decide_eq_true h.nd, show (cs.map fun c => PyData.tuple (cnD c)).all (condD cols) = true from List.all_eq_true.mpr fun d hd => by
    obtain ⟨c, hc, rfl⟩ := List.mem_map.mp hd
    obtain ⟨i, kd, e1, e2⟩ := h.ok c hc
    exact cond_good hn e1 e2]
  rfl
theorem conds_gd {cols : Cols} {cs : List Cn} (hco : CfOk cols) (h : CnsK cols cs) : Gd 6 6 (.tuple (cs.map fun c => .tuple (cnD c))) = true := by
  obtain ⟨c0, r, e⟩ : ∃ c0 r, cols = c0 :: r := by
    cases hc : cols with
    | nil => have := hco.c1; rw [hc] at this; exact absurd this (by decide)
    | cons c r => exact ⟨c, r, rfl⟩
  have ao : AskOk cols ⟨[c0.1], cs, [], none⟩ := by
    refine ⟨Nat.le_refl _, by show 1 ≤ 6; decide, fun w hw => ?_, ?_, h, Nat.zero_le _, fun w hw => (by cases (show w ∈ ([] : List Str) from hw)), List.nodup_nil, fun n hn => (by cases (show (none : Option Nat) = some n from hn))⟩
    · have hw : w ∈ [c0.1] := hw
      rw [List.mem_singleton] at hw; subst hw; rw [e]; exact List.mem_cons_self
    · show [c0.1].Nodup
      simp
  have g := (gd_tup.mp (ask_gd hco ao)).2 (.tuple (cs.map fun c => .tuple (cnD c))) (by simp)
  refine gd_tup.mpr ⟨(gd_tup.mp g).1, fun d hd => ?_⟩
  exact gd_mono (Nat.le_refl _) (by decide) ((gd_tup.mp g).2 d hd)
theorem key_is {k : Key} {kd : Str} (h : kindOf k = kd) (ok : keyOk k) : isVal kd (kV k) = true := by
  rw [isVal_dt (H := fun _ => none) (key_dt _ k)]
  exact kind_val h ok
theorem key_tyd (H : Hp) {k : Key} (ok : keyOk k) : Tyd H (kV k) := (key_dt H k).tyd (by
  cases k with
  | inl i => exact (gd_eas (n := 1) (k := 1) (by decide) (gd_atom (d := .int i) rfl)).sh
  | inr x => exact (gd_eas (n := 1) (k := 1) (by decide) (gd_str (show WordS x from ok))).sh)
theorem key_ne {k : Key} (ok : keyOk k) : keyS k ≠ "" := fun e => by
  cases k with
  | inl i =>
    have h1 := (num_tx ok).l1
    have e : numT i = "" := e
    rw [e] at h1; exact absurd h1 (by decide +kernel)
  | inr x =>
    have h1 := (show WordS x from ok).lo
    have e : x = "" := e
    rw [e] at h1; exact absurd h1 (by decide +kernel)
theorem fig_all : ∀ n : _root_.Fin 10, decide (48 + n.val ∈ ("0123456789" : Str).cps.toList) = true := by decide +kernel
theorem fig_in {c : Nat} (h : 48 ≤ c ∧ c ≤ 57) : c ∈ ("0123456789" : Str).cps.toList := by
  have e := of_decide_eq_true (fig_all ⟨c - 48, by omega⟩)
  rw [show 48 + (c - 48) = c by omega] at e
  exact e
theorem cn_put {H : Hp} {D : Addr} {vs : List V} {o : HO} {v : V} {c : Cn} (h : CnAt H v c) (hD : H D = some (.lst vs)) : CnAt (upd H D o) v c := by
  obtain ⟨p, e, hp⟩ := h
  refine ⟨p, e, ?_⟩
  rw [upd_ne (fun z => by rw [z, hD] at hp; cases hp)]
  exact hp
theorem line1 {n : Nat} (h : n ≤ 1000) : n + 2 ≤ sizeLine := Nat.le_trans (Nat.add_le_add_right h 2) (by decide)
noncomputable def sp_are_figures : Sp := fun vs H Q _ => ∃ i : Int, vs = [.str (Txt.removeprefix (numT i) "-"), .int 3] ∧ -999 ≤ i ∧ i ≤ 999 ∧ ∀ H', Same H H' → Q (.bl true) H'
noncomputable def sp_text_of : Sp := fun vs H Q _ => ∃ x : Str, vs = [.str x] ∧ x.length ≤ 1000 ∧ Q (.str x) H
noncomputable def sp_read_number : Sp := fun vs H Q _ => ∃ i : Int, vs = [.str (numT i)] ∧ -999 ≤ i ∧ i ≤ 999 ∧ ∀ H', Same H H' → Q (.int i) H'
noncomputable def sp_read_value : Sp := fun vs H Q _ => ∃ (kd : Str) (k : Key), vs = [.str kd, .str (keyS k)] ∧ kindOf k = kd ∧ keyOk k ∧ ∀ H', Same H H' → Q (kV k) H'
noncomputable def sp_read_bound : Sp := fun vs H Q _ => ∃ (kd : Str) (o : Option Key), vs = [.str kd, .str (boundS o)] ∧ (∀ k, o = some k → kindOf k = kd ∧ keyOk k) ∧ ∀ H', Same H H' → Q (oV o) H'
noncomputable def sp_read_condition : Sp := fun vs H Q _ => ∃ (fo : Addr) (cols : Cols) (c : Cn) (i : Nat) (kd : Str), vs = [.ref fo, .str (condS c)] ∧ FormAt H fo cols ∧ CfOk cols ∧ CnOk c ∧ cols[i]? = some (c.col, kd) ∧ CnKd kd c ∧ ∀ v H', Same H H' → CnAt H' v c → Q v H'
noncomputable def sp_read_conditions : Sp := fun vs H Q _ => ∃ (fo : Addr) (cols : Cols) (cs : List Cn), vs = [.ref fo, .str (condsS cs)] ∧ FormAt H fo cols ∧ CfOk cols ∧ CnsK cols cs ∧ ∀ p H', Same H H' → CnsAt H' p cs → Q (.ref p) H'
end My

set_option Elab.async false
set_option linter.all false
set_option maxRecDepth 100000

namespace L2
open PySem PySem.W PyProof.Rows PySem.Spec
section
variable {X : Cx}

theorem op_rep_none : OpR X (binaryOp .Mult) (fun x y H Q => ∃ z, x = .str z ∧ y = .int 0 ∧ Q (.str Str.empty) H) := by
  constructor
  intro pins s σ H x y v u Q I rx ry h
  obtain ⟨z, rfl, rfl, q⟩ := h
  obtain ⟨t, rfl⟩ := rx
  obtain ⟨t', rfl⟩ := ry
  exact PySem.P.mul_str_none (by decide) (by decide) ⟨.str Str.empty, H, I.tok _, ⟨_, rfl⟩, q⟩
end
end L2
namespace My
open PySem PySem.Spec PyProof.Rows L2

noncomputable def nmS (cs : List Nat) (sp c : Nat) : Str := ⟨(cs.take sp ++ [c] ++ cs.drop sp).toArray⟩
theorem nm_word {cs : List Nat} {sp c : Nat} (h : ∀ x ∈ cs, 97 ≤ x ∧ x ≤ 122) (l : cs.length ≤ 5) (hc : 97 ≤ c ∧ c ≤ 122) : WordS (nmS cs sp c) := by
  have hl : (nmS cs sp c).length = cs.length + 1 := by
    show (cs.take sp ++ [c] ++ cs.drop sp).toArray.size = _
    rw [List.size_toArray, List.length_append, List.length_append, List.length_take, List.length_drop]
    show min sp cs.length + 1 + (cs.length - sp) = _
    omega
  refine ⟨by rw [hl]; omega, by rw [hl]; omega, fun x hx => ?_⟩
  have hx : x ∈ cs.take sp ++ [c] ++ cs.drop sp := hx
  rcases List.mem_append.mp hx with q | q
  · rcases List.mem_append.mp q with q | q
    · exact h x (List.mem_of_mem_take q)
    · rw [List.mem_singleton.mp q]; exact hc
  · exact h x (List.mem_of_mem_drop q)
theorem nm_inj {cs : List Nat} {sp c d : Nat} (e : nmS cs sp c = nmS cs sp d) : c = d := by
  have e := congrArg (fun s : Str => s.cps.toList) e
  have e : cs.take sp ++ [c] ++ cs.drop sp = cs.take sp ++ [d] ++ cs.drop sp := e
  rw [List.append_assoc, List.append_assoc] at e
  have e := List.append_cancel_left e
  injection e
theorem nm_cut {z : Str} {sp c : Nat} (h : sp ≤ z.length) : cutS z none (some (sp : Int)) ++ (⟨#[c]⟩ : Str) ++ cutS z (some (sp : Int)) none = nmS z.cps.toList sp c := by
  refine TL.ext_tl ?_
  rw [TL.tl_append, TL.tl_append]
  have hl : z.length = z.cps.toList.length := by rw [Array.length_toList]; rfl
  show ((z.cps.toList.drop (HT.sIx z.length 0 none)).take (HT.sIx z.length z.length (some (sp : Int)) - HT.sIx z.length 0 none)) ++ [c] ++ ((z.cps.toList.drop (HT.sIx z.length 0 (some (sp : Int)))).take (HT.sIx z.length z.length none - HT.sIx z.length 0 (some (sp : Int)))) = z.cps.toList.take sp ++ [c] ++ z.cps.toList.drop sp
  rw [HT.sIx_nat, HT.sIx_nat, HT.sIx_none, HT.sIx_none, Nat.min_eq_left h, List.drop_zero, Nat.sub_zero]
  congr 1
  exact List.take_of_length_le (by rw [List.length_drop]; omega)
theorem cut_lenS (z : Str) (lo hi : Option Int) : (cutS z lo hi).length ≤ z.length := cutS_length z lo hi
noncomputable def sp_law_names8 : Sp := fun vs H Q _ => ∃ (b : Addr) (n : Int), vs = [.ref b, .int n] ∧ Bag H b ∧ 1 ≤ n ∧ n ≤ 6 ∧ ∀ (p : Addr) (ws : List Str) (H' : Hp), H' p = some (.lst (ws.map V.str)) → p ≠ b → (ws.length : Int) = n → (∀ w ∈ ws, WordS w) → ws.Nodup → Eff b H H' → Q (.ref p) H'
end My

set_option Elab.async false
set_option linter.all false
set_option maxRecDepth 100000

namespace My
open PySem PySem.Spec PyProof.Rows L2
noncomputable def wideOk (m : Int) : Prop := m = 2 ∨ m = 5 ∨ m = 12 ∨ m = 1500
noncomputable def sp_law_someN : Sp := fun vs H Q _ => ∃ (b l : Addr) (ws : List Str) (few most : Nat), vs = [.ref b, .ref l, .int few, .int most] ∧ Bag H b ∧ H l = some (.lst (ws.map V.str)) ∧ 1 ≤ ws.length ∧ ws.length ≤ 6 ∧ few ≤ most ∧ most ≤ 6 ∧ ws.Nodup ∧ ∀ (p : Addr) (us : List Str) (H' : Hp), H' p = some (.tup (us.map V.str)) → min ws.length few ≤ us.length → us.length ≤ most → (∀ u ∈ us, u ∈ ws) → us.Nodup → Eff b H H' → Q (.ref p) H'
noncomputable def sp_law_value8 : Sp := fun vs H Q _ => ∃ (b : Addr) (k : Str) (m : Int), vs = [.ref b, .str k, .int m] ∧ Bag H b ∧ (k = "number" ∨ k = "word") ∧ wideOk m ∧ ∀ q H', kindOf q = k → keyOk q → Eff b H H' → Q (kV q) H'
noncomputable def sp_law_conditions8 : Sp := fun vs H Q _ => ∃ (b fo : Addr) (cols : Cols) (m : Int), vs = [.ref b, .ref fo, .int m] ∧ Bag H b ∧ FormAt H fo cols ∧ CfOk cols ∧ wideOk m ∧ ∀ p cs H', CnsAt H' p cs → CnsK cols cs → Eff b H H' → Q (.ref p) H'
theorem pop_perm {fw lw : List Str} {q : Nat} {w : Str} {ws : List Str} (hw : lw[q]? = some w) (h : (fw ++ lw).Perm ws) : ((fw ++ [w]) ++ lw.eraseIdx q).Perm ws := by
  obtain ⟨hq, rfl⟩ := List.getElem?_eq_some_iff.mp hw
  refine List.Perm.trans ?_ h
  rw [List.append_assoc]
  refine List.Perm.append_left _ ?_
  rw [List.eraseIdx_eq_take_drop_succ]
  show (lw[q] :: (lw.take q ++ lw.drop (q + 1))).Perm lw
  refine List.Perm.trans List.perm_middle.symm (List.Perm.of_eq ?_)
  rw [List.getElem_cons_drop, List.take_append_drop]
end My

set_option Elab.async false
set_option linter.all false
set_option maxRecDepth 100000

namespace My
open PySem PySem.Spec PyProof.Rows L2
structure CsI (cols : Cols) (i : Nat) (cs : List Cn) : Prop where
  len : cs.length ≤ i
  nd : (cs.map Cn.col).Nodup
  in_ : ∀ c ∈ cs, c.col ∈ (cols.take i).map (·.1)
  ok : ∀ c ∈ cs, ∃ (j : Nat) (kd : Str), cols[j]? = some (c.col, kd) ∧ CnKd kd c
theorem CsI.nil (cols : Cols) : CsI cols 0 [] := ⟨Nat.le_refl _, List.nodup_nil, (fun c h => nomatch h), (fun c h => nomatch h)⟩
theorem take_sub {cols : Cols} {i : Nat} {w : Str} (h : w ∈ (cols.take i).map (·.1)) : w ∈ (cols.take (i + 1)).map (·.1) := by
  rw [List.take_succ, List.map_append]
  exact List.mem_append_left _ h
theorem CsI.skip {cols : Cols} {i : Nat} {cs : List Cn} (h : CsI cols i cs) : CsI cols (i + 1) cs := ⟨Nat.le_succ_of_le h.len, h.nd, fun c hc => take_sub (h.in_ c hc), h.ok⟩
theorem insR_perm {α : Type} (l : List α) (a : α) (r : Nat) : (l.take r ++ a :: l.drop r).Perm (a :: l) := by
  refine List.Perm.trans List.perm_middle ?_
  rw [List.take_append_drop]
theorem CsI.put {cols : Cols} {i r : Nat} {cs : List Cn} {c : Cn} {w kd : Str} (h : CsI cols i cs) (nd : (cols.map (·.1)).Nodup) (hi : cols[i]? = some (w, kd)) (hc : c.col = w) (hk : CnKd kd c) : CsI cols (i + 1) (cs.take r ++ c :: cs.drop r) := by
  have p := insR_perm cs c r
  have nw : w ∉ (cols.take i).map (·.1) := fun hm => by
    have e : cols.map (·.1) = (cols.take i).map (·.1) ++ (cols.drop i).map (·.1) := by rw [← List.map_append, List.take_append_drop]
    rw [e] at nd
    refine (List.nodup_append.mp nd).2.2 w hm w ?_ rfl
    refine List.mem_map.mpr ⟨(w, kd), ?_, rfl⟩
    exact List.mem_of_getElem? (i := 0) (by rw [List.getElem?_drop]; exact hi)
  refine ⟨by rw [p.length_eq]; exact Nat.succ_le_succ h.len, ?_, fun d hd => ?_, fun d hd => ?_⟩
  · refine ((p.map Cn.col).nodup_iff).mpr ?_
    rw [List.map_cons]
    refine List.nodup_cons.mpr ⟨fun hm => ?_, h.nd⟩
    obtain ⟨d, hd, e⟩ := List.mem_map.mp hm
    rw [hc] at e
    exact nw (e ▸ h.in_ d hd)
  · rcases List.mem_cons.mp (p.mem_iff.mp hd) with rfl | hd
    · rw [List.take_succ, hi, List.map_append]
      exact List.mem_append_right _ (by rw [hc]; exact List.mem_singleton.mpr rfl)
    · exact take_sub (h.in_ d hd)
  · rcases List.mem_cons.mp (p.mem_iff.mp hd) with rfl | hd
    · exact ⟨i, kd, by rw [hc]; exact hi, hk⟩
    · exact h.ok d hd
theorem CsI.fin {cols : Cols} {cs : List Cn} (h : CsI cols cols.length cs) (l : cols.length ≤ 6) : CnsK cols cs := ⟨h.nd, Nat.le_trans h.len l, h.ok⟩
theorem Paired.ins {α β : Type} {F : α → β → Prop} {xs : List α} {ys : List β} {a : α} {b : β} (h : Paired F xs ys) (k : F a b) (r : Nat) : Paired F (xs.take r ++ a :: xs.drop r) (ys.take r ++ b :: ys.drop r) := Paired.app (Paired.takeP r h) (.cons k (Paired.dropP r h))

noncomputable def tailAt (H : Hp) (w kd : Str) (v : V) : Prop := ∃ (t : Addr) (c : Cn) (tl : List V), v = .ref t ∧ H t = some (.tup tl) ∧ cnV c = .str w :: tl ∧ c.col = w ∧ CnKd kd c ∧ tl.length ≤ 3
theorem Eas.text (n : Nat) {x : Str} (l : x.length ≤ 1000) (h : ∀ c ∈ TL.tl x, c < 128) : Eas n (.str x) := ⟨by
    simp only [PyData.canLay0, PyData.strOk, Array.all_eq_true, decide_eq_true_eq]
    intro i hi
    have := h x.cps[i] (by simp [TL.tl])
    omega, by rw [shortD]; exact decide_eq_true l, rfl, Nat.zero_le _⟩
theorem cond_eas (n : Nat) {c : Cn} (h : CnOk c) : Eas n (.str (condS c)) := Eas.text n (by have := cond_len h; omega) fun x hx => by
  have := cond_cs h x hx
  unfold plainC at this
  omega
theorem conds_eas {cs : List Cn} (h : ∀ c ∈ cs, CnOk c) (l : cs.length ≤ 6) : Eas 1 (.list ((cs.map condS).map PyData.str)) := Eas.lst (by rw [List.length_map, List.length_map]; omega) fun d hd => by
  obtain ⟨x, hx, rfl⟩ := List.mem_map.mp hd
  obtain ⟨c, hc, rfl⟩ := List.mem_map.mp hx
  exact cond_eas 0 (h c hc)
noncomputable def endsO : Cn → List (Option Key)
  | .is _ v => [some v]
  | .frm _ lo hi => [lo, hi]
theorem cn_cut (c : Cn) : cutV (cnV c) (some 2) none = (endsO c).map oV := by
  cases c <;> rfl
theorem cn_head (c : Cn) : (cnV c)[0]? = some (V.str c.col) := by cases c <;> rfl
theorem cond_join (c : Cn) : c.col ++ "=" ++ Txt.join ".." ((endsO c).map boundS) = condS c := by
  cases c with
  | is w v =>
    show w ++ "=" ++ Txt.join ".." [keyS v] = Str.empty ++ w ++ "=" ++ keyS v
    rw [empty_app, show Txt.join ".." [keyS v] = keyS v from TL.ext_tl (by rw [TL.join_eq, TL.tl_join]; rfl)]
  | frm w lo hi =>
    show w ++ "=" ++ Txt.join ".." [boundS lo, boundS hi] = Str.empty ++ w ++ "=" ++ boundS lo ++ ".." ++ boundS hi
    rw [empty_app]
    refine TL.ext_tl ?_
    simp only [TL.tl_append, List.append_assoc]
    rw [TL.join_eq, TL.tl_join]
    simp only [TL.joinL, List.map_cons, List.map_nil, List.append_assoc]
theorem ends_ok {c : Cn} (h : CnOk c) : ∀ o ∈ endsO c, ∀ k, o = some k → keyOk k := fun o ho k e => by
  subst e
  cases c with
  | is w v =>
    have := List.mem_singleton.mp ho
    injection this with this
    rw [this]; exact h.2
  | frm w lo hi =>
    have ho : some k ∈ [lo, hi] := ho
    simp only [List.mem_cons, List.not_mem_nil, or_false] at ho
    rcases ho with ho | ho
    · exact h.2.1 k ho.symm
    · exact h.2.2 k ho.symm
theorem ends_len (c : Cn) : (endsO c).length ≤ 2 := by
  cases c with
  | is w v => show 1 ≤ 2; decide
  | frm w lo hi => show 2 ≤ 2; decide
theorem cn_col {c : Cn} (h : CnOk c) : WordS c.col := by cases c <;> exact h.1
theorem words_eas {ws : List Str} (h : ∀ w ∈ ws, WordS w) (l : ws.length ≤ 100) : Eas 1 (.tuple (ws.map PyData.str)) := Eas.tup (by rw [List.length_map]; omega) fun d hd => by
  obtain ⟨x, hx, rfl⟩ := List.mem_map.mp hd
  exact Eas.word 0 (h x hx)
theorem join_sum {ws : List Str} (h : ∀ w ∈ ws, WordS w) (l : ws.length ≤ 6) : (ws.map (·.length)).sum + ws.length * ("+" : Str).length ≤ 16777216 := by
  have h1 := words_sum h
  obtain ⟨_, _, _, _, _, _, e7⟩ := lit_len
  rw [e7]; omega
theorem neD_same {K : PySem.W.Frag} {H : Hp} {x y : V} {d : PyData} {n : Nat} {Q : VK} (h1 : Dt H x d) (h2 : Dt H y d) (e : Eas n d) (hn : n ≤ 64) (q : Q (.bl false) H) : rNeD K x y H Q :=
  ⟨d, d, h1.dp, h2.dp, e.shaped hn, e.shaped hn, by rw [SeqAt.eqv_refl _ e.can]; exact q⟩
theorem wide_at {i : Int} (h0 : 0 ≤ i) (h1 : i < 4) : ∃ v, atI [V.int 2, V.int 5, V.int 12, V.int 1500] i = some v ∧ ∃ m : Int, v = .int m ∧ wideOk m :=
  at_all _ (fun v hv => by
    simp only [List.mem_cons, List.not_mem_nil, or_false] at hv
    rcases hv with rfl | rfl | rfl | rfl
    · exact ⟨_, rfl, .inl rfl⟩
    · exact ⟨_, rfl, .inr (.inl rfl)⟩
    · exact ⟨_, rfl, .inr (.inr (.inl rfl))⟩
    · exact ⟨_, rfl, .inr (.inr (.inr rfl))⟩) h0 h1
end My

set_option Elab.async false
set_option linter.all false
set_option maxRecDepth 100000

namespace My
open PySem PySem.Spec PyProof.Rows L2
noncomputable def rowS (r : List Key) : Str := Txt.join "," (r.map keyS)
noncomputable def colS (c : Str × Str) : Str := Str.empty ++ c.1 ++ ":" ++ c.2
noncomputable def formS (cols : Cols) : Str := Txt.join "," (cols.map colS)
noncomputable def desS (kd : Str) (ws : List Str) : Str := Str.empty ++ kd ++ ":" ++ colsS ws
noncomputable def desK (kd : Str) (m : Nat) : Prop := (kd = "tree" ∧ m = 4) ∨ (kd = "hash" ∧ m = 3) ∨ (kd = "bits" ∧ m = 1)
structure DesOk (cols : Cols) (kd : Str) (ws : List Str) : Prop where
  m : ∃ m, desK kd m ∧ ws.length ≤ m
  l1 : 1 ≤ ws.length
  sub : ∀ w ∈ ws, w ∈ cols.map (·.1)
  nd : ws.Nodup
noncomputable def DesAt (H : Hp) (p : Addr) (kd : Str) (ws : List Str) : Prop := ∃ wp, H p = some (.tup [.str kd, .ref wp]) ∧ H wp = some (.tup (ws.map V.str))
theorem col_len {cols : Cols} (hco : CfOk cols) {c : Str × Str} (h : c ∈ cols) : (colS c).length ≤ 20 := by
  have h1 := (hco.nm c h).hi
  have h2 : c.2.length ≤ 6 := by rcases hco.kd c h with e | e <;> rw [e] <;> decide +kernel
  obtain ⟨e0, _, _, _, _, _, _⟩ := lit_len
  have ec : (":" : Str).length = 1 := by decide +kernel
  unfold colS
  rw [len_app, len_app, len_app]
  omega
theorem DesOk.klen {cols : Cols} {kd : Str} {ws : List Str} (h : DesOk cols kd ws) : kd.length ≤ 4 := by
  obtain ⟨m, hm, _⟩ := h.m
  rcases hm with ⟨rfl, _⟩ | ⟨rfl, _⟩ | ⟨rfl, _⟩ <;> decide +kernel
theorem DesOk.l6 {cols : Cols} {kd : Str} {ws : List Str} (h : DesOk cols kd ws) : ws.length ≤ 6 := by
  obtain ⟨m, hm, l⟩ := h.m
  rcases hm with ⟨_, rfl⟩ | ⟨_, rfl⟩ | ⟨_, rfl⟩ <;> omega
theorem DesOk.words {cols : Cols} {kd : Str} {ws : List Str} (h : DesOk cols kd ws) (hco : CfOk cols) : ∀ w ∈ ws, WordS w := fun w hw => by
  obtain ⟨c, hc, rfl⟩ := List.mem_map.mp (h.sub w hw)
  exact hco.nm c hc
theorem DesOk.ne {cols : Cols} {kd : Str} {ws : List Str} (h : DesOk cols kd ws) : ws ≠ [] := fun z => by have := h.l1; rw [z] at this; exact absurd this (by decide)
theorem litc : TL.tl (":" : Str) = [58] := by decide +kernel
theorem litc256 : (":" : Str).cps.all (· < 256) = true := by decide +kernel
theorem kind_cs {kd : Str} (h : kd = "number" ∨ kd = "word") : ∀ c ∈ TL.tl kd, 97 ≤ c ∧ c ≤ 122 := by
  rcases h with rfl | rfl <;> decide +kernel
theorem des_cs {cols : Cols} {kd : Str} {ws : List Str} (h : DesOk cols kd ws) : ∀ c ∈ TL.tl kd, 97 ≤ c ∧ c ≤ 122 := by
  obtain ⟨m, hm, _⟩ := h.m
  rcases hm with ⟨rfl, _⟩ | ⟨rfl, _⟩ | ⟨rfl, _⟩ <;> decide +kernel
theorem col_cs {cols : Cols} (hco : CfOk cols) {c : Str × Str} (h : c ∈ cols) : ∀ x ∈ TL.tl (colS c), x = 58 ∨ (97 ≤ x ∧ x ≤ 122) := fun x hx => by
  obtain ⟨_, _, _, _, _, _, e0⟩ := lits
  unfold colS at hx
  simp only [TL.tl_append, litc, e0, List.mem_append, List.mem_singleton, List.not_mem_nil, false_or] at hx
  rcases hx with (hx | hx) | hx
  · exact .inr ((hco.nm c h).all x hx)
  · exact .inl hx
  · exact .inr (kind_cs (hco.kd c h) x hx)
theorem split_form {cols : Cols} (hco : CfOk cols) : Txt.split (formS cols) "," = cols.map colS := by
  obtain ⟨_, _, e3, _, _, _, _⟩ := lits
  refine TL.split_join (s := 44) (S := []) e3 lit256.2.2.1 (fun z => ?_) fun p hp hm => ?_
  · have := hco.c1
    rw [List.map_eq_nil_iff.mp z] at this
    exact absurd this (by decide)
  · obtain ⟨c, hc, rfl⟩ := List.mem_map.mp hp
    have := col_cs hco hc 44 hm
    omega
theorem split_col {cols : Cols} (hco : CfOk cols) {c : Str × Str} (h : c ∈ cols) : Txt.split (colS c) ":" = [c.1, c.2] := by
  obtain ⟨_, _, _, _, _, _, e0⟩ := lits
  have e : colS c = Txt.join ":" [c.1, c.2] := by
    refine TL.ext_tl ?_
    rw [TL.join_eq, TL.tl_join]
    unfold colS
    simp only [TL.tl_append, e0, TL.joinL, List.map_cons, List.map_nil, List.nil_append, List.append_assoc]
  rw [e]
  refine TL.split_join (s := 58) (S := []) litc litc256 (by simp) fun p hp hm => ?_
  simp only [List.mem_cons, List.not_mem_nil, or_false] at hp
  rcases hp with rfl | rfl
  · have := (hco.nm c h).all 58 hm
    omega
  · have := kind_cs (hco.kd c h) 58 hm
    omega
theorem split_row {r : List Key} (h : ∀ k ∈ r, keyOk k) (ne : r ≠ []) : Txt.split (rowS r) "," = r.map keyS := by
  obtain ⟨_, _, e3, _, _, _, _⟩ := lits
  refine TL.split_join (s := 44) (S := []) e3 lit256.2.2.1 (fun z => ne (List.map_eq_nil_iff.mp z)) fun p hp hm => ?_
  obtain ⟨q, hq, rfl⟩ := List.mem_map.mp hp
  have := key_cs (h q hq) 44 hm
  unfold plainC at this
  omega
theorem cut_des {cols : Cols} {kd : Str} {ws : List Str} (h : DesOk cols kd ws) : Txt.partition (desS kd ws) ":" = (kd, (":" : Str), colsS ws) := by
  unfold desS
  rw [empty_app]
  refine TL.partition_app (s := 58) (S := []) litc fun hm => ?_
  have := des_cs h 58 hm
  omega
theorem form_good {cols : Cols} (hco : CfOk cols) : formD (.tuple (cols.map colDat)) = true := by
  show (decide (1 ≤ (cols.map colDat).length) && decide ((cols.map colDat).length ≤ 6) && (cols.map colDat).all colD && decide (((cols.map colDat).map nameD).Nodup)) = true
  rw [List.length_map, decide_eq_true hco.c1, decide_eq_true hco.c6, List.map_map]
  have e : (nameD ∘ colDat) = (·.1) := rfl
  rw [e, decide_eq_true hco.nd]
  simp only [Bool.true_and, Bool.and_true, List.all_map, List.all_eq_true]
  intro c hc
  show (wordV (.str c.1) && kindD (.str c.2)) = true
  have h1 := (hco.nm c hc).b
  rw [show wordV (.str c.1) = true from h1]
  rcases hco.kd c hc with e | e
  · rw [e]; decide +kernel
  · rw [e]; decide +kernel
theorem form_eas {cols : Cols} (hco : CfOk cols) : Eas 2 (.tuple (cols.map colDat)) := Eas.tup (by rw [List.length_map]; have := hco.c6; omega) fun d hd => by
  obtain ⟨c, hc, rfl⟩ := List.mem_map.mp hd
  refine Eas.tup (n := 0) (by show 2 ≤ 1000; decide) fun x hx => ?_
  simp only [List.mem_cons, List.not_mem_nil, or_false] at hx
  rcases hx with rfl | rfl
  · exact Eas.word 0 (hco.nm c hc)
  · refine Eas.text 0 ?_ fun x hx => ?_
    · rcases hco.kd c hc with e | e <;> rw [e] <;> decide +kernel
    · have := kind_cs (hco.kd c hc) x hx
      omega
theorem row_len {r : List Key} (h : ∀ k ∈ r, keyOk k) (l : r.length ≤ 6) : (rowS r).length ≤ 60 := by
  have h1 := sum_len (ws := r.map keyS) (n := 8) fun w hw => by
    obtain ⟨q, hq, rfl⟩ := List.mem_map.mp hw
    exact key_len (h q hq)
  have h2 := join_len "," (r.map keyS)
  obtain ⟨_, _, _, _, _, e6, _⟩ := lit_len
  unfold rowS
  rw [e6] at h2; rw [List.length_map] at h1 h2; omega
theorem form_len {cols : Cols} (hco : CfOk cols) : (formS cols).length ≤ 200 := by
  have h1 := sum_len (ws := cols.map colS) (n := 20) fun w hw => by
    obtain ⟨q, hq, rfl⟩ := List.mem_map.mp hw
    exact col_len hco hq
  have h2 := join_len "," (cols.map colS)
  obtain ⟨_, _, _, _, _, e6, _⟩ := lit_len
  have := hco.c6
  unfold formS
  rw [e6] at h2; rw [List.length_map] at h1 h2; omega
noncomputable def sp_show_row : Sp := fun vs H Q _ => ∃ (a : Addr) (r : List Key), vs = [.ref a] ∧ H a = some (.tup (r.map kV)) ∧ (∀ k ∈ r, keyOk k) ∧ r.length ≤ 6 ∧ ∀ H', Same H H' → Q (.str (rowS r)) H'
noncomputable def sp_show_form : Sp := fun vs H Q _ => ∃ (a : Addr) (cols : Cols), vs = [.ref a] ∧ FormAt H a cols ∧ CfOk cols ∧ ∀ H', Same H H' → Q (.str (formS cols)) H'
noncomputable def sp_show_design : Sp := fun vs H Q _ => ∃ (p : Addr) (cols : Cols) (kd : Str) (ws : List Str), vs = [.ref p] ∧ DesAt H p kd ws ∧ CfOk cols ∧ DesOk cols kd ws ∧ ∀ H', Same H H' → Q (.str (desS kd ws)) H'
noncomputable def sp_is_design7 : Sp := fun vs H Q _ => ∃ (a dp : Addr) (cols : Cols) (kd : Str) (ws : List Str), vs = [.ref a, .ref dp] ∧ FormAt H a cols ∧ CfOk cols ∧ DesAt H dp kd ws ∧ DesOk cols kd ws ∧ ∀ H', Same H H' → Q (.bl true) H'
noncomputable def sp_read_row : Sp := fun vs H Q _ => ∃ (a : Addr) (cols : Cols) (r : List Key), vs = [.ref a, .str (rowS r)] ∧ FormAt H a cols ∧ CfOk cols ∧ RowK cols r ∧ ∀ (p : Addr) (H' : Hp), Same H H' → H' p = some (.tup (r.map kV)) → Q (.ref p) H'
noncomputable def sp_read_form : Sp := fun vs H Q _ => ∃ (cols : Cols), vs = [.str (formS cols)] ∧ CfOk cols ∧ ∀ (p : Addr) (H' : Hp), Same H H' → FormAt H' p cols → Q (.ref p) H'
noncomputable def sp_read_design : Sp := fun vs H Q _ => ∃ (a : Addr) (cols : Cols) (kd : Str) (ws : List Str), vs = [.ref a, .str (desS kd ws)] ∧ FormAt H a cols ∧ CfOk cols ∧ DesOk cols kd ws ∧ ∀ (p : Addr) (H' : Hp), Same H H' → DesAt H' p kd ws → Q (.ref p) H'
theorem des_frm {H H' : Hp} {p : Addr} {kd : Str} {ws : List Str} (h : DesAt H p kd ws) (s : Same H H') : DesAt H' p kd ws := by
  obtain ⟨w, h1, h2⟩ := h
  exact ⟨w, s _ _ h1, s _ _ h2⟩
noncomputable def sp_law_line : Sp := fun vs H Q _ => ∃ (b fo : Addr) (cols : Cols) (m : Int), vs = [.ref b, .ref fo, .int m] ∧ Bag H b ∧ FormAt H fo cols ∧ CfOk cols ∧ wideOk m ∧ ∀ (p : Addr) (r : List Key) (H' : Hp), H' p = some (.tup (r.map kV)) → RowK cols r → Eff b H H' → Q (.ref p) H'
noncomputable def sp_law_design7 : Sp := fun vs H Q _ => ∃ (b fo : Addr) (cols : Cols), vs = [.ref b, .ref fo] ∧ Bag H b ∧ FormAt H fo cols ∧ CfOk cols ∧ ∀ (p : Addr) (kd : Str) (ws : List Str) (H' : Hp), DesAt H' p kd ws → DesOk cols kd ws → Eff b H H' → Q (.ref p) H'
noncomputable def sp_law_right : Sp := fun vs H Q _ => ∃ (b fo : Addr) (cols : Cols) (m : Int), vs = [.ref b, .ref fo, .int m] ∧ Bag H b ∧ FormAt H fo cols ∧ CfOk cols ∧ wideOk m ∧ ∀ H', Eff b H H' → Q (.bl true) H'
theorem des_eff {H H' : Hp} {b p : Addr} {kd : Str} {ws : List Str} (hb : Bag H b) (h : DesAt H p kd ws) (e : Eff b H H') : DesAt H' p kd ws := by
  obtain ⟨w, h1, h2⟩ := h
  exact ⟨w, e.2 _ _ (hb.neT h1) h1, e.2 _ _ (hb.neT h2) h2⟩
theorem row_cs {r : List Key} (h : ∀ k ∈ r, keyOk k) : ∀ c ∈ TL.tl (rowS r), c < 128 := by
  obtain ⟨_, _, e3, _, _, _, _⟩ := lits
  refine join_cs (P := fun c => c < 128) (fun c hc => by rw [e3, List.mem_singleton] at hc; omega) (fun w hw c hc => ?_)
  obtain ⟨q, hq, rfl⟩ := List.mem_map.mp hw
  have := key_cs (h q hq) c hc
  unfold plainC at this
  omega
theorem cols_cs128 {ws : List Str} (h : ∀ w ∈ ws, WordS w) : ∀ c ∈ TL.tl (colsS ws), c < 128 := fun c hc => by
  obtain ⟨_, _, _, e4, _, e6, _⟩ := lits
  unfold colsS at hc
  split at hc
  · rw [e6, List.mem_singleton] at hc; omega
  · refine join_cs (P := fun c => c < 128) (fun c hc => by rw [e4, List.mem_singleton] at hc; omega) (fun w hw c hc => ?_) c hc
    have := word_cs (h w hw) c hc
    unfold plainC at this
    omega
theorem conds_cs128 {cs : List Cn} (h : ∀ c ∈ cs, CnOk c) : ∀ c ∈ TL.tl (condsS cs), c < 128 := fun c hc => by
  obtain ⟨_, _, e3, _, _, e6, _⟩ := lits
  unfold condsS at hc
  split at hc
  · rw [e6, List.mem_singleton] at hc; omega
  · refine join_cs (P := fun c => c < 128) (fun c hc => by rw [e3, List.mem_singleton] at hc; omega) (fun w hw c hc => ?_) c hc
    obtain ⟨d, hd, rfl⟩ := List.mem_map.mp hw
    have := cond_cs (h d hd) c hc
    unfold plainC at this
    omega
theorem texts_eas {cols : Cols} {r : List Key} {kd : Str} {ws : List Str} {cs : List Cn} (hco : CfOk cols) (hr : RowK cols r) (hd : DesOk cols kd ws) (hc : CnsK cols cs) : Eas 1 (.list [.str (rowS r), .str (desS kd ws), .str (condsS cs)]) := by
  have c6 := hco.c6
  have rl := hr.len
  have cok := hc.cnok hco
  have wW := hd.words hco
  have l1 := row_len hr.2 (by omega)
  have l2 := cols_len wW hd.l6
  have l3 := conds_len cok hc.len
  have kl := hd.klen
  obtain ⟨e0, _, _, _, _, _, _⟩ := lit_len
  have ec : (":" : Str).length = 1 := by decide +kernel
  refine Eas.lst (n := 0) (by show 3 ≤ 1000; decide) fun d hd' => ?_
  simp only [List.mem_cons, List.not_mem_nil, or_false] at hd'
  rcases hd' with rfl | rfl | rfl
  · exact Eas.text 0 (by omega) (row_cs hr.2)
  · refine Eas.text 0 (by unfold desS; simp only [len_app]; omega) fun x hx => ?_
    obtain ⟨_, _, _, _, _, _, z0⟩ := lits
    unfold desS at hx
    simp only [TL.tl_append, litc, z0, List.mem_append, List.mem_singleton, List.not_mem_nil, false_or] at hx
    rcases hx with (hx | hx) | hx
    · have := des_cs hd x hx; omega
    · omega
    · exact cols_cs128 wW x hx
  · exact Eas.text 0 (by omega) (conds_cs128 cok)
theorem rowDt {H : Hp} : ∀ r : List Key, DtAll H (r.map kV) (r.map dK)
  | [] => .nil
  | q :: r => .cons (key_dt H q) (rowDt r)
theorem keyE (n : Nat) {q : Key} (h : keyOk q) : Eas n (dK q) := by
  cases q with
  | inl i => exact Eas.int n i
  | inr x => exact Eas.word n h
theorem rowE {cols : Cols} {r : List Key} (h : RowK cols r) (l : r.length ≤ 6) : Eas 1 (.tuple (r.map dK)) := Eas.tup (by rw [List.length_map]; omega) fun d hd => by
  obtain ⟨q, hq, rfl⟩ := List.mem_map.mp hd
  exact keyE 0 (h.2 q hq)
theorem desE {cols : Cols} {kd : Str} {ws : List Str} (hco : CfOk cols) (h : DesOk cols kd ws) : Eas 2 (.tuple [.str kd, .tuple (ws.map .str)]) := Eas.tup (by show 2 ≤ 1000; decide) fun d hd => by
  simp only [List.mem_cons, List.not_mem_nil, or_false] at hd
  rcases hd with rfl | rfl
  · exact Eas.text 1 (by have := h.klen; omega) fun x hx => by have := des_cs h x hx; omega
  · exact words_eas (h.words hco) (by have := h.l6; omega)
end My

set_option Elab.async false
set_option linter.all false
set_option maxRecDepth 100000
namespace My
open PySem PySem.Spec PyProof.Rows L2
noncomputable def top (i : Nat) : Stmt := PySem.Challenge.pw_whatindex_k77_rows_and_designs_written.main.body.getD i (.Pass ⟨0, 0, 0, 0⟩)
noncomputable abbrev s_column_names : Stmt := top 1
noncomputable abbrev s_kind_of : Stmt := top 2
noncomputable abbrev s_are_columns : Stmt := top 3
noncomputable abbrev s_is_whole : Stmt := top 9
noncomputable abbrev s_is_word : Stmt := top 10
noncomputable abbrev s_is_value : Stmt := top 11
noncomputable abbrev s_is_column : Stmt := top 12
noncomputable abbrev s_is_form : Stmt := top 13
noncomputable abbrev s_are_bounds : Stmt := top 16
noncomputable abbrev s_is_condition : Stmt := top 17
noncomputable abbrev s_are_conditions : Stmt := top 18
noncomputable abbrev s_by_column : Stmt := top 19
noncomputable abbrev s_is_design : Stmt := top 24
noncomputable abbrev s_show_row : Stmt := top 29
noncomputable abbrev s_show_form : Stmt := top 30
noncomputable abbrev s_show_columns : Stmt := top 31
noncomputable abbrev s_show_design : Stmt := top 32
noncomputable abbrev s_show_bound : Stmt := top 33
noncomputable abbrev s_show_condition : Stmt := top 34
noncomputable abbrev s_show_conditions : Stmt := top 35
noncomputable abbrev s_are_figures : Stmt := top 36
noncomputable abbrev s_text_of : Stmt := top 37
noncomputable abbrev s_read_number : Stmt := top 38
noncomputable abbrev s_read_value : Stmt := top 39
noncomputable abbrev s_read_row : Stmt := top 40
noncomputable abbrev s_read_form : Stmt := top 41
noncomputable abbrev s_read_design : Stmt := top 42
noncomputable abbrev s_read_bound : Stmt := top 43
noncomputable abbrev s_read_condition : Stmt := top 44
noncomputable abbrev s_read_conditions : Stmt := top 45
noncomputable abbrev s_law_bag : Stmt := top 47
noncomputable abbrev s_law_take : Stmt := top 48
noncomputable abbrev s_law_names : Stmt := top 49
noncomputable abbrev s_law_form : Stmt := top 50
noncomputable abbrev s_law_value : Stmt := top 51
noncomputable abbrev s_law_line : Stmt := top 52
noncomputable abbrev s_law_some : Stmt := top 53
noncomputable abbrev s_law_conditions : Stmt := top 54
noncomputable abbrev s_law_design : Stmt := top 55
noncomputable abbrev s_law_show_row : Stmt := top 56
noncomputable abbrev s_law_show_form : Stmt := top 57
noncomputable abbrev s_law_show_design : Stmt := top 58
noncomputable abbrev s_law_show_conditions : Stmt := top 59
noncomputable abbrev s_law_right : Stmt := top 60
noncomputable abbrev s_law : Stmt := top 61
structure Txt (K : PySem.W.Frag) (mg : Str → Option Value) (w : World) (t_FIGURES : Tok) (a_KINDS : Addr) (a_MOST_BY_KIND : Addr) (t_MOST_COLUMNS : Tok) (t_MOST_CONDITIONS : Tok) (t_MOST_FIGURES : Tok) (t_MOST_LETTERS : Tok) (t_MOST_NUMBER : Tok) (t_NONE : Tok) : Prop where
  z_abs : mg "abs" = none
  z_all : mg "all" = none
  z_bool : mg "bool" = none
  z_int : mg "int" = none
  z_isinstance : mg "isinstance" = none
  z_len : mg "len" = none
  z_list : mg "list" = none
  z_max : mg "max" = none
  z_min : mg "min" = none
  z_range : mg "range" = none
  z_set : mg "set" = none
  z_str : mg "str" = none
  z_tuple : mg "tuple" = none
  z_zip : mg "zip" = none
  g_FIGURES : mg "FIGURES" = some (.str "0123456789" t_FIGURES)
  g_KINDS : mg "KINDS" = some (.ref a_KINDS)
  q_KINDS : ∃ (o : Obj) (its : Array Value) (n : Nat), K.lookup a_KINDS = some o ∧ o.cls = .type "tuple" ∧ o.data = .seq its n ∧ its.size ≤ sizeLine ∧ Vals [V.str "number", V.str "word"] its.toList
  g_MOST_BY_KIND : mg "MOST_BY_KIND" = some (.ref a_MOST_BY_KIND)
  m_MOST_BY_KIND : MDict w K a_MOST_BY_KIND [("tree", V.int 4), ("hash", V.int 3), ("bits", V.int 1)]
  g_MOST_COLUMNS : mg "MOST_COLUMNS" = some (.int 6 t_MOST_COLUMNS)
  g_MOST_CONDITIONS : mg "MOST_CONDITIONS" = some (.int 6 t_MOST_CONDITIONS)
  g_MOST_FIGURES : mg "MOST_FIGURES" = some (.int 3 t_MOST_FIGURES)
  g_MOST_LETTERS : mg "MOST_LETTERS" = some (.int 8 t_MOST_LETTERS)
  g_MOST_NUMBER : mg "MOST_NUMBER" = some (.int 999 t_MOST_NUMBER)
  g_NONE : mg "NONE" = some (.str "-" t_NONE)
  d_column_names : ∃ fa fd, Def K mg "column_names" s_column_names fa fd
  d_kind_of : ∃ fa fd, Def K mg "kind_of" s_kind_of fa fd
  d_are_columns : ∃ fa fd, Def K mg "are_columns" s_are_columns fa fd
  d_is_whole : ∃ fa fd, Def K mg "is_whole" s_is_whole fa fd
  d_is_word : ∃ fa fd, Def K mg "is_word" s_is_word fa fd
  d_is_value : ∃ fa fd, Def K mg "is_value" s_is_value fa fd
  d_is_column : ∃ fa fd, Def K mg "is_column" s_is_column fa fd
  d_is_form : ∃ fa fd, Def K mg "is_form" s_is_form fa fd
  d_are_bounds : ∃ fa fd, Def K mg "are_bounds" s_are_bounds fa fd
  d_is_condition : ∃ fa fd, Def K mg "is_condition" s_is_condition fa fd
  d_are_conditions : ∃ fa fd, Def K mg "are_conditions" s_are_conditions fa fd
  d_by_column : ∃ fa fd, Def K mg "by_column" s_by_column fa fd
  d_is_design : ∃ fa fd, Def K mg "is_design" s_is_design fa fd
  d_show_row : ∃ fa fd, Def K mg "show_row" s_show_row fa fd
  d_show_form : ∃ fa fd, Def K mg "show_form" s_show_form fa fd
  d_show_columns : ∃ fa fd, Def K mg "show_columns" s_show_columns fa fd
  d_show_design : ∃ fa fd, Def K mg "show_design" s_show_design fa fd
  d_show_bound : ∃ fa fd, Def K mg "show_bound" s_show_bound fa fd
  d_show_condition : ∃ fa fd, Def K mg "show_condition" s_show_condition fa fd
  d_show_conditions : ∃ fa fd, Def K mg "show_conditions" s_show_conditions fa fd
  d_are_figures : ∃ fa fd, Def K mg "are_figures" s_are_figures fa fd
  d_text_of : ∃ fa fd, Def K mg "text_of" s_text_of fa fd
  d_read_number : ∃ fa fd, Def K mg "read_number" s_read_number fa fd
  d_read_value : ∃ fa fd, Def K mg "read_value" s_read_value fa fd
  d_read_row : ∃ fa fd, Def K mg "read_row" s_read_row fa fd
  d_read_form : ∃ fa fd, Def K mg "read_form" s_read_form fa fd
  d_read_design : ∃ fa fd, Def K mg "read_design" s_read_design fa fd
  d_read_bound : ∃ fa fd, Def K mg "read_bound" s_read_bound fa fd
  d_read_condition : ∃ fa fd, Def K mg "read_condition" s_read_condition fa fd
  d_read_conditions : ∃ fa fd, Def K mg "read_conditions" s_read_conditions fa fd
  d_law_bag : ∃ fa fd, Def K mg "_law_bag" s_law_bag fa fd
  d_law_take : ∃ fa fd, Def K mg "_law_take" s_law_take fa fd
  d_law_names : ∃ fa fd, Def K mg "_law_names" s_law_names fa fd
  d_law_form : ∃ fa fd, Def K mg "_law_form" s_law_form fa fd
  d_law_value : ∃ fa fd, Def K mg "_law_value" s_law_value fa fd
  d_law_line : ∃ fa fd, Def K mg "_law_line" s_law_line fa fd
  d_law_some : ∃ fa fd, Def K mg "_law_some" s_law_some fa fd
  d_law_conditions : ∃ fa fd, Def K mg "_law_conditions" s_law_conditions fa fd
  d_law_design : ∃ fa fd, Def K mg "_law_design" s_law_design fa fd
  d_law_show_row : ∃ fa fd, Def K mg "_law_show_row" s_law_show_row fa fd
  d_law_show_form : ∃ fa fd, Def K mg "_law_show_form" s_law_show_form fa fd
  d_law_show_design : ∃ fa fd, Def K mg "_law_show_design" s_law_show_design fa fd
  d_law_show_conditions : ∃ fa fd, Def K mg "_law_show_conditions" s_law_show_conditions fa fd
  d_law_right : ∃ fa fd, Def K mg "_law_right" s_law_right fa fd
section
variable {P : Program} {w : World} {K : PySem.W.Frag} {mg : Str → Option Value} {base : Heap} {t_FIGURES : Tok} {a_KINDS : Addr} {a_MOST_BY_KIND : Addr} {t_MOST_COLUMNS : Tok} {t_MOST_CONDITIONS : Tok} {t_MOST_FIGURES : Tok} {t_MOST_LETTERS : Tok} {t_MOST_NUMBER : Tok} {t_NONE : Tok}
theorem sc_column_names : FnScope ["form", "name", "kind"] ["form"] (defScope s_column_names) := ⟨rfl, rfl, rfl, by decide +kernel, rfl, by decide +kernel, by decide +kernel⟩

set_option maxHeartbeats 8000000 in
theorem ok_column_names {fa : Addr} {fd : FuncData} (T : Txt K mg w t_FIGURES a_KINDS a_MOST_BY_KIND t_MOST_COLUMNS t_MOST_CONDITIONS t_MOST_FIGURES t_MOST_LETTERS t_MOST_NUMBER t_NONE) (D : Def K mg "column_names" s_column_names fa fd) : FnOk P w K mg base CX0 1 fa fd ["form"] sp_column_names := by
  refine D.fn.ok sc_column_names (fun vs H Q E h => ?_) (fun cdv A outer s H vs Q E hr h => ?_)
  · obtain ⟨a, cols, rfl, _⟩ := h
    rfl
  ·
    obtain ⟨a, cols, rfl, hf, hl, k⟩ := h
    refine ⟨_, (pss_one (ps_ret (pe_callTy call_tuple_of (by rfl) T.z_tuple bt_tuple (pa_cons (pe_lc (own := [("name", 1), ("kind", 2)]) (by rfl) sc_column_names.nd (pi_tup (pv 0)) (blkOk_by (own := [("name", 1), ("kind", 2)]) (N := ["form", "name", "kind"]) (sc := defScope s_column_names) (by decide +kernel))
        (fun _ _ _ _ _ => (pg_tupK (K := K) (n := 2) (by rfl) (pgs_cons (pg_name (i := 1) sc_column_names.nd rfl (by first | exact Or.inl rfl | exact Or.inr rfl)) (pgs_cons (pg_name (i := 2) sc_column_names.nd rfl (by first | exact Or.inl rfl | exact Or.inr rfl)) pgs_nil)))) (fun _ _ _ _ _ => pts_nil)
        (fun _ _ _ _ _ => (pv 1))) pa_nil)))), ?_⟩
    obtain ⟨ts, ea, lt, ft⟩ := id hf.ex
    refine ⟨_, rfl, a, rfl, ⟨_, SqT.of ea⟩, fun D hD => ?_⟩
    refine lc_tup_map hD (fun i => .str (cols.getD i ("", "")).1) ea (by rw [List.length_map, lt]; exact lt_line (by omega)) ?_ ?_
    · intro i x H1 R F hx s1 hR
      rw [List.getElem?_map] at hx
      obtain ⟨t, ht, rfl⟩ := Option.map_eq_some_iff.mp hx
      have hi : i < cols.length := by rw [← lt]; exact (List.getElem?_eq_some_iff.mp ht).1
      have hci : cols[i]? = some cols[i] := by simp [hi]
      have := hR H1 (Same.refl _)
      rw [List.getD_eq_getElem?_getD, hci] at this
      exact ⟨t, _, rfl, SqT.of (s1 _ _ (ft i t _ ht hci)), rfl, _, _, rfl, _, _, rfl, rfl, rfl, _, rfl, this⟩
    · intro H1 s1 hD1
      rw [List.length_map, lt, range_mapD (fun c : Str × Str => V.str c.1)] at hD1
      exact ⟨D, _, rfl, .inl ⟨SqL.of hD1, fun q hq => k q _ (s1.trans (same_new hq)) upd_same⟩⟩
theorem sc_kind_of : FnScope ["form", "thing", "kinds", "name", "kind"] ["form", "thing"] (defScope s_kind_of) := ⟨rfl, rfl, rfl, by decide +kernel, rfl, by decide +kernel, by decide +kernel⟩

set_option maxHeartbeats 8000000 in
theorem ok_kind_of {fa : Addr} {fd : FuncData} (T : Txt K mg w t_FIGURES a_KINDS a_MOST_BY_KIND t_MOST_COLUMNS t_MOST_CONDITIONS t_MOST_FIGURES t_MOST_LETTERS t_MOST_NUMBER t_NONE) (D : Def K mg "kind_of" s_kind_of fa fd) : FnOk P w K mg base CX0 1 fa fd ["form", "thing"] sp_kind_of := by
  refine D.fn.ok sc_kind_of (fun vs H Q E h => ?_) (fun cdv A outer s H vs Q E hr h => ?_)
  · obtain ⟨a, v, cols, d, n, rfl, _⟩ := h
    rfl
  ·
    obtain ⟨a, v, cols, d, n, rfl, hf, hco, hv, hd, hn, k⟩ := h
    refine ⟨_, (pss_cons (ps_setLc (i := 2) (own := [("name", 3), ("kind", 4)]) rfl sc_kind_of.nd rfl (by rfl) (sw_true rfl (by rfl) rfl (by decide +kernel)) (pi_tup (pv 0)) (blkOk_by (own := [("name", 3), ("kind", 4)]) (N := ["form", "thing", "kinds", "name", "kind"]) (sc := defScope s_kind_of) (by decide +kernel))
        (fun _ _ _ _ _ => (pg_tupK (K := K) (n := 2) (by rfl) (pgs_cons (pg_name (i := 3) sc_kind_of.nd rfl (by first | exact Or.inl rfl | exact Or.inr rfl)) (pgs_cons (pg_name (i := 4) sc_kind_of.nd rfl (by first | exact Or.inl rfl | exact Or.inr rfl)) pgs_nil)))) (fun _ _ _ _ _ => (pts_one (pt_cmpR (op_eqDK (K := K) hr.units) (pv 3) (pv 1) (nomark _))))
        (fun _ _ _ _ _ => (pv 4)))
    (pss_one (ps_ret (pe_ifExp (pt_truth (pv 2) (by intro _; rfl)) (pe_ix ix_list (pv 2) pe_int (fun _ _ => rfl)) pe_non)))), ?_⟩
    obtain ⟨xs, ea, hP⟩ := hf.cols
    have hxl := Paired.length hP
    have hl := hco.c6
    refine ⟨_, rfl, a, rfl, ⟨_, SqT.of ea⟩, fun D hD => ?_⟩
    refine lc_selTP (F := ColAt) (G := fun _ v (k : Str) => v = V.str k) (fun c : Str × Str => PyData.eqv (.str c.1) d) (fun c => c.2) hD ea hP (fun h s => h.frm (.of_same s : Frm [] _ _)) (fun h _ => h) (by omega) ?_ ?_
    · intro x c Hx Rk N hc hx sx _ k1 k2
      obtain ⟨t, rfl, ht⟩ := hx
      refine ⟨t, _, rfl, SqT.of ht, rfl, _, _, rfl, _, _, rfl, rfl, rfl, ?_⟩
      refine ⟨_, rfl, _, rfl, .str c.1, d, .str _, (hv.same sx).dp, (Eas.word 0 (hco.nm c hc)).shaped (by decide), hd.shaped (by omega), _, rfl, ?_⟩
      refine ite2 (fun c1 => ⟨_, rfl, k1 c1 _ _ (Same.refl _) rfl⟩) (fun c1 => k2 (by simpa using c1) _ (Same.refl _))
    intro H1 ys s1 hD1 hY
    rw [kindAt_eq] at k
    generalize List.map (fun c : Str × Str => c.2) (List.filter (fun c : Str × Str => (PyData.str c.1).eqv d) cols) = ws at hY k
    cases hY with
    | nil => exact ⟨_, rfl, _, .inl ⟨_, SqL.of hD1, rfl⟩, iteF (k _ s1)⟩
    | cons h r =>
      subst h
      refine ⟨_, rfl, _, .inl ⟨_, SqL.of hD1, rfl⟩, iteT ?_⟩
      exact ⟨_, rfl, D, _, _, _, rfl, rfl, SqL.of hD1, atI_nat (j := 0) rfl, k _ s1⟩
theorem sc_are_columns : FnScope ["form", "thing", "least", "most", "names", "name"] ["form", "thing", "least", "most"] (defScope s_are_columns) := ⟨rfl, rfl, rfl, by decide +kernel, rfl, by decide +kernel, by decide +kernel⟩

set_option maxHeartbeats 8000000 in
theorem ok_are_columns {fa : Addr} {fd : FuncData} (T : Txt K mg w t_FIGURES a_KINDS a_MOST_BY_KIND t_MOST_COLUMNS t_MOST_CONDITIONS t_MOST_FIGURES t_MOST_LETTERS t_MOST_NUMBER t_NONE) (D : Def K mg "are_columns" s_are_columns fa fd) : FnOk P w K mg base CX0 2 fa fd ["form", "thing", "least", "most"] sp_are_columnsD := by
  obtain ⟨fa_column_names, fd_column_names, D_column_names⟩ := T.d_column_names
  have G_column_names := ok_column_names (P := P) (w := w) (base := base) T D_column_names
  have b_column_names := D_column_names.fn.binds (ps := ["form"]) fun _ _ _ _ _ _ us hl => match us, hl with | [_], _ => rfl
  refine D.fn.ok sc_are_columns (fun vs H Q E h => ?_) (fun cdv A outer s H vs Q E hr h => ?_)
  · obtain ⟨a, v, cols, d, lo, hi, n, rfl, _⟩ := h
    rfl
  ·
    have r_column_names : Room 1 _ := hr.mono (by decide)
    obtain ⟨a, v, cols, d, lo, hi, n, rfl, hf, hco, hv, hd, h5, k⟩ := h
    refine ⟨_, (pss_cons (ps_if (PW.pt (pw_or (pt_not (pt_val (pe_callB call_isT (by rfl) T.z_isinstance bt_isinstance (pa_cons (pv 1) (pa_cons (pe_bltn (v := V.ty "tuple") (by rfl) T.z_tuple bt_tuple rfl) pa_nil))))) (pw_or1 (pt_not (pt_chain op_le op_le (pv 2) (pe_callB call_len_seq (by rfl) T.z_len bt_len (pa_cons (pv 1) pa_nil)) (pv 3))))))
      (pss_one (ps_ret pe_bl))
      pss_nil)
    (pss_cons (ps_asg (pe_call G_column_names r_column_names (by rfl) D_column_names.mg D_column_names.fn.kp b_column_names .nil pass0 (pa_cons (pv 0) pa_nil)) (pg_name (i := 4) sc_are_columns.nd rfl (by first | exact Or.inl rfl | exact Or.inr rfl)))
    (pss_cons (ps_if (pt_not (pt_val (pe_callB (cr_all rfl) (by rfl) T.z_all bt_all (pa_cons (pe_lc (own := [("name", 5)]) (g := gName 5) (by rfl) sc_are_columns.nd (pi_tup (pv 1)) (blkOk_by (own := [("name", 5)]) (N := ["form", "thing", "least", "most", "names", "name"]) (sc := defScope s_are_columns) (by decide +kernel))
        (fun _ _ _ _ _ => (pg_name (i := 5) sc_are_columns.nd rfl (by first | exact Or.inl rfl | exact Or.inr rfl))) (fun _ _ _ _ _ => pts_nil)
        (fun _ _ _ _ _ => (pe_cmpR (op_inS (K := K) hr.units) (pv 5) (pv 4) (by rfl)))) pa_nil))))
      (pss_one (ps_ret pe_bl))
      pss_nil)
    (pss_one (ps_ret (pe_cmpR op_eq (pe_callB call_lenS (by rfl) T.z_len bt_len (pa_cons (pe_callTy (call_setT (K := K) rfl) (by rfl) T.z_set bt_set (pa_cons (pv 1) pa_nil)) pa_nil)) (pe_callB call_len_seq (by rfl) T.z_len bt_len (pa_cons (pv 1) pa_nil)) (nomark _))))))), ?_⟩
    refine ⟨_, rfl, _, _, rfl, hv.tyd hd.sh, rfl, _, rfl, ?_⟩
    rw [hv.instTup]
    have h6 := hco.c6
    cases hv with
    | @tup t xs ds e r =>
      have hlen := r.length
      have kF : areColsD cols lo hi (.tuple ds) = false → ∀ H', Same H H' → Q (.bl false) H' := fun e => by rw [e] at k; exact k
      refine iteF ?_
      refine ⟨_, rfl, _, rfl, t, _, rfl, .inr (SqT.of e), _, _, rfl, rfl, _, rfl, ?_⟩
      rw [hlen]
      refine ite2 (fun c1 => ⟨_, rfl, _, _, rfl, rfl, _, rfl, ?_⟩) (fun c1 => ?_)
      · have c1' : lo ≤ ds.length := by have := of_decide_eq_true c1; omega
        cases c2 : decide (((ds.length : Nat) : Int) ≤ (hi : Int)) with
        | false =>
          refine iteT (kF ?_ _ (Same.refl _))
          have : ¬ ds.length ≤ hi := fun z => absurd c2 (by rw [decide_eq_true (show ((ds.length : Nat) : Int) ≤ (hi : Int) by omega)]; simp)
          show (decide (lo ≤ ds.length) && decide (ds.length ≤ hi) && ds.all (nameIn cols) && decide ((ds.map strOf).Nodup)) = false
          rw [decide_eq_false this]; simp
        | true =>
          have c2' : ds.length ≤ hi := by have := of_decide_eq_true c2; omega
          refine iteF (nextK ?_)
          refine ⟨_, rfl, a, cols, rfl, hf, by omega, fun q H1 s1 hq => ?_⟩
          have r1 := r.same s1
          refine ⟨_, rfl, t, rfl, ⟨_, SqT.of (s1 _ _ e)⟩, fun D hD => ?_⟩
          refine lc_tup_mapK hD (fun i => V.bl (nameIn cols (ds.getD i .none))) (SqT.of (s1 _ _ e)) (lt_line (by omega)) ?_ ?_
          · intro i x H2 R F hx s2 hR
            obtain ⟨dx, hdx, hx2⟩ := r1.get hx
            have eg : ds.getD i .none = dx := by rw [List.getD_eq_getElem?_getD, hdx]; rfl
            rw [eg] at hR
            have hx3 := hx2.same s2
            refine ⟨rfl, ?_⟩
            refine ⟨_, rfl, _, rfl, q, cols.map (·.1), rfl, SqT.of (by rw [s2 _ _ hq, List.map_map]; rfl), ?_⟩
            cases hx3 with
            | str z => exact .inl ⟨rfl, by rw [in_strs]; exact hR _ (Same.refl _)⟩
            | lst e2 _ => exact .inr ⟨_, rfl, .inl ⟨_, e2⟩, hR _ (Same.refl _)⟩
            | tup e2 _ => exact .inr ⟨_, rfl, .inr ⟨_, e2⟩, hR _ (Same.refl _)⟩
            | non => exact .inl ⟨rfl, by rw [inS_no (fun _ => rfl)]; exact hR _ (Same.refl _)⟩
            | bl b => exact .inl ⟨rfl, by rw [inS_no (fun _ => rfl)]; exact hR _ (Same.refl _)⟩
            | int j => exact .inl ⟨rfl, by rw [inS_no (fun _ => rfl)]; exact hR _ (Same.refl _)⟩
          · intro H2 s2 hD2
            rw [hlen, range_map ds (fun d => V.bl (nameIn cols d)) .none] at hD2
            refine ⟨D, ds.map (nameIn cols), rfl, SqL.of (by rw [hD2, List.map_map]; rfl), _, rfl, ?_⟩
            rw [show (ds.map (nameIn cols)).all id = ds.all (nameIn cols) by rw [List.all_map]; rfl]
            have s02 := s1.trans s2
            cases c3 : ds.all (nameIn cols) with
            | false =>
              refine iteT (kF ?_ _ s02)
              show (decide (lo ≤ ds.length) && decide (ds.length ≤ hi) && ds.all (nameIn cols) && decide ((ds.map strOf).Nodup)) = false
              rw [c3]; simp
            | true =>
              refine iteF (nextK ?_)
              obtain ⟨ws, rfl, rfl⟩ := strs_of r fun d hd => nameIn_str (List.all_eq_true.mp c3 d hd)
              rw [List.length_map] at c2' c1'
              refine ⟨_, rfl, t, ws.map Sum.inr, rfl, by rw [List.map_map]; exact SqT.of (s02 _ _ e), by rw [List.length_map]; omega, fun S hS => ?_⟩
              have s3 := same_new (o := setO P w S ((List.range (ws.map (Sum.inr : Str → Key)).length).map fun i => (ws.map (Sum.inr : Str → Key)).getD i (.inl 0)).reverse) hS
              refine ⟨S, _, rfl, upd_same, by rw [List.length_reverse, List.length_map, List.length_range, List.length_map]; omega, ?_⟩
              refine ⟨_, rfl, t, _, rfl, .inr (SqT.of (s3 _ _ (s02 _ _ e))), rfl, ?_⟩
              have kk := k _ (s02.trans s3)
              have ek : areColsD cols lo hi (.tuple (ws.map PyData.str)) = decide (ws.Nodup) := by
                show (decide (lo ≤ (ws.map PyData.str).length) && decide ((ws.map PyData.str).length ≤ hi) && (ws.map PyData.str).all (nameIn cols) && decide (((ws.map PyData.str).map strOf).Nodup)) = _
                rw [c3, strs_back, List.length_map, decide_eq_true c1', decide_eq_true c2']; simp
              rw [ek] at kk
              rw [setlen_iff]
              exact kk
      · refine ⟨_, rfl, iteT (kF ?_ _ (Same.refl _))⟩
        have : ¬ lo ≤ ds.length := fun z => c1 (decide_eq_true (by omega))
        show (decide (lo ≤ ds.length) && decide (ds.length ≤ hi) && ds.all (nameIn cols) && decide ((ds.map strOf).Nodup)) = false
        rw [decide_eq_false this]; simp
    | _ => exact iteT (k _ (Same.refl _))
theorem sc_is_whole : FnScope ["thing"] ["thing"] (defScope s_is_whole) := ⟨rfl, rfl, rfl, by decide +kernel, rfl, by decide +kernel, by decide +kernel⟩

set_option maxHeartbeats 8000000 in
theorem ok_is_whole {fa : Addr} {fd : FuncData} (T : Txt K mg w t_FIGURES a_KINDS a_MOST_BY_KIND t_MOST_COLUMNS t_MOST_CONDITIONS t_MOST_FIGURES t_MOST_LETTERS t_MOST_NUMBER t_NONE) (D : Def K mg "is_whole" s_is_whole fa fd) : FnOk P w K mg base CX0 1 fa fd ["thing"] sp_is_whole := by
  refine D.fn.ok sc_is_whole (fun vs H Q E h => ?_) (fun cdv A outer s H vs Q E hr h => ?_)
  · obtain ⟨v, rfl, _⟩ := h
    rfl
  ·
    obtain ⟨v, rfl, hv, k⟩ := h
    refine ⟨_, (pss_one (ps_ret (pe_and (pe_callB call_isT (by rfl) T.z_isinstance bt_isinstance (pa_cons (pv 0) (pa_cons (pe_bltn (v := V.ty "int") (by rfl) T.z_int bt_int rfl) pa_nil))) (pe_one (pe_not (pe_callB call_isT (by rfl) T.z_isinstance bt_isinstance (pa_cons (pv 0) (pa_cons (pe_bltn (v := V.ty "bool") (by rfl) T.z_bool bt_bool rfl) pa_nil)))))))), ?_⟩
    refine ⟨_, rfl, _, _, rfl, hv, rfl, _, rfl, ?_⟩
    rcases inst_int hv with ⟨i, rfl, e1, e2⟩ | ⟨b, rfl, e1, e2⟩ | ⟨e1, e2, e3⟩
    · rw [e1]
      refine iteT ⟨_, rfl, _, _, rfl, hv, rfl, _, rfl, ?_⟩
      rw [e2]
      exact k
    · rw [e1]
      refine iteT ⟨_, rfl, _, _, rfl, hv, rfl, _, rfl, ?_⟩
      rw [e2]
      exact k
    · rw [e1]
      refine iteF ?_
      rw [e3] at k
      exact k
theorem sc_is_word : FnScope ["thing", "letter"] ["thing"] (defScope s_is_word) := ⟨rfl, rfl, rfl, by decide +kernel, rfl, by decide +kernel, by decide +kernel⟩

set_option maxHeartbeats 8000000 in
theorem ok_is_word {fa : Addr} {fd : FuncData} (T : Txt K mg w t_FIGURES a_KINDS a_MOST_BY_KIND t_MOST_COLUMNS t_MOST_CONDITIONS t_MOST_FIGURES t_MOST_LETTERS t_MOST_NUMBER t_NONE) (D : Def K mg "is_word" s_is_word fa fd) : FnOk P w K mg base CX0 1 fa fd ["thing"] sp_is_word := by
  refine D.fn.ok sc_is_word (fun vs H Q E h => ?_) (fun cdv A outer s H vs Q E hr h => ?_)
  · obtain ⟨v, rfl, _⟩ := h
    rfl
  ·
    obtain ⟨v, rfl, hv, k⟩ := h
    refine ⟨_, (pss_cons (ps_if (PW.pt (pw_or (pt_not (pt_val (pe_callB call_isT (by rfl) T.z_isinstance bt_isinstance (pa_cons (pv 0) (pa_cons (pe_bltn (v := V.ty "str") (by rfl) T.z_str bt_str rfl) pa_nil))))) (pw_or1 (pt_not (pt_chain op_le op_le pe_int (pe_callB call_len_str (by rfl) T.z_len bt_len (pa_cons (pv 0) pa_nil)) (pe_glob (v := V.int 8) (by rfl) T.g_MOST_LETTERS ⟨_, rfl⟩))))))
      (pss_one (ps_ret pe_bl))
      pss_nil)
    (pss_one (ps_ret (pe_callB (cr_all rfl) (by rfl) T.z_all bt_all (pa_cons (pe_lc (own := [("letter", 1)]) (g := gName 1) (by rfl) sc_is_word.nd (pi_str (pv 0)) (blkOk_by (own := [("letter", 1)]) (N := ["thing", "letter"]) (sc := defScope s_is_word) (by decide +kernel))
        (fun _ _ _ _ _ => (pg_name (i := 1) sc_is_word.nd rfl (by first | exact Or.inl rfl | exact Or.inr rfl))) (fun _ _ _ _ _ => pts_nil)
        (fun _ _ _ _ _ => (pe_chain op_le_str op_le_str pe_str (pv 1) pe_str))) pa_nil))))), ?_⟩
    refine ⟨_, rfl, _, _, rfl, hv, rfl, _, rfl, ?_⟩
    rcases inst_str hv with ⟨z, rfl, hz, e1⟩ | ⟨e1, e2⟩
    · rw [e1]
      refine iteF ?_
      refine ⟨_, rfl, z, rfl, Nat.le_trans hz (by decide), _, _, rfl, rfl, _, rfl, ?_⟩
      refine ite2 (fun c1 => ⟨_, _, rfl, rfl, _, rfl, ?_⟩) (fun c1 => ⟨_, rfl, iteT ?_⟩)
      · refine ite2 (fun c2 => ?_) (fun c2 => ?_)
        · rw [wordV_hi c2] at k
          exact k H (Same.refl _)
        · refine ⟨_, rfl, z, rfl, fun D hD => ?_⟩
          refine lc_str_map (fun c => .bl (decide (97 ≤ c) && decide (c ≤ 122))) (Nat.lt_of_le_of_lt hz (by decide)) (fun c H R F hc hR => ⟨rfl, ?_⟩) ?_
          · refine ⟨_, rfl, _, _, rfl, rfl, _, rfl, ?_⟩
            rw [le_aS]
            by_cases q : 97 ≤ c
            · rw [decide_eq_true q] at hR ⊢
              refine iteT ⟨_, _, rfl, rfl, ?_⟩
              rw [le_zS]
              exact hR
            · rw [decide_eq_false q] at hR ⊢
              exact iteF hR
          · refine ⟨D, z.cps.toList.map fun c => decide (97 ≤ c) && decide (c ≤ 122), rfl, SqL.of (by rw [upd_same, List.map_map]; rfl), ?_⟩
            rw [← wordV_all c1 c2]
            exact k _ (same_new hD)
      · rw [wordV_lo c1] at k
        exact k H (Same.refl _)
    · rw [e1]
      refine iteT ?_
      rw [e2] at k
      exact k H (Same.refl _)
theorem sc_is_value : FnScope ["kind", "thing"] ["kind", "thing"] (defScope s_is_value) := ⟨rfl, rfl, rfl, by decide +kernel, rfl, by decide +kernel, by decide +kernel⟩

set_option maxHeartbeats 8000000 in
theorem ok_is_value {fa : Addr} {fd : FuncData} (T : Txt K mg w t_FIGURES a_KINDS a_MOST_BY_KIND t_MOST_COLUMNS t_MOST_CONDITIONS t_MOST_FIGURES t_MOST_LETTERS t_MOST_NUMBER t_NONE) (D : Def K mg "is_value" s_is_value fa fd) : FnOk P w K mg base CX0 2 fa fd ["kind", "thing"] sp_is_value := by
  obtain ⟨fa_is_whole, fd_is_whole, D_is_whole⟩ := T.d_is_whole
  have G_is_whole := ok_is_whole (P := P) (w := w) (base := base) T D_is_whole
  have b_is_whole := D_is_whole.fn.binds (ps := ["thing"]) fun _ _ _ _ _ _ us hl => match us, hl with | [_], _ => rfl
  obtain ⟨fa_is_word, fd_is_word, D_is_word⟩ := T.d_is_word
  have G_is_word := ok_is_word (P := P) (w := w) (base := base) T D_is_word
  have b_is_word := D_is_word.fn.binds (ps := ["thing"]) fun _ _ _ _ _ _ us hl => match us, hl with | [_], _ => rfl
  refine D.fn.ok sc_is_value (fun vs H Q E h => ?_) (fun cdv A outer s H vs Q E hr h => ?_)
  · obtain ⟨x, v, rfl, _⟩ := h
    rfl
  ·
    have r_is_whole : Room 1 _ := hr.mono (by decide)
    have r_is_word : Room 1 _ := hr.mono (by decide)
    obtain ⟨x, v, rfl, hv, k⟩ := h
    refine ⟨_, (pss_cons (ps_if (pt_cmpR op_eq (pv 0) pe_str (nomark _))
      (pss_one (ps_ret (pe_and (pe_call G_is_whole r_is_whole (by rfl) D_is_whole.mg D_is_whole.fn.kp b_is_whole .nil pass0 (pa_cons (pv 1) pa_nil)) (pe_one (pe_chain op_le op_le (pe_un un_neg (pe_glob (v := V.int 999) (by rfl) T.g_MOST_NUMBER ⟨_, rfl⟩)) (pv 1) (pe_glob (v := V.int 999) (by rfl) T.g_MOST_NUMBER ⟨_, rfl⟩))))))
      pss_nil)
    (pss_one (ps_ret (pe_and (pe_cmpR op_eq (pv 0) pe_str (nomark _)) (pe_one (pe_call G_is_word r_is_word (by rfl) D_is_word.mg D_is_word.fn.kp b_is_word .nil pass0 (pa_cons (pv 1) pa_nil))))))), ?_⟩
    refine ⟨_, rfl, rfl, _, rfl, ?_⟩
    refine ite2 (fun c1 => ?_) (fun c1 => ?_)
    · obtain rfl : x = "number" := by simpa using c1
      refine ⟨_, rfl, v, rfl, hv, _, rfl, ?_⟩
      cases v with
      | int i =>
        refine iteT ⟨_, rfl, _, rfl, _, _, rfl, rfl, _, rfl, ?_⟩
        refine ite2 (fun c2 => ⟨_, _, rfl, rfl, ?_⟩) (fun c2 => ?_)
        · have e : isVal "number" (.int i) = decide (i ≤ 999) := by
            show (decide (-999 ≤ i) && decide (i ≤ 999)) = _
            rw [c2]; rfl
          rw [e] at k
          exact k H (Same.refl _)
        · have e : isVal "number" (.int i) = false := by
            show (decide (-999 ≤ i) && decide (i ≤ 999)) = _
            rw [Bool.eq_false_iff.mpr c2]; rfl
          rw [e] at k
          exact k H (Same.refl _)
      | _ => exact iteF (k H (Same.refl _))
    · refine ⟨_, rfl, rfl, _, rfl, ?_⟩
      refine ite2 (fun c2 => ?_) (fun c2 => ?_)
      · obtain rfl : x = "word" := by simpa using c2
        exact ⟨_, rfl, v, rfl, hv, fun H' s' => k H' s'⟩
      · have e : isVal x v = false := by
          unfold isVal
          rw [if_neg (fun z => c1 (by rw [z]; decide)), if_neg (fun z => c2 (by rw [z]; decide))]
        rw [e] at k
        exact k H (Same.refl _)
theorem sc_is_column : FnScope ["thing"] ["thing"] (defScope s_is_column) := ⟨rfl, rfl, rfl, by decide +kernel, rfl, by decide +kernel, by decide +kernel⟩
noncomputable def sp_is_column : Sp := fun vs H Q _ => ∃ v d, vs = [v] ∧ Dt H v d ∧ shortD d = true ∧ ∀ H', Same H H' → Q (.bl (colD d)) H'
set_option maxHeartbeats 8000000 in
theorem ok_is_column {fa : Addr} {fd : FuncData} (T : Txt K mg w t_FIGURES a_KINDS a_MOST_BY_KIND t_MOST_COLUMNS t_MOST_CONDITIONS t_MOST_FIGURES t_MOST_LETTERS t_MOST_NUMBER t_NONE) (D : Def K mg "is_column" s_is_column fa fd) : FnOk P w K mg base CX0 2 fa fd ["thing"] sp_is_column := by
  obtain ⟨fa_is_word, fd_is_word, D_is_word⟩ := T.d_is_word
  have G_is_word := ok_is_word (P := P) (w := w) (base := base) T D_is_word
  have b_is_word := D_is_word.fn.binds (ps := ["thing"]) fun _ _ _ _ _ _ us hl => match us, hl with | [_], _ => rfl
  refine D.fn.ok sc_is_column (fun vs H Q E h => ?_) (fun cdv A outer s H vs Q E hr h => ?_)
  · obtain ⟨v, d, rfl, _⟩ := h
    rfl
  ·
    have r_is_word : Room 1 _ := hr.mono (by decide)
    obtain ⟨v, d, rfl, hv, sd, k⟩ := h
    refine ⟨_, (pss_cons (ps_if (PW.pt (pw_or (pt_not (pt_val (pe_callB call_isT (by rfl) T.z_isinstance bt_isinstance (pa_cons (pv 0) (pa_cons (pe_bltn (v := V.ty "tuple") (by rfl) T.z_tuple bt_tuple rfl) pa_nil))))) (pw_or1 (pt_cmpR op_ne (pe_callB call_len_seq (by rfl) T.z_len bt_len (pa_cons (pv 0) pa_nil)) pe_int (nomark _)))))
      (pss_one (ps_ret pe_bl))
      pss_nil)
    (pss_one (ps_ret (pe_and (pe_call G_is_word r_is_word (by rfl) D_is_word.mg D_is_word.fn.kp b_is_word .nil pass0 (pa_cons (pe_ix ix_tup (pv 0) pe_int (fun _ _ => rfl)) pa_nil)) (pe_one (pe_cmpR (op_inS (K := K) hr.units) (pe_ix ix_tup (pv 0) pe_int (fun _ _ => rfl)) (pe_glob (v := V.ref a_KINDS) (by rfl) T.g_KINDS rfl) (by rfl))))))), ?_⟩
    refine ⟨_, rfl, _, _, rfl, hv.tyd sd, rfl, _, rfl, ?_⟩
    rw [hv.instTup]
    cases hv with
    | @tup a xs ds e r =>
      refine iteF ?_
      refine ⟨_, rfl, a, _, rfl, .inr (SqT.of e), rfl, _, rfl, ?_⟩
      by_cases hx : xs.length = 2
      · refine iteNS (by rw [hx]; rfl) ?_
        obtain ⟨x, y, rfl⟩ := len_two hx
        cases r with
        | @cons _ _ dx _ rx r =>
          cases r with
          | @cons _ _ dy _ ry r =>
            cases r
            have sx : shortD dx = true := shortAll_mem sd (by simp)
            have sy : shortD dy = true := shortAll_mem sd (by simp)
            refine ⟨_, rfl, a, _, _, _, rfl, rfl, SqT.of e, rfl, x, rfl, rx.tyd sx, fun H1 s1 => ?_⟩
            rw [rx.word]
            refine ⟨_, rfl, ?_⟩
            have k' : ∀ b : Bool, (wordD dx && kindD dy) = b → ∀ H', Same H H' → Q (.bl b) H' := fun b e H' s => by subst e; exact k H' s
            cases ew : wordD dx with
            | false => exact iteF (k' _ (by rw [ew]; rfl) _ s1)
            | true =>
              refine iteT ?_
              refine ⟨_, rfl, a, _, _, _, rfl, rfl, SqT.of (s1 _ _ e), rfl, a_KINDS, ["number", "word"], rfl, .inr T.q_KINDS, ?_⟩
              cases ry with
              | non => exact .inl ⟨rfl, k' _ (by rw [ew]; rfl) _ s1⟩
              | bl c => exact .inl ⟨rfl, k' _ (by rw [ew]; rfl) _ s1⟩
              | int i => exact .inl ⟨rfl, k' _ (by rw [ew]; rfl) _ s1⟩
              | str z => exact .inl ⟨rfl, k' _ (by rw [ew, kind_in]; rfl) _ s1⟩
              | lst e2 r2 => exact .inr ⟨_, rfl, .inl ⟨_, s1 _ _ e2⟩, k' _ (by rw [ew]; rfl) _ s1⟩
              | tup e2 r2 => exact .inr ⟨_, rfl, .inr ⟨_, s1 _ _ e2⟩, k' _ (by rw [ew]; rfl) _ s1⟩
      · have e2 : ¬ (V.int (xs.length : Int) = V.int 2) := by
          intro z
          injection z with z
          exact hx (by omega)
        rw [decide_eq_false e2]
        refine iteT ?_
        have e3 : colD (.tuple ds) = false := by
          rw [r.length] at hx
          rcases ds with _ | ⟨x, _ | ⟨y, _ | ⟨z, ds⟩⟩⟩ <;> first | rfl | exact absurd rfl hx
        rw [e3] at k
        exact k H (Same.refl _)
    | _ => exact iteT (k H (Same.refl _))
theorem sc_is_form : FnScope ["thing", "column", "name", "kind"] ["thing"] (defScope s_is_form) := ⟨rfl, rfl, rfl, by decide +kernel, rfl, by decide +kernel, by decide +kernel⟩
noncomputable def sp_is_form : Sp := fun vs H Q _ => ∃ v d, vs = [v] ∧ Dt H v d ∧ shortD d = true ∧ ∀ H', Same H H' → Q (.bl (formD d)) H'
set_option maxHeartbeats 8000000 in
theorem ok_is_form {fa : Addr} {fd : FuncData} (T : Txt K mg w t_FIGURES a_KINDS a_MOST_BY_KIND t_MOST_COLUMNS t_MOST_CONDITIONS t_MOST_FIGURES t_MOST_LETTERS t_MOST_NUMBER t_NONE) (D : Def K mg "is_form" s_is_form fa fd) : FnOk P w K mg base CX0 3 fa fd ["thing"] sp_is_form := by
  obtain ⟨fa_is_column, fd_is_column, D_is_column⟩ := T.d_is_column
  have G_is_column := ok_is_column (P := P) (w := w) (base := base) T D_is_column
  have b_is_column := D_is_column.fn.binds (ps := ["thing"]) fun _ _ _ _ _ _ us hl => match us, hl with | [_], _ => rfl
  refine D.fn.ok sc_is_form (fun vs H Q E h => ?_) (fun cdv A outer s H vs Q E hr h => ?_)
  · obtain ⟨v, d, rfl, _⟩ := h
    rfl
  ·
    have r_is_column : Room 2 _ := hr.mono (by decide)
    obtain ⟨v, d, rfl, hv, sd, k⟩ := h
    refine ⟨_, (pss_cons (ps_if (PW.pt (pw_or (pt_not (pt_val (pe_callB call_isT (by rfl) T.z_isinstance bt_isinstance (pa_cons (pv 0) (pa_cons (pe_bltn (v := V.ty "tuple") (by rfl) T.z_tuple bt_tuple rfl) pa_nil))))) (pw_or1 (pt_not (pt_chain op_le op_le pe_int (pe_callB call_len_seq (by rfl) T.z_len bt_len (pa_cons (pv 0) pa_nil)) (pe_glob (v := V.int 6) (by rfl) T.g_MOST_COLUMNS ⟨_, rfl⟩))))))
      (pss_one (ps_ret pe_bl))
      pss_nil)
    (pss_cons (ps_if (pt_not (pt_val (pe_callB (cr_all rfl) (by rfl) T.z_all bt_all (pa_cons (pe_lc (own := [("column", 1)]) (g := gName 1) (by rfl) sc_is_form.nd (pi_tup (pv 0)) (blkOk_by (own := [("column", 1)]) (N := ["thing", "column", "name", "kind"]) (sc := defScope s_is_form) (by decide +kernel))
        (fun _ _ _ _ _ => (pg_name (i := 1) sc_is_form.nd rfl (by first | exact Or.inl rfl | exact Or.inr rfl))) (fun _ _ _ _ _ => pts_nil)
        (fun _ _ _ _ _ => (pe_call G_is_column r_is_column (by rfl) D_is_column.mg D_is_column.fn.kp b_is_column .nil pass0 (pa_cons (pv 1) pa_nil)))) pa_nil))))
      (pss_one (ps_ret pe_bl))
      pss_nil)
    (pss_one (ps_ret (pe_cmpR op_eq (pe_callB call_lenS (by rfl) T.z_len bt_len (pa_cons (pe_sc (own := [("name", 2), ("kind", 3)]) (by rfl) sc_is_form.nd (pi_tup (pv 0)) (blkOk_by (own := [("name", 2), ("kind", 3)]) (N := ["thing", "column", "name", "kind"]) (sc := defScope s_is_form) (by decide +kernel))
        (fun _ _ _ _ _ => (pg_tupK (K := K) (n := 2) (by rfl) (pgs_cons (pg_name (i := 2) sc_is_form.nd rfl (by first | exact Or.inl rfl | exact Or.inr rfl)) (pgs_cons (pg_name (i := 3) sc_is_form.nd rfl (by first | exact Or.inl rfl | exact Or.inr rfl)) pgs_nil)))) (fun _ _ _ _ _ => pts_nil)
        (fun _ _ _ _ _ => (pv 2))) pa_nil)) (pe_callB call_len_seq (by rfl) T.z_len bt_len (pa_cons (pv 0) pa_nil)) (nomark _)))))), ?_⟩
    refine ⟨_, rfl, _, _, rfl, hv.tyd sd, rfl, _, rfl, ?_⟩
    rw [hv.instTup]
    cases hv with
    | @tup a xs ds e r =>
      have hlen := r.length
      have kf : ∀ c : Bool, formD (.tuple ds) = c → ∀ H', Same H H' → Q (.bl c) H' := fun c e H' s => by subst e; exact k H' s
      refine iteF ?_
      refine ⟨_, rfl, a, _, rfl, .inr (SqT.of e), _, _, rfl, rfl, _, rfl, ?_⟩
      refine ite2 (fun c1 => ⟨_, _, rfl, rfl, _, rfl, ?_⟩) (fun c1 => ⟨_, rfl, iteT ?_⟩)
      · refine ite2 (fun c2 => ?_) (fun c2 => ?_)
        · refine kf false ?_ H (Same.refl _)
          show (decide (1 ≤ ds.length) && decide (ds.length ≤ 6) && ds.all colD && decide ((ds.map nameD).Nodup)) = false
          rw [decide_eq_false (show ¬ ds.length ≤ 6 by simp only [Bool.not_eq_true', decide_eq_false_iff_not] at c2; omega)]
          simp
        · have l6 : ds.length ≤ 6 := by simp at c2; omega
          have l1 : 1 ≤ ds.length := by simp only [decide_eq_true_eq] at c1; omega
          refine ⟨_, rfl, a, rfl, ⟨_, SqT.of e⟩, fun D hD => ?_⟩
          refine lc_tup_map hD (fun i => .bl (colD (ds.getD i .none))) e (Nat.lt_of_le_of_lt (show xs.length ≤ 6 by omega) (by decide)) (fun i x H1 R F hx s1 hR => ⟨rfl, ?_⟩) (fun H1 s1 eD => ?_)
          · obtain ⟨d, hd, dx⟩ := r.get hx
            refine ⟨_, rfl, x, d, rfl, dx.same s1, shortAll_mem sd (List.mem_of_getElem? hd), fun H2 s2 => ?_⟩
            have := hR H2 s2
            rw [List.getD_eq_getElem?_getD, hd] at this
            exact this
          · refine ⟨D, (List.range xs.length).map fun i => colD (ds.getD i .none), rfl, SqL.of (by rw [eD, List.map_map]; rfl), _, rfl, ?_⟩
            have ea : (((List.range xs.length).map fun i => colD (ds.getD i .none)).all id) = ds.all colD := by
              rw [hlen]
              exact range_all ds colD .none
            rw [ea]
            refine ite2 (fun c3 => ?_) (fun c3 => ?_)
            · refine kf false ?_ H1 s1
              show (decide (1 ≤ ds.length) && decide (ds.length ≤ 6) && ds.all colD && decide ((ds.map nameD).Nodup)) = false
              have : ds.all colD = false := by simpa using c3
              rw [this]
              simp
            · have ca : ds.all colD = true := by simpa using c3
              refine ⟨_, rfl, a, rfl, ⟨_, SqT.of (s1 _ _ e)⟩, fun D2 hD2 => ?_⟩
              refine sc_tup_map hD2 (fun i => Sum.inr (nameD (ds.getD i .none))) (s1 _ _ e) (by omega) (fun i x H2 R F hx s2 hR => ?_) (fun H2 s2 eD2 => ?_)
              · obtain ⟨d, hd, dx⟩ := r.get hx
                have cd := List.all_eq_true.mp ca d (List.mem_of_getElem? hd)
                obtain ⟨ta, rfl, z, kd, rfl, et⟩ := col_pair dx cd
                refine ⟨ta, _, rfl, SqT.of (s2 _ _ (s1 _ _ et)), rfl, _, _, rfl, _, _, rfl, rfl, rfl, ?_⟩
                refine ⟨_, rfl, ?_⟩
                have := hR H2 (Same.refl _)
                rw [List.getD_eq_getElem?_getD, hd] at this
                exact this
              · refine ⟨D2, _, rfl, eD2, ?_, _, rfl, a, _, rfl, .inr (SqT.of (s2 _ _ (s1 _ _ e))), rfl, ?_⟩
                · rw [List.length_reverse, List.length_map, List.length_range]; omega
                · refine kf _ ?_ H2 (s1.trans s2)
                  rw [hlen, range_map ds (fun d => (Sum.inr (nameD d) : Key)) .none]
                  exact form_set l1 l6 ca
      · refine kf false ?_ H (Same.refl _)
        show (decide (1 ≤ ds.length) && decide (ds.length ≤ 6) && ds.all colD && decide ((ds.map nameD).Nodup)) = false
        rw [decide_eq_false (show ¬ 1 ≤ ds.length by simp only [decide_eq_true_eq] at c1; omega)]
        simp
    | _ => exact iteT (k H (Same.refl _))
theorem sc_are_bounds : FnScope ["kind", "low", "high", "bound"] ["kind", "low", "high"] (defScope s_are_bounds) := ⟨rfl, rfl, rfl, by decide +kernel, rfl, by decide +kernel, by decide +kernel⟩

set_option maxHeartbeats 8000000 in
theorem ok_are_bounds {fa : Addr} {fd : FuncData} (T : Txt K mg w t_FIGURES a_KINDS a_MOST_BY_KIND t_MOST_COLUMNS t_MOST_CONDITIONS t_MOST_FIGURES t_MOST_LETTERS t_MOST_NUMBER t_NONE) (D : Def K mg "are_bounds" s_are_bounds fa fd) : FnOk P w K mg base CX0 3 fa fd ["kind", "low", "high"] sp_are_bounds := by
  obtain ⟨fa_is_value, fd_is_value, D_is_value⟩ := T.d_is_value
  have G_is_value := ok_is_value (P := P) (w := w) (base := base) T D_is_value
  have b_is_value := D_is_value.fn.binds (ps := ["kind", "thing"]) fun _ _ _ _ _ _ us hl => match us, hl with | [_, _], _ => rfl
  refine D.fn.ok sc_are_bounds (fun vs H Q E h => ?_) (fun cdv A outer s H vs Q E hr h => ?_)
  · obtain ⟨kd, v, u, d, e, n, rfl, _⟩ := h
    rfl
  ·
    have r_is_value : Room 2 _ := hr.mono (by decide)
    obtain ⟨kd, v, u, d, e, n, rfl, hv, hu, hd, he, k⟩ := h
    refine ⟨_, (pss_cons (ps_if (PW.pt (pw_and (pt_cmpR op_isN (pv 1) pe_non (nomark _)) (pw_and1 (pt_cmpR op_isN (pv 2) pe_non (nomark _)))))
      (pss_one (ps_ret pe_bl))
      pss_nil)
    (pss_one (ps_ret (pe_callB (cr_all rfl) (by rfl) T.z_all bt_all (pa_cons (pe_lc (own := [("bound", 3)]) (g := gName 3) (by rfl) sc_are_bounds.nd (pi_tup (pe_tup (pa_cons (pv 1) (pa_cons (pv 2) pa_nil)))) (blkOk_by (own := [("bound", 3)]) (N := ["kind", "low", "high", "bound"]) (sc := defScope s_are_bounds) (by decide +kernel))
        (fun _ _ _ _ _ => (pg_name (i := 3) sc_are_bounds.nd rfl (by first | exact Or.inl rfl | exact Or.inr rfl))) (fun _ _ _ _ _ => pts_nil)
        (fun _ _ _ _ _ => (pe_or (pe_cmpR op_isN (pv 3) pe_non (nomark _)) (pe_one (pe_call G_is_value r_is_value (by rfl) D_is_value.mg D_is_value.fn.kp b_is_value .nil pass0 (pa_cons (pv 0) (pa_cons (pv 3) pa_nil))))))) pa_nil))))), ?_⟩
    refine seqR (fun σ' H' => σ' = [some (.str kd), some v, some u, none] ∧ H' = H ∧ (nonD d && nonD e) = false) ?_ ?_
    · rintro σ' H' ⟨rfl, rfl, c1⟩
      refine ⟨_, rfl, _, rfl, by show 2 ≤ sizeLine; decide, fun p hp => ⟨p, rfl, ⟨_, SqT.of upd_same⟩, fun D hD => ?_⟩⟩
      have s1 := same_new (o := HO.tup [v, u]) hp
      have r : DtAll (upd H' p (.tup [v, u])) [v, u] [d, e] := .cons (hv.same s1) (.cons (hu.same s1) .nil)
      have hes : ∀ x ∈ [d, e], Eas n x := fun x hx => by
        simp only [List.mem_cons, List.not_mem_nil, or_false] at hx
        rcases hx with rfl | rfl
        · exact hd
        · exact he
      have hp1 : (upd H' p (.tup [v, u])) p = some (.tup [v, u]) := upd_same
      generalize upd H' p (.tup [v, u]) = H1 at s1 r hp1 hD ⊢
      refine lc_tup_mapK hD (fun i => V.bl (nonD ([d, e].getD i .none) || valD kd ([d, e].getD i .none))) (SqT.of hp1) (by show 2 < sizeLine; decide) ?_ ?_
      · intro i x H2 R F hx s2 hR
        obtain ⟨dx, hdx, hx2⟩ := r.get hx
        have eg : [d, e].getD i .none = dx := by rw [List.getD_eq_getElem?_getD, hdx]; rfl
        rw [eg] at hR
        have hx3 := hx2.same s2
        refine ⟨rfl, ?_⟩
        refine ⟨_, rfl, rfl, _, rfl, ?_⟩
        rw [hx3.isNon]
        cases c2 : nonD dx with
        | true => rw [c2] at hR; exact iteT (hR _ (Same.refl _))
        | false =>
          rw [c2] at hR
          refine iteF ⟨_, rfl, _, rfl, kd, x, rfl, hx3.tyd (hes dx (List.mem_of_getElem? hdx)).sh, fun H3 s3 => ?_⟩
          rw [isVal_dt hx3]
          exact hR H3 s3
      · intro H2 s2 hD2
        refine ⟨D, [nonD d || valD kd d, nonD e || valD kd e], rfl, SqL.of hD2, ?_⟩
        have kk := k _ (s1.trans s2)
        have ek : boundsD kd d e = ([nonD d || valD kd d, nonD e || valD kd e] : List Bool).all id := by
          show (!(nonD d && nonD e) && ((nonD d || valD kd d) && (nonD e || valD kd e))) = _
          rw [c1]; simp
        rw [ek] at kk
        exact kk
    · intro nx hnx
      refine ⟨_, rfl, rfl, _, rfl, ?_⟩
      rw [hv.isNon]
      cases c1 : nonD d with
      | true =>
        refine iteT ⟨_, rfl, rfl, _, rfl, ?_⟩
        rw [hu.isNon]
        cases c2 : nonD e with
        | true =>
          refine iteT ?_
          have kk := k _ (Same.refl _)
          rw [show boundsD kd d e = false by unfold boundsD; rw [c1, c2]; rfl] at kk
          exact kk
        | false => exact iteF (nextK (hnx _ _ ⟨rfl, rfl, by rw [c1, c2]; rfl⟩))
      | false => exact iteF (iteF (nextK (hnx _ _ ⟨rfl, rfl, by rw [c1]; rfl⟩)))
theorem sc_is_condition : FnScope ["form", "thing", "kind"] ["form", "thing"] (defScope s_is_condition) := ⟨rfl, rfl, rfl, by decide +kernel, rfl, by decide +kernel, by decide +kernel⟩

set_option maxHeartbeats 8000000 in
theorem ok_is_condition {fa : Addr} {fd : FuncData} (T : Txt K mg w t_FIGURES a_KINDS a_MOST_BY_KIND t_MOST_COLUMNS t_MOST_CONDITIONS t_MOST_FIGURES t_MOST_LETTERS t_MOST_NUMBER t_NONE) (D : Def K mg "is_condition" s_is_condition fa fd) : FnOk P w K mg base CX0 4 fa fd ["form", "thing"] sp_is_condition := by
  obtain ⟨fa_kind_of, fd_kind_of, D_kind_of⟩ := T.d_kind_of
  have G_kind_of := ok_kind_of (P := P) (w := w) (base := base) T D_kind_of
  have b_kind_of := D_kind_of.fn.binds (ps := ["form", "thing"]) fun _ _ _ _ _ _ us hl => match us, hl with | [_, _], _ => rfl
  obtain ⟨fa_is_value, fd_is_value, D_is_value⟩ := T.d_is_value
  have G_is_value := ok_is_value (P := P) (w := w) (base := base) T D_is_value
  have b_is_value := D_is_value.fn.binds (ps := ["kind", "thing"]) fun _ _ _ _ _ _ us hl => match us, hl with | [_, _], _ => rfl
  obtain ⟨fa_are_bounds, fd_are_bounds, D_are_bounds⟩ := T.d_are_bounds
  have G_are_bounds := ok_are_bounds (P := P) (w := w) (base := base) T D_are_bounds
  have b_are_bounds := D_are_bounds.fn.binds (ps := ["kind", "low", "high"]) fun _ _ _ _ _ _ us hl => match us, hl with | [_, _, _], _ => rfl
  refine D.fn.ok sc_is_condition (fun vs H Q E h => ?_) (fun cdv A outer s H vs Q E hr h => ?_)
  · obtain ⟨a, v, cols, d, n, rfl, _⟩ := h
    rfl
  ·
    have r_kind_of : Room 1 _ := hr.mono (by decide)
    have r_is_value : Room 2 _ := hr.mono (by decide)
    have r_are_bounds : Room 3 _ := hr.mono (by decide)
    obtain ⟨a, v, cols, d, n, rfl, hf, hco, hv, hd, hn, k⟩ := h
    refine ⟨_, (pss_cons (ps_if (PW.pt (pw_or (pt_not (pt_val (pe_callB call_isT (by rfl) T.z_isinstance bt_isinstance (pa_cons (pv 1) (pa_cons (pe_bltn (v := V.ty "tuple") (by rfl) T.z_tuple bt_tuple rfl) pa_nil))))) (pw_or1 (pt_cmpR op_notIn_seq (pe_callB call_len_seq (by rfl) T.z_len bt_len (pa_cons (pv 1) pa_nil)) (pe_tup (pa_cons pe_int (pa_cons pe_int pa_nil))) (by rfl)))))
      (pss_one (ps_ret pe_bl))
      pss_nil)
    (pss_cons (ps_asg (pe_call G_kind_of r_kind_of (by rfl) D_kind_of.mg D_kind_of.fn.kp b_kind_of .nil pass0 (pa_cons (pv 0) (pa_cons (pe_ix ix_tup (pv 1) pe_int (fun _ _ => rfl)) pa_nil))) (pg_name (i := 2) sc_is_condition.nd rfl (by first | exact Or.inl rfl | exact Or.inr rfl)))
    (pss_cons (ps_if (pt_cmpR op_isN (pv 2) pe_non (nomark _))
      (pss_one (ps_ret pe_bl))
      pss_nil)
    (pss_cons (ps_if (pt_cmpR op_eq (pe_callB call_len_seq (by rfl) T.z_len bt_len (pa_cons (pv 1) pa_nil)) pe_int (nomark _))
      (pss_one (ps_ret (pe_and (pe_cmpR (op_eqD hr.units) (pe_ix ix_tup (pv 1) pe_int (fun _ _ => rfl)) pe_str (nomark _)) (pe_one (pe_call G_is_value r_is_value (by rfl) D_is_value.mg D_is_value.fn.kp b_is_value .nil pass0 (pa_cons (pv 2) (pa_cons (pe_ix ix_tup (pv 1) pe_int (fun _ _ => rfl)) pa_nil)))))))
      pss_nil)
    (pss_one (ps_ret (pe_and (pe_cmpR (op_eqD hr.units) (pe_ix ix_tup (pv 1) pe_int (fun _ _ => rfl)) pe_str (nomark _)) (pe_one (pe_call G_are_bounds r_are_bounds (by rfl) D_are_bounds.mg D_are_bounds.fn.kp b_are_bounds .nil pass0 (pa_cons (pv 2) (pa_cons (pe_ix ix_tup (pv 1) pe_int (fun _ _ => rfl)) (pa_cons (pe_ix ix_tup (pv 1) pe_int (fun _ _ => rfl)) pa_nil)))))))))))), ?_⟩
    refine ⟨_, rfl, _, _, rfl, hv.tyd hd.sh, rfl, _, rfl, ?_⟩
    rw [hv.instTup]
    have ewd : ∀ w : Str, w = "is" ∨ w = "from" → SeqAt.shaped (.str w) = true := fun w h => by
      rcases h with rfl | rfl <;> decide +kernel
    cases hv with
    | @tup t xs ds e r =>
      have hlen := r.length
      refine iteF ?_
      refine ⟨_, rfl, t, _, rfl, .inr (SqT.of e), by show 2 ≤ sizeLine; decide, fun p hp => ⟨p, _, rfl, .inr (SqT.of upd_same), rfl, rfl, _, rfl, ?_⟩⟩
      have s0 := same_new (o := HO.tup [V.int 3, V.int 4]) hp
      generalize upd H p (HO.tup [V.int 3, V.int 4]) = H0 at s0 ⊢
      have e0 := s0 _ _ e
      have r0 := r.same s0
      have hf0 := hf.frm (.of_same s0 : Frm [] _ _)
      have k0 : ∀ H', Same H0 H' → Q (.bl (condD cols (.tuple ds))) H' := fun H' s => k H' (s0.trans s)
      clear k r e hf s0
      rw [hlen, in34]
      by_cases c34 : ds.length = 3 ∨ ds.length = 4
      · rw [decide_eq_true c34]
        refine iteF (nextK ?_)
        rcases c34 with c3 | c4
        · obtain ⟨c, w, x, rfl⟩ := len_three c3
          obtain ⟨xc, xw, xx, rfl, hc, hw, hx⟩ := dt3 r0
          have ec := eas_in hd (d := c) (by simp)
          have ew := eas_in hd (d := w) (by simp)
          have ex := eas_in hd (d := x) (by simp)
          refine ⟨_, rfl, _, rfl, t, _, _, _, rfl, rfl, SqT.of e0, atI_nat (j := 0) rfl, a, xc, cols, c, n, rfl, hf0, hco, hc, ec, by omega, fun H2 s2 => ?_⟩
          have k0 : ∀ H', Same H0 H' → Q (.bl (match kindAt cols c with | none => false | some k => isW "is" w && valD k x)) H' := k0
          cases ck : kindAt cols c with
          | none =>
            rw [ck] at k0
            exact ⟨_, rfl, rfl, _, rfl, iteT (k0 _ s2)⟩
          | some kd =>
            rw [ck] at k0
            refine ⟨_, rfl, rfl, _, rfl, iteF (nextK ?_)⟩
            refine ⟨_, rfl, t, _, rfl, .inr (SqT.of (s2 _ _ e0)), rfl, _, rfl, iteT ?_⟩
            refine ⟨_, rfl, t, _, _, _, rfl, rfl, SqT.of (s2 _ _ e0), atI_nat (j := 1) rfl, w, .str "is", (hw.same s2).dp, .str _, ew.shaped (by omega), ewd _ (.inl rfl), _, rfl, ?_⟩
            rw [eqv_isW]
            have k0 : ∀ H', Same H0 H' → Q (.bl (isW "is" w && valD kd x)) H' := k0
            cases cw : isW "is" w with
            | false => rw [cw] at k0; exact iteF (k0 _ s2)
            | true =>
              rw [cw] at k0
              refine iteT ⟨_, rfl, _, rfl, t, _, _, _, rfl, rfl, SqT.of (s2 _ _ e0), atI_nat (j := 2) rfl, kd, xx, rfl, (hx.same s2).tyd ex.sh, fun H3 s3 => ?_⟩
              rw [isVal_dt hx]
              exact k0 _ (s2.trans s3)
        · obtain ⟨c, w, x, y, rfl⟩ := len_four c4
          obtain ⟨xc, xw, xx, xy, rfl, hc, hw, hx, hy⟩ := dt4 r0
          have ec := eas_in hd (d := c) (by simp)
          have ew := eas_in hd (d := w) (by simp)
          have ex := eas_in hd (d := x) (by simp)
          have ey := eas_in hd (d := y) (by simp)
          refine ⟨_, rfl, _, rfl, t, _, _, _, rfl, rfl, SqT.of e0, atI_nat (j := 0) rfl, a, xc, cols, c, n, rfl, hf0, hco, hc, ec, by omega, fun H2 s2 => ?_⟩
          have k0 : ∀ H', Same H0 H' → Q (.bl (match kindAt cols c with | none => false | some k => isW "from" w && boundsD k x y)) H' := k0
          cases ck : kindAt cols c with
          | none =>
            rw [ck] at k0
            exact ⟨_, rfl, rfl, _, rfl, iteT (k0 _ s2)⟩
          | some kd =>
            rw [ck] at k0
            refine ⟨_, rfl, rfl, _, rfl, iteF (nextK ?_)⟩
            refine ⟨_, rfl, t, _, rfl, .inr (SqT.of (s2 _ _ e0)), rfl, _, rfl, iteF (nextK ?_)⟩
            refine ⟨_, rfl, t, _, _, _, rfl, rfl, SqT.of (s2 _ _ e0), atI_nat (j := 1) rfl, w, .str "from", (hw.same s2).dp, .str _, ew.shaped (by omega), ewd _ (.inr rfl), _, rfl, ?_⟩
            rw [eqv_isW]
            have k0 : ∀ H', Same H0 H' → Q (.bl (isW "from" w && boundsD kd x y)) H' := k0
            cases cw : isW "from" w with
            | false => rw [cw] at k0; exact iteF (k0 _ s2)
            | true =>
              rw [cw] at k0
              refine iteT ⟨_, rfl, _, rfl, t, _, _, _, rfl, rfl, SqT.of (s2 _ _ e0), atI_nat (j := 2) rfl, _, rfl, t, _, _, _, rfl, rfl, SqT.of (s2 _ _ e0), atI_nat (j := 3) rfl, kd, xx, xy, x, y, n, rfl, hx.same s2, hy.same s2, ex, ey, fun H3 s3 => ?_⟩
              exact k0 _ (s2.trans s3)
      · rw [decide_eq_false c34]
        rw [condD_len c34] at k0
        exact iteT (k0 _ (Same.refl _))
    | _ => exact iteT (k _ (Same.refl _))
theorem sc_by_column : FnScope ["conditions", "condition"] ["conditions"] (defScope s_by_column) := ⟨rfl, rfl, rfl, by decide +kernel, rfl, by decide +kernel, by decide +kernel⟩

set_option maxHeartbeats 8000000 in
theorem ok_by_column {fa : Addr} {fd : FuncData} (T : Txt K mg w t_FIGURES a_KINDS a_MOST_BY_KIND t_MOST_COLUMNS t_MOST_CONDITIONS t_MOST_FIGURES t_MOST_LETTERS t_MOST_NUMBER t_NONE) (D : Def K mg "by_column" s_by_column fa fd) : FnOk P w K mg base CX0 1 fa fd ["conditions"] sp_by_columnD := by
  refine D.fn.ok sc_by_column (fun vs H Q E h => ?_) (fun cdv A outer s H vs Q E hr h => ?_)
  · obtain ⟨a, xs, ds, ws, rfl, _⟩ := h
    rfl
  ·
    obtain ⟨a, xs, ds, ws, rfl, ha, hr, l10, hP, k⟩ := h
    refine ⟨_, (pss_one (ps_ret (pe_dc (own := [("condition", 1)]) (g := gName 1) (by rfl) sc_by_column.nd (pi_tup (pv 0)) (blkOk_by (own := [("condition", 1)]) (N := ["conditions", "condition"]) (sc := defScope s_by_column) (by decide +kernel))
        (fun _ _ _ _ _ => (pg_name (i := 1) sc_by_column.nd rfl (by first | exact Or.inl rfl | exact Or.inr rfl))) (fun _ _ _ _ _ => pts_nil)
        (fun _ _ _ _ _ => (pe_ix (ix_tupK (K := K)) (pv 1) pe_int (fun _ _ => rfl)))
        (fun _ _ _ _ _ => (pv 1))))), ?_⟩
    have hl := hr.length
    have hl2 := Paired.length hP
    refine ⟨_, rfl, a, rfl, ⟨_, SqT.of ha⟩, fun D hD => ?_⟩
    refine dc_tup (xs := xs) (fun i H2 => Same H H2 ∧ ∃ kvs, H2 D = some (.dK kvs) ∧ (∀ q : Key, (kvs.any fun kv => decide (kv.1 = q)) = hasK q (((ws.take i).map Sum.inr).reverse)) ∧ kvs.length = dcnt (((ws.take i).map Sum.inr).reverse)) ⟨same_new hD, [], upd_same, fun q => rfl, rfl⟩ (fun i H2 _ ⟨s2, _⟩ => SqT.of (s2 _ _ ha)) ?_ ?_
    · rintro i x H2 hx ⟨s2, kvs, hD2, hk, hn⟩
      obtain ⟨d, hd, hx2⟩ := hr.get hx
      obtain ⟨w, hw, rest, rfl⟩ := Paired.getL hP hd
      have hil : i < ds.length := (List.getElem?_eq_some_iff.mp hd).1
      cases hx2 with
      | @tup t ys _ e2 r2 =>
        cases r2 with
        | @cons y0 ys' _ _ h0 r3 =>
          cases h0
          refine ⟨rfl, ?_⟩
          refine ⟨_, rfl, t, _, _, _, rfl, rfl, SqT.of (s2 _ _ e2), atI_nat (j := 0) rfl, _, rfl, kvs, .inr w, rfl, hD2, ?_, same_put s2 hD, ?_⟩
          · have := dcnt_le (((ws.take i).map (Sum.inr : Str → Key)).reverse)
            rw [List.length_reverse, List.length_map, List.length_take] at this
            exact lt_line (by omega)
          · have et : (((ws.take (i + 1)).map (Sum.inr : Str → Key)).reverse) = Sum.inr w :: ((ws.take i).map (Sum.inr : Str → Key)).reverse := by
              rw [List.take_succ, hw]
              simp
            rw [et]
            have hkw := hk (.inr w)
            refine ⟨_, upd_same, fun q => ?_, ?_⟩
            · rw [putK_any, hk q]; rfl
            · rw [putK_len, hkw, hn]; rfl
    · rintro H2 ⟨s2, kvs, hD2, hk, hn⟩
      rw [hl, hl2, List.take_length] at hn
      exact k D kvs H2 s2 hD2 hn
theorem sc_are_conditions : FnScope ["form", "thing", "condition"] ["form", "thing"] (defScope s_are_conditions) := ⟨rfl, rfl, rfl, by decide +kernel, rfl, by decide +kernel, by decide +kernel⟩

set_option maxHeartbeats 8000000 in
theorem ok_are_conditions {fa : Addr} {fd : FuncData} (T : Txt K mg w t_FIGURES a_KINDS a_MOST_BY_KIND t_MOST_COLUMNS t_MOST_CONDITIONS t_MOST_FIGURES t_MOST_LETTERS t_MOST_NUMBER t_NONE) (D : Def K mg "are_conditions" s_are_conditions fa fd) : FnOk P w K mg base CX0 5 fa fd ["form", "thing"] sp_are_conditions := by
  obtain ⟨fa_is_condition, fd_is_condition, D_is_condition⟩ := T.d_is_condition
  have G_is_condition := ok_is_condition (P := P) (w := w) (base := base) T D_is_condition
  have b_is_condition := D_is_condition.fn.binds (ps := ["form", "thing"]) fun _ _ _ _ _ _ us hl => match us, hl with | [_, _], _ => rfl
  obtain ⟨fa_by_column, fd_by_column, D_by_column⟩ := T.d_by_column
  have G_by_column := ok_by_column (P := P) (w := w) (base := base) T D_by_column
  have b_by_column := D_by_column.fn.binds (ps := ["conditions"]) fun _ _ _ _ _ _ us hl => match us, hl with | [_], _ => rfl
  refine D.fn.ok sc_are_conditions (fun vs H Q E h => ?_) (fun cdv A outer s H vs Q E hr h => ?_)
  · obtain ⟨a, v, cols, d, n, rfl, _⟩ := h
    rfl
  ·
    have r_is_condition : Room 4 _ := hr.mono (by decide)
    have r_by_column : Room 1 _ := hr.mono (by decide)
    obtain ⟨a, v, cols, d, n, rfl, hf, hco, hv, hd, hn, k⟩ := h
    refine ⟨_, (pss_cons (ps_if (PW.pt (pw_or (pt_not (pt_val (pe_callB call_isT (by rfl) T.z_isinstance bt_isinstance (pa_cons (pv 1) (pa_cons (pe_bltn (v := V.ty "tuple") (by rfl) T.z_tuple bt_tuple rfl) pa_nil))))) (pw_or1 (pt_cmpR op_gt (pe_callB call_len_seq (by rfl) T.z_len bt_len (pa_cons (pv 1) pa_nil)) (pe_glob (v := V.int 6) (by rfl) T.g_MOST_CONDITIONS ⟨_, rfl⟩) (nomark _)))))
      (pss_one (ps_ret pe_bl))
      pss_nil)
    (pss_cons (ps_if (pt_not (pt_val (pe_callB (cr_all rfl) (by rfl) T.z_all bt_all (pa_cons (pe_lc (own := [("condition", 2)]) (g := gName 2) (by rfl) sc_are_conditions.nd (pi_tup (pv 1)) (blkOk_by (own := [("condition", 2)]) (N := ["form", "thing", "condition"]) (sc := defScope s_are_conditions) (by decide +kernel))
        (fun _ _ _ _ _ => (pg_name (i := 2) sc_are_conditions.nd rfl (by first | exact Or.inl rfl | exact Or.inr rfl))) (fun _ _ _ _ _ => pts_nil)
        (fun _ _ _ _ _ => (pe_call G_is_condition r_is_condition (by rfl) D_is_condition.mg D_is_condition.fn.kp b_is_condition .nil pass0 (pa_cons (pv 0) (pa_cons (pv 2) pa_nil))))) pa_nil))))
      (pss_one (ps_ret pe_bl))
      pss_nil)
    (pss_one (ps_ret (pe_cmpR op_eq (pe_callB call_lenD (by rfl) T.z_len bt_len (pa_cons (pe_call G_by_column r_by_column (by rfl) D_by_column.mg D_by_column.fn.kp b_by_column .nil pass0 (pa_cons (pv 1) pa_nil)) pa_nil)) (pe_callB call_len_seq (by rfl) T.z_len bt_len (pa_cons (pv 1) pa_nil)) (nomark _)))))), ?_⟩
    refine ⟨_, rfl, _, _, rfl, hv.tyd hd.sh, rfl, _, rfl, ?_⟩
    rw [hv.instTup]
    cases hv with
    | @tup t xs ds e r =>
      have hlen := r.length
      have k : ∀ H', Same H H' → Q (.bl (decide (ds.length ≤ 6) && ds.all (condD cols) && decide ((ds.map headOf).Nodup))) H' := k
      refine iteF ?_
      refine ⟨_, rfl, t, _, rfl, .inr (SqT.of e), _, _, rfl, rfl, _, rfl, ?_⟩
      rw [hlen]
      by_cases c6 : ds.length ≤ 6
      · rw [decide_eq_true c6] at k
        rw [decide_eq_false (show ¬ (6 : Int) < ((ds.length : Nat) : Int) by omega)]
        refine iteF (nextK ?_)
        refine ⟨_, rfl, t, rfl, ⟨_, SqT.of e⟩, fun D hD => ?_⟩
        refine lc_tup_mapK hD (fun i => V.bl (condD cols (ds.getD i .none))) (SqT.of e) (lt_line (by omega)) ?_ ?_
        · intro i x H2 R F hx s2 hR
          obtain ⟨dx, hdx, hx2⟩ := r.get hx
          have eg : ds.getD i .none = dx := by rw [List.getD_eq_getElem?_getD, hdx]; rfl
          rw [eg] at hR
          refine ⟨rfl, ?_⟩
          exact ⟨_, rfl, _, rfl, a, x, cols, dx, n, rfl, hf.frm (.of_same s2 : Frm [] _ _), hco, hx2.same s2, eas_in hd (List.mem_of_getElem? hdx), hn, fun H3 s3 => hR H3 s3⟩
        · intro H2 s2 hD2
          rw [hlen, range_map ds (fun d => V.bl (condD cols d)) .none] at hD2
          refine ⟨D, ds.map (condD cols), rfl, SqL.of (by rw [hD2, List.map_map]; rfl), _, rfl, ?_⟩
          rw [show (ds.map (condD cols)).all id = ds.all (condD cols) by rw [List.all_map]; rfl]
          cases c3 : ds.all (condD cols) with
          | false => rw [c3] at k; exact iteT (k _ s2)
          | true =>
            rw [c3] at k
            refine iteF (nextK ?_)
            have hPw : Paired (fun d w => ∃ r, d = PyData.tuple (.str w :: r)) ds (ds.map headOf) := paired_idx (by rw [List.length_map]) fun i x w h1 h2 => by
              rw [List.getElem?_map, h1] at h2
              have h2 : headOf x = w := Option.some.inj h2
              subst h2
              exact cond_head (List.all_eq_true.mp c3 x (List.mem_of_getElem? h1))
            refine ⟨_, rfl, t, xs, ds, ds.map headOf, rfl, s2 _ _ e, r.same s2, by omega, hPw, fun q kvs H3 s3 hq hn3 => ?_⟩
            refine ⟨q, kvs, rfl, hq, _, rfl, t, _, rfl, .inr (SqT.of (s3 _ _ (s2 _ _ e))), rfl, ?_⟩
            have kk := k _ (s2.trans s3)
            rw [hn3, hlen]
            have ek : decide (V.int ((dcnt (((ds.map headOf).map (Sum.inr : Str → Key)).reverse) : Nat) : Int) = V.int ((ds.length : Nat) : Int)) = decide ((ds.map headOf).Nodup) := by
              refine decide_eq_decide.mpr ?_
              rw [← dcnt_iff, List.length_map]
              exact ⟨fun h => by injection h with h; omega, fun h => by rw [h]⟩
            rw [ek]
            simpa using kk
      · rw [decide_eq_false c6] at k
        rw [decide_eq_true (show (6 : Int) < ((ds.length : Nat) : Int) by omega)]
        exact iteT (k _ (Same.refl _))
    | _ => exact iteT (k _ (Same.refl _))
theorem sc_is_design : FnScope ["form", "thing", "kind", "columns"] ["form", "thing"] (defScope s_is_design) := ⟨rfl, rfl, rfl, by decide +kernel, rfl, by decide +kernel, by decide +kernel⟩

set_option maxHeartbeats 8000000 in
theorem ok_is_design {fa : Addr} {fd : FuncData} (T : Txt K mg w t_FIGURES a_KINDS a_MOST_BY_KIND t_MOST_COLUMNS t_MOST_CONDITIONS t_MOST_FIGURES t_MOST_LETTERS t_MOST_NUMBER t_NONE) (D : Def K mg "is_design" s_is_design fa fd) : FnOk P w K mg base CX0 3 fa fd ["form", "thing"] sp_is_design7 := by
  obtain ⟨fa_are_columns, fd_are_columns, D_are_columns⟩ := T.d_are_columns
  have G_are_columns := ok_are_columns (P := P) (w := w) (base := base) T D_are_columns
  have b_are_columns := D_are_columns.fn.binds (ps := ["form", "thing", "least", "most"]) fun _ _ _ _ _ _ us hl => match us, hl with | [_, _, _, _], _ => rfl
  refine D.fn.ok sc_is_design (fun vs H Q E h => ?_) (fun cdv A outer s H vs Q E hr h => ?_)
  · obtain ⟨a, dp, cols, kd, ws, rfl, _⟩ := h
    rfl
  ·
    have r_are_columns : Room 2 _ := hr.mono (by decide)
    obtain ⟨a, dp, cols, kd, ws, rfl, hf, hco, ⟨wp, hp, hw⟩, ok, k⟩ := h
    refine ⟨_, (pss_cons (ps_if (PW.pt (pw_or (pt_not (pt_val (pe_callB call_isT (by rfl) T.z_isinstance bt_isinstance (pa_cons (pv 1) (pa_cons (pe_bltn (v := V.ty "tuple") (by rfl) T.z_tuple bt_tuple rfl) pa_nil))))) (pw_or1 (pt_cmpR op_ne (pe_callB call_len_seq (by rfl) T.z_len bt_len (pa_cons (pv 1) pa_nil)) pe_int (nomark _)))))
      (pss_one (ps_ret pe_bl))
      pss_nil)
    (pss_cons (ps_asg (pv 1) (pg_tupK (K := K) (n := 2) (by rfl) (pgs_cons (pg_name (i := 2) sc_is_design.nd rfl (by first | exact Or.inl rfl | exact Or.inr rfl)) (pgs_cons (pg_name (i := 3) sc_is_design.nd rfl (by first | exact Or.inl rfl | exact Or.inr rfl)) pgs_nil))))
    (pss_cons (ps_if (PW.pt (pw_or (pt_not (pt_val (pe_callB call_isT (by rfl) T.z_isinstance bt_isinstance (pa_cons (pv 2) (pa_cons (pe_bltn (v := V.ty "str") (by rfl) T.z_str bt_str rfl) pa_nil))))) (pw_or1 (pt_cmpR op_notInM (pv 2) (pe_glob (v := V.ref a_MOST_BY_KIND) (by rfl) T.g_MOST_BY_KIND rfl) (by rfl)))))
      (pss_one (ps_ret pe_bl))
      pss_nil)
    (pss_one (ps_ret (pe_call G_are_columns r_are_columns (by rfl) D_are_columns.mg D_are_columns.fn.kp b_are_columns .nil pass0 (pa_cons (pv 0) (pa_cons (pv 3) (pa_cons pe_int (pa_cons (pe_ix ix_mod (pe_glob (v := V.ref a_MOST_BY_KIND) (by rfl) T.g_MOST_BY_KIND rfl) (pv 2) (fun _ _ => rfl)) pa_nil)))))))))), ?_⟩
    obtain ⟨m, hm, hwm⟩ := ok.m
    have kl := ok.klen
    refine ⟨_, rfl, _, _, rfl, .inr ⟨_, hp⟩, rfl, _, rfl, ?_⟩
    rw [instB_tup hp]
    refine iteF ?_
    refine ⟨_, rfl, dp, _, rfl, .inr (SqT.of hp), rfl, _, rfl, iteF (nextK ?_)⟩
    refine ⟨_, rfl, dp, _, rfl, SqT.of hp, rfl, _, _, rfl, _, _, rfl, rfl, ?_⟩
    refine ⟨_, rfl, _, _, rfl, (show kd.length ≤ 1000 by omega), rfl, _, rfl, ?_⟩
    refine iteF ?_
    have el : ([("tree", V.int 4), ("hash", V.int 3), ("bits", V.int 1)] : List (Str × V)).lookup kd = some (V.int (m : Nat)) := by
      rcases hm with ⟨rfl, rfl⟩ | ⟨rfl, rfl⟩ | ⟨rfl, rfl⟩ <;> rfl
    refine ⟨_, rfl, a_MOST_BY_KIND, kd, _, rfl, rfl, T.m_MOST_BY_KIND, _, rfl, ?_⟩
    rw [el]
    refine iteF (nextK ?_)
    refine ⟨_, rfl, _, rfl, _, rfl, a_MOST_BY_KIND, kd, _, _, rfl, rfl, T.m_MOST_BY_KIND, el, ?_⟩
    refine ⟨a, .ref wp, cols, .tuple (ws.map .str), 1, m, 1, rfl, hf, hco, .tup hw (strsG_dt _ _), words_eas (ok.words hco) (by have := ok.l6; omega), ?_, fun H' s => ?_⟩
    · rcases hm with ⟨_, rfl⟩ | ⟨_, rfl⟩ | ⟨_, rfl⟩ <;> decide
    rw [cols_good ok.l1 hwm ok.sub ok.nd]
    exact k _ s
theorem sc_show_row : FnScope ["row", "value"] ["row"] (defScope s_show_row) := ⟨rfl, rfl, rfl, by decide +kernel, rfl, by decide +kernel, by decide +kernel⟩

set_option maxHeartbeats 8000000 in
theorem ok_show_row {fa : Addr} {fd : FuncData} (T : Txt K mg w t_FIGURES a_KINDS a_MOST_BY_KIND t_MOST_COLUMNS t_MOST_CONDITIONS t_MOST_FIGURES t_MOST_LETTERS t_MOST_NUMBER t_NONE) (D : Def K mg "show_row" s_show_row fa fd) : FnOk P w K mg base CX0 1 fa fd ["row"] sp_show_row := by
  refine D.fn.ok sc_show_row (fun vs H Q E h => ?_) (fun cdv A outer s H vs Q E hr h => ?_)
  · obtain ⟨a, r, rfl, _⟩ := h
    rfl
  ·
    obtain ⟨a, r, rfl, ha, hk, l6, k⟩ := h
    refine ⟨_, (pss_one (ps_ret (pe_join pe_str (pe_lc (own := [("value", 1)]) (g := gName 1) (by rfl) sc_show_row.nd (pi_tup (pv 0)) (blkOk_by (own := [("value", 1)]) (N := ["row", "value"]) (sc := defScope s_show_row) (by decide +kernel))
        (fun _ _ _ _ _ => (pg_name (i := 1) sc_show_row.nd rfl (by first | exact Or.inl rfl | exact Or.inr rfl))) (fun _ _ _ _ _ => pts_nil)
        (fun _ _ _ _ _ => (pe_callTy (call_strDK (K := K) hr.gd hr.units150) (by rfl) T.z_str bt_str (pa_cons (pv 1) pa_nil))))))), ?_⟩
    refine ⟨⟨_, rfl⟩, ?_⟩
    refine ⟨_, rfl, a, rfl, ⟨_, SqT.of ha⟩, fun D hD => ?_⟩
    refine lc_tup_map hD (fun i => V.str (keyS (r.getD i (.inl 0)))) ha (by rw [List.length_map]; exact lt_line (by omega)) ?_ ?_
    · intro i x H1 R F hx s1 hR
      rw [List.getElem?_map] at hx
      obtain ⟨q, hq, rfl⟩ := Option.map_eq_some_iff.mp hx
      have hR := hR H1 (Same.refl _)
      rw [List.getD_eq_getElem?_getD, hq] at hR
      have hk := hk q (List.mem_of_getElem? hq)
      refine ⟨rfl, ?_⟩
      obtain ⟨f1, f2, f3, f4⟩ := (((Fine.key hk).mono (by decide) (by decide)) : Fine 10000000 5 (dK q)).str
      refine ⟨_, rfl, kV q, dK q, rfl, (key_dt H1 q).dp, f1, f2, f3, f4, ?_⟩
      cases q with
      | inl i => exact hR
      | inr x => exact hR
    intro H1 s1 hD1
    rw [List.length_map, range_mapG r (fun q => V.str (keyS q)) (.inl 0)] at hD1
    have hD2 : H1 D = some (.lst ((r.map keyS).map V.str)) := by rw [hD1, List.map_map]; rfl
    have hs := sum_len (ws := r.map keyS) (n := 8) fun w hw => by
      obtain ⟨q, hq, rfl⟩ := List.mem_map.mp hw
      exact key_len (hk q hq)
    obtain ⟨_, _, _, _, _, e6, _⟩ := lit_len
    rw [List.length_map] at hs
    exact ⟨",", D, r.map keyS, rfl, rfl, .inl (SqL.of hD2), by rw [List.length_map, e6]; omega, k _ s1⟩
theorem sc_show_form : FnScope ["form", "name", "kind"] ["form"] (defScope s_show_form) := ⟨rfl, rfl, rfl, by decide +kernel, rfl, by decide +kernel, by decide +kernel⟩

set_option maxHeartbeats 8000000 in
theorem ok_show_form {fa : Addr} {fd : FuncData} (T : Txt K mg w t_FIGURES a_KINDS a_MOST_BY_KIND t_MOST_COLUMNS t_MOST_CONDITIONS t_MOST_FIGURES t_MOST_LETTERS t_MOST_NUMBER t_NONE) (D : Def K mg "show_form" s_show_form fa fd) : FnOk P w K mg base CX0 1 fa fd ["form"] sp_show_form := by
  refine D.fn.ok sc_show_form (fun vs H Q E h => ?_) (fun cdv A outer s H vs Q E hr h => ?_)
  · obtain ⟨a, cols, rfl, _⟩ := h
    rfl
  ·
    obtain ⟨a, cols, rfl, hf, hco, k⟩ := h
    refine ⟨_, (pss_one (ps_ret (pe_join pe_str (pe_lc (own := [("name", 1), ("kind", 2)]) (by rfl) sc_show_form.nd (pi_tup (pv 0)) (blkOk_by (own := [("name", 1), ("kind", 2)]) (N := ["form", "name", "kind"]) (sc := defScope s_show_form) (by decide +kernel))
        (fun _ _ _ _ _ => (pg_tupK (K := K) (n := 2) (by rfl) (pgs_cons (pg_name (i := 1) sc_show_form.nd rfl (by first | exact Or.inl rfl | exact Or.inr rfl)) (pgs_cons (pg_name (i := 2) sc_show_form.nd rfl (by first | exact Or.inl rfl | exact Or.inr rfl)) pgs_nil)))) (fun _ _ _ _ _ => pts_nil)
        (fun _ _ _ _ _ => (pe_fstr (pj_cons (pe_fmt (pv 1)) (pj_cons pe_str (pj_cons (pe_fmt (pv 2)) pj_nil))))))))), ?_⟩
    obtain ⟨ts, ea, lt, ft⟩ := id hf.ex
    have h6 := hco.c6
    refine ⟨⟨_, rfl⟩, ?_⟩
    refine ⟨_, rfl, a, rfl, ⟨_, SqT.of ea⟩, fun D hD => ?_⟩
    refine lc_tup_map hD (fun i => V.str (colS (cols.getD i ("", "")))) ea (by rw [List.length_map, lt]; exact lt_line (by omega)) ?_ ?_
    · intro i x H1 R F hx s1 hR
      rw [List.getElem?_map] at hx
      obtain ⟨t, ht, rfl⟩ := Option.map_eq_some_iff.mp hx
      have hi : i < cols.length := by rw [← lt]; exact (List.getElem?_eq_some_iff.mp ht).1
      have hci : cols[i]? = some cols[i] := by simp [hi]
      have hR := hR H1 (Same.refl _)
      rw [List.getD_eq_getElem?_getD, hci] at hR
      have etc := ft i t _ ht hci
      have hcm := List.mem_of_getElem? hci
      have hw := (hco.nm _ hcm).hi
      have hk := hco.kd _ hcm
      generalize cols[i] = c at etc hw hk hR
      obtain ⟨w, kd⟩ := c
      refine ⟨t, _, rfl, SqT.of (s1 _ _ etc), rfl, _, _, rfl, _, _, rfl, rfl, ?_⟩
      have hkl : kd.length ≤ 6 := by rcases hk with rfl | rfl <;> decide +kernel
      obtain ⟨e0, _, _, _, _, _, _⟩ := lit_len
      have ec : (":" : Str).length = 1 := by decide +kernel
      have hw : w.length ≤ 8 := hw
      have fin : (Str.empty ++ w ++ ":" ++ kd).length ≤ sizeLine := line (by simp only [len_app]; omega)
      exact ⟨rfl, _, rfl, .inl ⟨w, rfl, line (by omega), _, rfl, line (by simp only [len_app]; omega), _, rfl, line (by simp only [len_app]; omega), _, rfl, .inl ⟨kd, rfl, line (by omega), _, rfl, fin, fin, hR⟩⟩⟩
    intro H1 s1 hD1
    rw [List.length_map, lt, range_mapG cols (fun c => V.str (colS c)) ("", "")] at hD1
    have hD2 : H1 D = some (.lst ((cols.map colS).map V.str)) := by rw [hD1, List.map_map]; rfl
    have hs := sum_len (ws := cols.map colS) (n := 20) fun w hw => by
      obtain ⟨c, hc, rfl⟩ := List.mem_map.mp hw
      exact col_len hco hc
    obtain ⟨_, _, _, _, _, e6, _⟩ := lit_len
    rw [List.length_map] at hs
    exact ⟨",", D, cols.map colS, rfl, rfl, .inl (SqL.of hD2), by rw [List.length_map, e6]; omega, k _ s1⟩
theorem sc_show_columns : FnScope ["columns"] ["columns"] (defScope s_show_columns) := ⟨rfl, rfl, rfl, by decide +kernel, rfl, by decide +kernel, by decide +kernel⟩

set_option maxHeartbeats 8000000 in
theorem ok_show_columns {fa : Addr} {fd : FuncData} (T : Txt K mg w t_FIGURES a_KINDS a_MOST_BY_KIND t_MOST_COLUMNS t_MOST_CONDITIONS t_MOST_FIGURES t_MOST_LETTERS t_MOST_NUMBER t_NONE) (D : Def K mg "show_columns" s_show_columns fa fd) : FnOk P w K mg base CX0 1 fa fd ["columns"] sp_show_columns := by
  refine D.fn.ok sc_show_columns (fun vs H Q E h => ?_) (fun cdv A outer s H vs Q E hr h => ?_)
  · obtain ⟨a, ws, rfl, _⟩ := h
    rfl
  ·
    obtain ⟨a, ws, rfl, ha, hw, l6, k⟩ := h
    refine ⟨_, (pss_one (ps_ret (pe_ifExp (pt_truth (pv 0) (by intro _; rfl)) (pe_join pe_str (pv 0)) (pe_glob (v := V.str "-") (by rfl) T.g_NONE ⟨_, rfl⟩)))), ?_⟩
    refine ⟨_, rfl, _, .inr (.inl ⟨_, SqT.of ha, rfl⟩), ?_⟩
    cases ws with
    | nil => exact iteF k
    | cons w r =>
      refine iteT ⟨⟨_, rfl⟩, _, rfl, "+", a, w :: r, rfl, rfl, .inr (SqT.of ha), ?_, k⟩
      have := words_sum hw
      have e : ("+" : Str).length = 1 := by decide +kernel
      rw [e]
      omega
theorem sc_show_design : FnScope ["design", "kind", "columns"] ["design"] (defScope s_show_design) := ⟨rfl, rfl, rfl, by decide +kernel, rfl, by decide +kernel, by decide +kernel⟩

set_option maxHeartbeats 8000000 in
theorem ok_show_design {fa : Addr} {fd : FuncData} (T : Txt K mg w t_FIGURES a_KINDS a_MOST_BY_KIND t_MOST_COLUMNS t_MOST_CONDITIONS t_MOST_FIGURES t_MOST_LETTERS t_MOST_NUMBER t_NONE) (D : Def K mg "show_design" s_show_design fa fd) : FnOk P w K mg base CX0 2 fa fd ["design"] sp_show_design := by
  obtain ⟨fa_show_columns, fd_show_columns, D_show_columns⟩ := T.d_show_columns
  have G_show_columns := ok_show_columns (P := P) (w := w) (base := base) T D_show_columns
  have b_show_columns := D_show_columns.fn.binds (ps := ["columns"]) fun _ _ _ _ _ _ us hl => match us, hl with | [_], _ => rfl
  refine D.fn.ok sc_show_design (fun vs H Q E h => ?_) (fun cdv A outer s H vs Q E hr h => ?_)
  · obtain ⟨p, cols, kd, ws, rfl, _⟩ := h
    rfl
  ·
    have r_show_columns : Room 1 _ := hr.mono (by decide)
    obtain ⟨p, cols, kd, ws, rfl, ⟨wp, hp, hw⟩, hco, ok, k⟩ := h
    refine ⟨_, (pss_cons (ps_asg (pv 0) (pg_tupK (K := K) (n := 2) (by rfl) (pgs_cons (pg_name (i := 1) sc_show_design.nd rfl (by first | exact Or.inl rfl | exact Or.inr rfl)) (pgs_cons (pg_name (i := 2) sc_show_design.nd rfl (by first | exact Or.inl rfl | exact Or.inr rfl)) pgs_nil))))
    (pss_one (ps_ret (pe_fstr (pj_cons (pe_fmt (pv 1)) (pj_cons pe_str (pj_cons (pe_fmt (pe_call G_show_columns r_show_columns (by rfl) D_show_columns.mg D_show_columns.fn.kp b_show_columns .nil pass0 (pa_cons (pv 2) pa_nil))) pj_nil))))))), ?_⟩
    obtain ⟨e0, _, _, _, _, _, _⟩ := lit_len
    have ec : (":" : Str).length = 1 := by decide +kernel
    have hkl := ok.klen
    have wW := ok.words hco
    have l6 := ok.l6
    have cl := cols_len wW l6
    have fin : (Str.empty ++ kd ++ ":" ++ colsS ws).length ≤ sizeLine := line (by simp only [len_app]; omega)
    refine ⟨_, rfl, p, _, rfl, SqT.of hp, rfl, _, _, rfl, _, _, rfl, rfl, ?_⟩
    dsimp only
    refine ⟨_, rfl, .inl ⟨kd, rfl, line (by omega), _, rfl, line (by simp only [len_app]; omega), _, rfl, line (by simp only [len_app]; omega), _, rfl, wp, ws, rfl, hw, wW, l6, .inl ⟨_, rfl, line (by omega), _, rfl, fin, fin, k _ (Same.refl _)⟩⟩⟩
theorem sc_show_bound : FnScope ["bound"] ["bound"] (defScope s_show_bound) := ⟨rfl, rfl, rfl, by decide +kernel, rfl, by decide +kernel, by decide +kernel⟩

set_option maxHeartbeats 8000000 in
theorem ok_show_bound {fa : Addr} {fd : FuncData} (T : Txt K mg w t_FIGURES a_KINDS a_MOST_BY_KIND t_MOST_COLUMNS t_MOST_CONDITIONS t_MOST_FIGURES t_MOST_LETTERS t_MOST_NUMBER t_NONE) (D : Def K mg "show_bound" s_show_bound fa fd) : FnOk P w K mg base CX0 1 fa fd ["bound"] sp_show_bound := by
  refine D.fn.ok sc_show_bound (fun vs H Q E h => ?_) (fun cdv A outer s H vs Q E hr h => ?_)
  · obtain ⟨o, rfl, _⟩ := h
    rfl
  ·
    obtain ⟨o, rfl, ho, k⟩ := h
    refine ⟨_, (pss_one (ps_ret (pe_ifExp (pt_cmpR op_isN (pv 0) pe_non (nomark _)) pe_str (pe_callTy (call_strDK (K := K) hr.gd hr.units150) (by rfl) T.z_str bt_str (pa_cons (pv 0) pa_nil))))), ?_⟩
    cases o with
    | none => exact ⟨_, rfl, rfl, _, rfl, iteT k⟩
    | some kk =>
      have hk := ho kk rfl
      have ne : decide (oV (some kk) = V.non) = false := by cases kk <;> rfl
      refine ⟨_, rfl, rfl, _, rfl, ?_⟩
      rw [ne]
      obtain ⟨f1, f2, f3, f4⟩ := (((Fine.key hk).mono (by decide) (by decide)) : Fine 10000000 5 (dK kk)).str
      have hd : Dt H (kV kk) (dK kk) := by cases kk <;> constructor
      refine iteF ⟨_, rfl, kV kk, dK kk, rfl, hd.dp, f1, f2, f3, f4, ?_⟩
      cases kk with
      | inl i => exact k
      | inr x => exact k
theorem sc_show_condition : FnScope ["condition", "column", "word", "bounds"] ["condition"] (defScope s_show_condition) := ⟨rfl, rfl, rfl, by decide +kernel, rfl, by decide +kernel, by decide +kernel⟩

set_option maxHeartbeats 8000000 in
theorem ok_show_condition {fa : Addr} {fd : FuncData} (T : Txt K mg w t_FIGURES a_KINDS a_MOST_BY_KIND t_MOST_COLUMNS t_MOST_CONDITIONS t_MOST_FIGURES t_MOST_LETTERS t_MOST_NUMBER t_NONE) (D : Def K mg "show_condition" s_show_condition fa fd) : FnOk P w K mg base CX0 2 fa fd ["condition"] sp_show_condition := by
  obtain ⟨fa_show_bound, fd_show_bound, D_show_bound⟩ := T.d_show_bound
  have G_show_bound := ok_show_bound (P := P) (w := w) (base := base) T D_show_bound
  have b_show_bound := D_show_bound.fn.binds (ps := ["bound"]) fun _ _ _ _ _ _ us hl => match us, hl with | [_], _ => rfl
  refine D.fn.ok sc_show_condition (fun vs H Q E h => ?_) (fun cdv A outer s H vs Q E hr h => ?_)
  · obtain ⟨v, c, rfl, _⟩ := h
    rfl
  ·
    have r_show_bound : Room 1 _ := hr.mono (by decide)
    obtain ⟨v, c, rfl, hc, hok, k⟩ := h
    refine ⟨_, (pss_cons (ps_asg (pv 0) (pg_star (K := K) (i := 2) (by rfl) (pgs_cons (pg_name (i := 1) sc_show_condition.nd rfl (by first | exact Or.inl rfl | exact Or.inr rfl)) (pgs_cons (pg_name (i := 2) sc_show_condition.nd rfl (by first | exact Or.inl rfl | exact Or.inr rfl)) (pgs_starred (pg_name (i := 3) sc_show_condition.nd rfl (by first | exact Or.inl rfl | exact Or.inr rfl)) pgs_nil)))))
    (pss_cons (ps_if (pt_cmpR op_eq (pv 2) pe_str (nomark _))
      (pss_one (ps_ret (pe_fstr (pj_cons (pe_fmt (pv 1)) (pj_cons pe_str (pj_cons (pe_fmt (pe_ix ix_list (pv 3) pe_int (fun _ _ => rfl))) pj_nil))))))
      pss_nil)
    (pss_one (ps_ret (pe_fstr (pj_cons (pe_fmt (pv 1)) (pj_cons pe_str (pj_cons (pe_fmt (pe_call G_show_bound r_show_bound (by rfl) D_show_bound.mg D_show_bound.fn.kp b_show_bound .nil pass0 (pa_cons (pe_ix ix_list (pv 3) pe_int (fun _ _ => rfl)) pa_nil))) (pj_cons pe_str (pj_cons (pe_fmt (pe_call G_show_bound r_show_bound (by rfl) D_show_bound.mg D_show_bound.fn.kp b_show_bound .nil pass0 (pa_cons (pe_ix ix_list (pv 3) pe_int (fun _ _ => rfl)) pa_nil))) pj_nil)))))))))), ?_⟩
    obtain ⟨p, rfl, hp⟩ := id hc
    obtain ⟨e0, e1, e2, _, _, _, _⟩ := lit_len
    cases c with
    | is w x =>
      have hw := hok.1.hi
      have hx := key_len hok.2
      have hxo : keyOk x := hok.2
      refine ⟨_, rfl, p, _, rfl, SqT.of hp, by show 2 ≤ 3; decide, by show 3 ≤ 10000; decide, fun b hb => ?_⟩
      refine ⟨_, _, rfl, _, _, rfl, _, _, rfl, rfl, ?_⟩
      refine ⟨_, rfl, rfl, _, rfl, iteT ?_⟩
      refine ⟨_, rfl, .inl ⟨w, rfl, line (by omega), _, rfl, line (by simp only [len_app]; omega), _, rfl, line (by simp only [len_app]; omega), _, rfl, b, _, _, _, rfl, rfl, SqL.of upd_same, rfl, ?_⟩⟩
      have kk := k _ (same_new (o := HO.lst [kV x]) hb)
      have fin : (Str.empty ++ w ++ "=" ++ keyS x).length ≤ sizeLine := line (by simp only [len_app]; omega)
      cases x with
      | inl i => exact .inr ⟨i, rfl, log_small (by have : -999 ≤ i ∧ i ≤ 999 := hxo; omega), _, rfl, fin, fin, kk⟩
      | inr z => exact .inl ⟨z, rfl, line (by have : (z : Str).length ≤ 8 := hx; omega), _, rfl, fin, fin, kk⟩
    | frm w lo hi =>
      have hw := hok.1.hi
      have hx := bound_len hok.2.1
      have hy := bound_len hok.2.2
      refine ⟨_, rfl, p, _, rfl, SqT.of hp, by show 2 ≤ 4; decide, by show 4 ≤ 10000; decide, fun b hb => ?_⟩
      refine ⟨_, _, rfl, _, _, rfl, _, _, rfl, rfl, ?_⟩
      refine ⟨_, rfl, rfl, _, rfl, iteF (nextK ?_)⟩
      have kk := k _ (same_new (o := HO.lst [oV lo, oV hi]) hb)
      have f1 : (Str.empty ++ w ++ "=" ++ boundS lo).length ≤ sizeLine := line (by simp only [len_app]; omega)
      have f2 : (Str.empty ++ w ++ "=" ++ boundS lo ++ "..").length ≤ sizeLine := line (by simp only [len_app]; omega)
      have f3 : (Str.empty ++ w ++ "=" ++ boundS lo ++ ".." ++ boundS hi).length ≤ sizeLine := line (by simp only [len_app]; omega)
      refine ⟨_, rfl, .inl ⟨w, rfl, line (by omega), _, rfl, line (by simp only [len_app]; omega), _, rfl, line (by simp only [len_app]; omega), _, rfl, b, _, _, _, rfl, rfl, SqL.of upd_same, rfl, ?_⟩⟩
      refine ⟨lo, rfl, hok.2.1, .inl ⟨_, rfl, line (by omega), _, rfl, f1, _, rfl, f2, _, rfl, b, _, _, _, rfl, rfl, SqL.of upd_same, rfl, ?_⟩⟩
      exact ⟨hi, rfl, hok.2.2, .inl ⟨_, rfl, line (by omega), _, rfl, f3, f3, kk⟩⟩
theorem sc_show_conditions : FnScope ["conditions", "condition"] ["conditions"] (defScope s_show_conditions) := ⟨rfl, rfl, rfl, by decide +kernel, rfl, by decide +kernel, by decide +kernel⟩

set_option maxHeartbeats 8000000 in
theorem ok_show_conditions {fa : Addr} {fd : FuncData} (T : Txt K mg w t_FIGURES a_KINDS a_MOST_BY_KIND t_MOST_COLUMNS t_MOST_CONDITIONS t_MOST_FIGURES t_MOST_LETTERS t_MOST_NUMBER t_NONE) (D : Def K mg "show_conditions" s_show_conditions fa fd) : FnOk P w K mg base CX0 3 fa fd ["conditions"] sp_show_conditions := by
  obtain ⟨fa_show_condition, fd_show_condition, D_show_condition⟩ := T.d_show_condition
  have G_show_condition := ok_show_condition (P := P) (w := w) (base := base) T D_show_condition
  have b_show_condition := D_show_condition.fn.binds (ps := ["condition"]) fun _ _ _ _ _ _ us hl => match us, hl with | [_], _ => rfl
  refine D.fn.ok sc_show_conditions (fun vs H Q E h => ?_) (fun cdv A outer s H vs Q E hr h => ?_)
  · obtain ⟨a, cs, rfl, _⟩ := h
    rfl
  ·
    have r_show_condition : Room 2 _ := hr.mono (by decide)
    obtain ⟨a, cs, rfl, hc, hok, l6, k⟩ := h
    refine ⟨_, (pss_one (ps_ret (pe_ifExp (pt_truth (pv 0) (by intro _; rfl)) (pe_join pe_str (pe_lc (own := [("condition", 1)]) (g := gName 1) (by rfl) sc_show_conditions.nd (pi_tup (pv 0)) (blkOk_by (own := [("condition", 1)]) (N := ["conditions", "condition"]) (sc := defScope s_show_conditions) (by decide +kernel))
        (fun _ _ _ _ _ => (pg_name (i := 1) sc_show_conditions.nd rfl (by first | exact Or.inl rfl | exact Or.inr rfl))) (fun _ _ _ _ _ => pts_nil)
        (fun _ _ _ _ _ => (pe_call G_show_condition r_show_condition (by rfl) D_show_condition.mg D_show_condition.fn.kp b_show_condition .nil pass0 (pa_cons (pv 1) pa_nil))))) (pe_glob (v := V.str "-") (by rfl) T.g_NONE ⟨_, rfl⟩)))), ?_⟩
    obtain ⟨vs, ha, hP⟩ := id hc
    have hl := Paired.length hP
    refine ⟨_, rfl, _, .inr (.inl ⟨_, SqT.of ha, rfl⟩), ?_⟩
    cases vs with
    | nil =>
      obtain rfl : cs = [] := List.eq_nil_of_length_eq_zero hl.symm
      exact iteF (k _ (Same.refl _))
    | cons v0 vr =>
      refine iteT ⟨⟨_, rfl⟩, ?_⟩
      refine ⟨_, rfl, a, rfl, ⟨_, SqT.of ha⟩, fun D hD => ?_⟩
      refine lc_tup (K := K) (xs := v0 :: vr) (fun i H' => Same H H' ∧ H' D = some (.lst ((cs.take i).map fun c => V.str (condS c)))) ⟨same_new hD, upd_same⟩ (fun i H' _ ⟨s, _⟩ => SqT.of (s _ _ ha)) ?_ ?_
      · rintro i x H1 hx ⟨s1, hD1⟩
        obtain ⟨c, hcc, hx2⟩ := Paired.getL hP hx
        have hil : i < cs.length := (List.getElem?_eq_some_iff.mp hcc).1
        refine ⟨rfl, ?_⟩
        refine ⟨_, rfl, x, c, rfl, hx2.frm (.of_same s1 : Frm [] _ _), hok c (List.mem_of_getElem? hcc), fun H2 s2 => ⟨_, s2 _ _ hD1, by rw [List.length_map, List.length_take]; exact lt_line (by omega), same_put (s1.trans s2) hD, ?_⟩⟩
        rw [upd_same, List.take_succ, hcc, List.map_append]
        rfl
      · rintro H1 ⟨s1, hD1⟩
        rw [hl, List.take_length] at hD1
        obtain ⟨_, _, _, _, e5, e6, _⟩ := lit_len
        have h1 := sum_len (ws := cs.map condS) (n := 30) fun w hw => by
          obtain ⟨c, hc, rfl⟩ := List.mem_map.mp hw
          exact cond_len (hok c hc)
        rw [List.length_map] at h1
        have kk := k _ s1
        unfold condsS at kk
        rw [if_neg (by intro z; rw [z] at hl; simp at hl)] at kk
        exact ⟨",", D, cs.map condS, rfl, rfl, .inl (SqL.of (by rw [hD1, List.map_map]; rfl)), by rw [List.length_map, e6]; omega, kk⟩
theorem sc_are_figures : FnScope ["text", "most", "sign"] ["text", "most"] (defScope s_are_figures) := ⟨rfl, rfl, rfl, by decide +kernel, rfl, by decide +kernel, by decide +kernel⟩

set_option maxHeartbeats 8000000 in
theorem ok_are_figures {fa : Addr} {fd : FuncData} (T : Txt K mg w t_FIGURES a_KINDS a_MOST_BY_KIND t_MOST_COLUMNS t_MOST_CONDITIONS t_MOST_FIGURES t_MOST_LETTERS t_MOST_NUMBER t_NONE) (D : Def K mg "are_figures" s_are_figures fa fd) : FnOk P w K mg base CX0 1 fa fd ["text", "most"] sp_are_figures := by
  refine D.fn.ok sc_are_figures (fun vs H Q E h => ?_) (fun cdv A outer s H vs Q E hr h => ?_)
  · obtain ⟨i, rfl, _⟩ := h
    rfl
  ·
    obtain ⟨i, rfl, h1, h2, k⟩ := h
    refine ⟨_, (pss_cons (ps_if (PW.pt (pw_or (pt_not (pt_chain op_le op_le pe_int (pe_callB call_len_str (by rfl) T.z_len bt_len (pa_cons (pv 0) pa_nil)) (pv 1))) (pw_or1 (pt_not (pt_val (pe_callB (cr_all rfl) (by rfl) T.z_all bt_all (pa_cons (pe_lc (own := [("sign", 2)]) (g := gName 2) (by rfl) sc_are_figures.nd (pi_str (pv 0)) (blkOk_by (own := [("sign", 2)]) (N := ["text", "most", "sign"]) (sc := defScope s_are_figures) (by decide +kernel))
        (fun _ _ _ _ _ => (pg_name (i := 2) sc_are_figures.nd rfl (by first | exact Or.inl rfl | exact Or.inr rfl))) (fun _ _ _ _ _ => pts_nil)
        (fun _ _ _ _ _ => (pe_cmpR op_in_sign (pv 2) (pe_glob (v := V.str "0123456789") (by rfl) T.g_FIGURES ⟨_, rfl⟩) (by rfl)))) pa_nil)))))))
      (pss_one (ps_ret pe_bl))
      pss_nil)
    (pss_one (ps_ret (pe_or (pe_cmpR op_eq (pv 0) pe_str (nomark _)) (pe_one (pe_cmpR op_ne (pe_ix ix_str (pv 0) pe_int (fun _ _ => rfl)) pe_str (nomark _))))))), ?_⟩
    have nt := num_tx ⟨h1, h2⟩
    have l1 := nt.d1
    have l3 := nt.d3
    have lz := nt.ds
    have lh := nt.hd
    generalize Txt.removeprefix (numT i) "-" = z at l1 l3 lz lh ⊢
    refine ⟨_, rfl, z, rfl, line (by omega), _, _, rfl, rfl, _, rfl, ?_⟩
    rw [decide_eq_true (show (1 : Int) ≤ (z.length : Int) by omega)]
    refine iteT ⟨_, rfl, _, _, rfl, rfl, _, rfl, ?_⟩
    rw [decide_eq_true (show (z.length : Int) ≤ 3 by omega)]
    refine iteF ?_
    refine ⟨_, rfl, z, rfl, fun D hD => ?_⟩
    have hsz : z.cps.size < sizeLine := Nat.lt_of_le_of_lt (show z.cps.size ≤ 3 from l3) (by decide)
    refine lc_str_map (fun c => .bl true) hsz (fun c H2 R F hc hR => ⟨rfl, ?_⟩) ?_
    · refine ⟨_, rfl, c, _, rfl, rfl, ?_⟩
      have e : decide (c ∈ ("0123456789" : Str).cps.toList) = true := decide_eq_true (fig_in (lz c hc))
      rw [e]
      exact hR
    · refine ⟨D, z.cps.toList.map fun _ => true, rfl, SqL.of (by rw [upd_same, List.map_map]; rfl), _, rfl, ?_⟩
      rw [show (z.cps.toList.map fun _ => true).all id = true from List.all_eq_true.mpr fun b hb => by obtain ⟨_, _, rfl⟩ := List.mem_map.mp hb; rfl]
      refine iteF (nextK ?_)
      have kk := k _ (same_new (o := HO.lst (z.cps.toList.map fun _ => V.bl true)) hD)
      refine ⟨_, rfl, rfl, ?_⟩
      rcases lh with rfl | lh
      · exact ⟨_, rfl, iteT kk⟩
      · refine ⟨_, rfl, ite2 (fun _ => ?_) (fun c1 => ?_)⟩
        · exact kk
        · have e0 : z.cps.toList[0]? = some (z.cps.toList.headD 0) := by
            have : 1 ≤ z.cps.toList.length := l1
            cases ez : z.cps.toList with
            | nil => rw [ez] at this; exact absurd this (by decide)
            | cons c r => rfl
          refine ⟨_, rfl, z, _, _, rfl, rfl, line (by omega), atI_nat (j := 0) e0, ?_⟩
          refine ⟨rfl, ?_⟩
          have en : decide (V.str ⟨#[z.cps.toList.headD 0]⟩ = V.str "0") = false := decide_eq_false fun e => lh (by
            injection e with e
            have e := congrArg (fun s : Str => s.cps.toList) e
            have e : [z.cps.toList.headD 0] = [48] := e
            injection e)
          show Q (.bl (!decide (V.str ⟨#[z.cps.toList.headD 0]⟩ = V.str "0"))) _
          rw [en]
          exact kk
theorem sc_text_of : FnScope ["thing"] ["thing"] (defScope s_text_of) := ⟨rfl, rfl, rfl, by decide +kernel, rfl, by decide +kernel, by decide +kernel⟩

set_option maxHeartbeats 8000000 in
theorem ok_text_of {fa : Addr} {fd : FuncData} (T : Txt K mg w t_FIGURES a_KINDS a_MOST_BY_KIND t_MOST_COLUMNS t_MOST_CONDITIONS t_MOST_FIGURES t_MOST_LETTERS t_MOST_NUMBER t_NONE) (D : Def K mg "text_of" s_text_of fa fd) : FnOk P w K mg base CX0 1 fa fd ["thing"] sp_text_of := by
  refine D.fn.ok sc_text_of (fun vs H Q E h => ?_) (fun cdv A outer s H vs Q E hr h => ?_)
  · obtain ⟨x, rfl, _⟩ := h
    rfl
  ·
    obtain ⟨x, rfl, hx, k⟩ := h
    refine ⟨_, (pss_cons (ps_if (pt_not (pt_val (pe_callB call_isT (by rfl) T.z_isinstance bt_isinstance (pa_cons (pv 0) (pa_cons (pe_bltn (v := V.ty "str") (by rfl) T.z_str bt_str rfl) pa_nil)))))
      (pss_one ps_never)
      pss_nil)
    (pss_one (ps_ret (pv 0)))), ?_⟩
    refine ⟨_, rfl, _, _, rfl, hx, rfl, _, rfl, ?_⟩
    exact iteF (nextK ⟨_, rfl, k⟩)
theorem sc_read_number : FnScope ["text"] ["text"] (defScope s_read_number) := ⟨rfl, rfl, rfl, by decide +kernel, rfl, by decide +kernel, by decide +kernel⟩

set_option maxHeartbeats 8000000 in
theorem ok_read_number {fa : Addr} {fd : FuncData} (T : Txt K mg w t_FIGURES a_KINDS a_MOST_BY_KIND t_MOST_COLUMNS t_MOST_CONDITIONS t_MOST_FIGURES t_MOST_LETTERS t_MOST_NUMBER t_NONE) (D : Def K mg "read_number" s_read_number fa fd) : FnOk P w K mg base CX0 2 fa fd ["text"] sp_read_number := by
  obtain ⟨fa_are_figures, fd_are_figures, D_are_figures⟩ := T.d_are_figures
  have G_are_figures := ok_are_figures (P := P) (w := w) (base := base) T D_are_figures
  have b_are_figures := D_are_figures.fn.binds (ps := ["text", "most"]) fun _ _ _ _ _ _ us hl => match us, hl with | [_, _], _ => rfl
  refine D.fn.ok sc_read_number (fun vs H Q E h => ?_) (fun cdv A outer s H vs Q E hr h => ?_)
  · obtain ⟨i, rfl, _⟩ := h
    rfl
  ·
    have r_are_figures : Room 1 _ := hr.mono (by decide)
    obtain ⟨i, rfl, h1, h2, k⟩ := h
    refine ⟨_, (pss_cons (ps_if (PW.pt (pw_or (pt_cmpR op_eq (pv 0) pe_str (nomark _)) (pw_or1 (pt_not (pt_val (pe_call G_are_figures r_are_figures (by rfl) D_are_figures.mg D_are_figures.fn.kp b_are_figures .nil pass0 (pa_cons (pe_removeprefix (pv 0) pe_str) (pa_cons (pe_glob (v := V.int 3) (by rfl) T.g_MOST_FIGURES ⟨_, rfl⟩) pa_nil))))))))
      (pss_one (ps_ret (pv 0)))
      pss_nil)
    (pss_one (ps_ret (pe_callTy call_int_str (by rfl) T.z_int bt_int (pa_cons (pv 0) pa_nil))))), ?_⟩
    have nt := num_tx ⟨h1, h2⟩
    have l4 := nt.l4
    refine ⟨_, rfl, rfl, _, rfl, ?_⟩
    have en : decide (V.str (numT i) = V.str "-0") = false := decide_eq_false (fun z => by injection z with z; exact nt.ne z)
    rw [en]
    refine iteF ?_
    refine ⟨_, rfl, ⟨_, rfl⟩, _, _, rfl, rfl, line (by omega), ?_⟩
    refine ⟨i, rfl, h1, h2, fun H1 s1 => ⟨_, rfl, iteF (nextK ?_)⟩⟩
    exact ⟨_, rfl, _, _, rfl, nt.int, by omega, k _ s1⟩
theorem sc_read_value : FnScope ["kind", "text", "value"] ["kind", "text"] (defScope s_read_value) := ⟨rfl, rfl, rfl, by decide +kernel, rfl, by decide +kernel, by decide +kernel⟩

set_option maxHeartbeats 8000000 in
theorem ok_read_value {fa : Addr} {fd : FuncData} (T : Txt K mg w t_FIGURES a_KINDS a_MOST_BY_KIND t_MOST_COLUMNS t_MOST_CONDITIONS t_MOST_FIGURES t_MOST_LETTERS t_MOST_NUMBER t_NONE) (D : Def K mg "read_value" s_read_value fa fd) : FnOk P w K mg base CX0 3 fa fd ["kind", "text"] sp_read_value := by
  obtain ⟨fa_read_number, fd_read_number, D_read_number⟩ := T.d_read_number
  have G_read_number := ok_read_number (P := P) (w := w) (base := base) T D_read_number
  have b_read_number := D_read_number.fn.binds (ps := ["text"]) fun _ _ _ _ _ _ us hl => match us, hl with | [_], _ => rfl
  obtain ⟨fa_is_value, fd_is_value, D_is_value⟩ := T.d_is_value
  have G_is_value := ok_is_value (P := P) (w := w) (base := base) T D_is_value
  have b_is_value := D_is_value.fn.binds (ps := ["kind", "thing"]) fun _ _ _ _ _ _ us hl => match us, hl with | [_, _], _ => rfl
  refine D.fn.ok sc_read_value (fun vs H Q E h => ?_) (fun cdv A outer s H vs Q E hr h => ?_)
  · obtain ⟨kd, k, rfl, _⟩ := h
    rfl
  ·
    have r_read_number : Room 2 _ := hr.mono (by decide)
    have r_is_value : Room 2 _ := hr.mono (by decide)
    obtain ⟨kd, q, rfl, hk, ok, k⟩ := h
    refine ⟨_, (pss_cons (ps_asg (pe_ifExp (pt_cmpR op_eq (pv 0) pe_str (nomark _)) (pe_call G_read_number r_read_number (by rfl) D_read_number.mg D_read_number.fn.kp b_read_number .nil pass0 (pa_cons (pv 1) pa_nil)) (pv 1)) (pg_name (i := 2) sc_read_value.nd rfl (by first | exact Or.inl rfl | exact Or.inr rfl)))
    (pss_cons (ps_if (pt_not (pt_val (pe_call G_is_value r_is_value (by rfl) D_is_value.mg D_is_value.fn.kp b_is_value .nil pass0 (pa_cons (pv 0) (pa_cons (pv 2) pa_nil)))))
      (pss_one ps_never)
      pss_nil)
    (pss_one (ps_ret (pv 2))))), ?_⟩
    have kv := key_is hk ok
    refine (?_ : tSeq _ _ _ [some (.str kd), some (.str (keyS q)), none] _)
    refine seqR (fun σ' H' => σ' = [some (.str kd), some (.str (keyS q)), some (kV q)] ∧ Same H H') ?_ ?_
    · rintro σ' H' ⟨rfl, s1⟩
      refine ⟨_, rfl, _, rfl, kd, kV q, rfl, key_tyd _ ok, fun H2 s2 => ⟨_, rfl, ?_⟩⟩
      rw [kv]
      exact iteF (nextK ⟨_, rfl, k _ (s1.trans s2)⟩)
    · intro nx hnx
      subst hk
      cases q with
      | inl i => exact ⟨_, rfl, rfl, _, rfl, iteT ⟨_, rfl, i, rfl, ok.1, ok.2, fun H1 s1 => hnx _ _ ⟨rfl, s1⟩⟩⟩
      | inr x =>
        refine ⟨_, rfl, rfl, _, rfl, ?_⟩
        exact iteF ⟨_, rfl, hnx _ _ ⟨rfl, Same.refl _⟩⟩
theorem sc_read_row : FnScope ["form", "text", "parts", "name", "kind", "part"] ["form", "text"] (defScope s_read_row) := ⟨rfl, rfl, rfl, by decide +kernel, rfl, by decide +kernel, by decide +kernel⟩

set_option maxHeartbeats 8000000 in
theorem ok_read_row {fa : Addr} {fd : FuncData} (T : Txt K mg w t_FIGURES a_KINDS a_MOST_BY_KIND t_MOST_COLUMNS t_MOST_CONDITIONS t_MOST_FIGURES t_MOST_LETTERS t_MOST_NUMBER t_NONE) (D : Def K mg "read_row" s_read_row fa fd) : FnOk P w K mg base CX0 4 fa fd ["form", "text"] sp_read_row := by
  obtain ⟨fa_text_of, fd_text_of, D_text_of⟩ := T.d_text_of
  have G_text_of := ok_text_of (P := P) (w := w) (base := base) T D_text_of
  have b_text_of := D_text_of.fn.binds (ps := ["thing"]) fun _ _ _ _ _ _ us hl => match us, hl with | [_], _ => rfl
  obtain ⟨fa_read_value, fd_read_value, D_read_value⟩ := T.d_read_value
  have G_read_value := ok_read_value (P := P) (w := w) (base := base) T D_read_value
  have b_read_value := D_read_value.fn.binds (ps := ["kind", "text"]) fun _ _ _ _ _ _ us hl => match us, hl with | [_, _], _ => rfl
  refine D.fn.ok sc_read_row (fun vs H Q E h => ?_) (fun cdv A outer s H vs Q E hr h => ?_)
  · obtain ⟨a, cols, r, rfl, _⟩ := h
    rfl
  ·
    have r_text_of : Room 1 _ := hr.mono (by decide)
    have r_read_value : Room 3 _ := hr.mono (by decide)
    obtain ⟨a, cols, r, rfl, hf, hco, hr', k⟩ := h
    refine ⟨_, (pss_cons (ps_asg (pe_split (pe_call G_text_of r_text_of (by rfl) D_text_of.mg D_text_of.fn.kp b_text_of .nil pass0 (pa_cons (pv 1) pa_nil)) pe_str) (pg_name (i := 2) sc_read_row.nd rfl (by first | exact Or.inl rfl | exact Or.inr rfl)))
    (pss_cons (ps_if (pt_cmpR op_ne (pe_callB call_len_seq (by rfl) T.z_len bt_len (pa_cons (pv 2) pa_nil)) (pe_callB call_len_seq (by rfl) T.z_len bt_len (pa_cons (pv 0) pa_nil)) (nomark _))
      (pss_one ps_never)
      pss_nil)
    (pss_one (ps_ret (pe_callTy call_tuple_of (by rfl) T.z_tuple bt_tuple (pa_cons (pe_lc (own := [("name", 3), ("kind", 4), ("part", 5)]) (by rfl) sc_read_row.nd (pi_zip2 (by rfl) T.z_zip (pa_cons (pv 0) (pa_cons (pv 2) pa_nil))) (blkOk_by (own := [("name", 3), ("kind", 4), ("part", 5)]) (N := ["form", "text", "parts", "name", "kind", "part"]) (sc := defScope s_read_row) (by decide +kernel))
        (fun _ _ _ _ _ => (pg_tupK (K := K) (n := 2) (by rfl) (pgs_cons (pg_tupK (K := K) (n := 2) (by rfl) (pgs_cons (pg_name (i := 3) sc_read_row.nd rfl (by first | exact Or.inl rfl | exact Or.inr rfl)) (pgs_cons (pg_name (i := 4) sc_read_row.nd rfl (by first | exact Or.inl rfl | exact Or.inr rfl)) pgs_nil))) (pgs_cons (pg_name (i := 5) sc_read_row.nd rfl (by first | exact Or.inl rfl | exact Or.inr rfl)) pgs_nil)))) (fun _ _ _ _ _ => pts_nil)
        (fun _ _ _ _ _ => (pe_call G_read_value r_read_value (by rfl) D_read_value.mg D_read_value.fn.kp b_read_value .nil pass0 (pa_cons (pv 4) (pa_cons (pv 5) pa_nil))))) pa_nil)))))), ?_⟩
    obtain ⟨e0, e1, e2, e4, e5, e6, e7⟩ := lit_len
    obtain ⟨ts, ea, lt, ft⟩ := id hf.ex
    have c1 := hco.c1
    have c6 := hco.c6
    have rl := hr'.len
    have rne : r ≠ [] := fun z => by rw [z] at rl; exact absurd (rl ▸ c1 : 1 ≤ ([] : List Key).length) (by decide)
    have tl := row_len hr'.2 (by omega)
    refine ⟨_, rfl, _, rfl, by omega, ⟨_, rfl⟩, _, _, rfl, rfl, by rw [e6]; rfl, line1 (by omega), fun P hP => ?_⟩
    rw [split_row hr'.2 rne]
    have s0 := same_new (o := HO.lst ((r.map keyS).map V.str)) hP
    have hP0 : upd H P (HO.lst ((r.map keyS).map V.str)) P = some (.lst ((r.map keyS).map V.str)) := upd_same
    generalize upd H P (HO.lst ((r.map keyS).map V.str)) = H0 at s0 hP0 ⊢
    try dsimp only [gName]
    refine (?_ : tSeq _ _ _ [some (.ref a), some (.str (rowS r)), some (.ref P), none, none, none] _)
    refine ⟨_, rfl, P, _, rfl, .inl (SqL.of hP0), _, rfl, a, _, rfl, .inr (SqT.of (s0 _ _ ea)), rfl, _, rfl, ?_⟩
    rw [show (!decide (V.int ((((r.map keyS).map V.str).length : Nat) : Int) = V.int (((ts.map V.ref).length : Nat) : Int))) = false by rw [List.length_map, List.length_map, List.length_map, lt, rl, decide_eq_true rfl]; rfl]
    refine iteF (nextK ?_)
    refine ⟨_, rfl, _, rfl, (false, a), (true, P), _, _, rfl, SqS.tup (s0 _ _ ea), SqS.lst hP0, fun D hD => ?_⟩
    refine lc_zip2_map (K := K) (c1 := (false, a)) (c2 := (true, P)) hD (fun i => kV (r.getD i (.inl 0))) (SqS.tup (s0 _ _ ea)) (SqS.lst hP0) (by rw [List.length_map, lt]; omega) (fun i x y T H1 R F hx hy s1 eT hR => ?_) ?_
    · rw [List.getElem?_map] at hx hy
      obtain ⟨t, ht, rfl⟩ := Option.map_eq_some_iff.mp hx
      obtain ⟨z, hz, rfl⟩ := Option.map_eq_some_iff.mp hy
      rw [List.getElem?_map] at hz
      obtain ⟨q, hq, rfl⟩ := Option.map_eq_some_iff.mp hz
      have hi : i < cols.length := by rw [← lt]; exact (List.getElem?_eq_some_iff.mp ht).1
      have hci : cols[i]? = some cols[i] := by simp [hi]
      have et := s1 _ _ (s0 _ _ (ft i t _ ht hci))
      have hkq : kindOf q = cols[i].2 := by
        have e := congrArg (fun l => l[i]?) hr'.1
        simp only [List.getElem?_map, hq, hci, Option.map_some] at e
        exact Option.some.inj e
      generalize cols[i] = c at et hkq
      obtain ⟨w, kd⟩ := c
      rw [List.getD_eq_getElem?_getD, hq] at hR
      exact ⟨T, _, rfl, SqT.of eT, rfl, _, _, rfl, t, _, rfl, SqT.of et, rfl, _, _, rfl, _, _, rfl, rfl, _, _, rfl, rfl, rfl, _, rfl, _, rfl, kd, q, rfl, hkq, hr'.2 q (List.mem_of_getElem? hq), fun H2 s2 => hR H2 s2⟩
    · intro H1 s1 hD1
      have em : min (ts.map V.ref).length ((r.map keyS).map V.str).length = r.length := by rw [List.length_map, List.length_map, List.length_map]; omega
      rw [em, range_mapG r kV (.inl 0)] at hD1
      refine ⟨D, _, rfl, .inl ⟨SqL.of hD1, fun u hu => ?_⟩⟩
      exact k _ _ ((s0.trans s1).trans (same_new hu)) upd_same
theorem sc_read_form : FnScope ["text", "form", "part"] ["text"] (defScope s_read_form) := ⟨rfl, rfl, rfl, by decide +kernel, rfl, by decide +kernel, by decide +kernel⟩

set_option maxHeartbeats 8000000 in
theorem ok_read_form {fa : Addr} {fd : FuncData} (T : Txt K mg w t_FIGURES a_KINDS a_MOST_BY_KIND t_MOST_COLUMNS t_MOST_CONDITIONS t_MOST_FIGURES t_MOST_LETTERS t_MOST_NUMBER t_NONE) (D : Def K mg "read_form" s_read_form fa fd) : FnOk P w K mg base CX0 4 fa fd ["text"] sp_read_form := by
  obtain ⟨fa_text_of, fd_text_of, D_text_of⟩ := T.d_text_of
  have G_text_of := ok_text_of (P := P) (w := w) (base := base) T D_text_of
  have b_text_of := D_text_of.fn.binds (ps := ["thing"]) fun _ _ _ _ _ _ us hl => match us, hl with | [_], _ => rfl
  obtain ⟨fa_is_form, fd_is_form, D_is_form⟩ := T.d_is_form
  have G_is_form := ok_is_form (P := P) (w := w) (base := base) T D_is_form
  have b_is_form := D_is_form.fn.binds (ps := ["thing"]) fun _ _ _ _ _ _ us hl => match us, hl with | [_], _ => rfl
  refine D.fn.ok sc_read_form (fun vs H Q E h => ?_) (fun cdv A outer s H vs Q E hr h => ?_)
  · obtain ⟨cols, rfl, _⟩ := h
    rfl
  ·
    have r_text_of : Room 1 _ := hr.mono (by decide)
    have r_is_form : Room 3 _ := hr.mono (by decide)
    obtain ⟨cols, rfl, hco, k⟩ := h
    refine ⟨_, (pss_cons (ps_asg (pe_callTy call_tuple_of (by rfl) T.z_tuple bt_tuple (pa_cons (pe_lc (own := [("part", 2)]) (g := gName 2) (by rfl) sc_read_form.nd (pi_list (pe_split (pe_call G_text_of r_text_of (by rfl) D_text_of.mg D_text_of.fn.kp b_text_of .nil pass0 (pa_cons (pv 0) pa_nil)) pe_str)) (blkOk_by (own := [("part", 2)]) (N := ["text", "form", "part"]) (sc := defScope s_read_form) (by decide +kernel))
        (fun _ _ _ _ _ => (pg_name (i := 2) sc_read_form.nd rfl (by first | exact Or.inl rfl | exact Or.inr rfl))) (fun _ _ _ _ _ => pts_nil)
        (fun _ _ _ _ _ => (pe_callTy (call_tuple_ofK (K := K)) (by rfl) T.z_tuple bt_tuple (pa_cons (pe_split (pv 2) pe_str) pa_nil)))) pa_nil)) (pg_name (i := 1) sc_read_form.nd rfl (by first | exact Or.inl rfl | exact Or.inr rfl)))
    (pss_cons (ps_if (pt_not (pt_val (pe_call G_is_form r_is_form (by rfl) D_is_form.mg D_is_form.fn.kp b_is_form .nil pass0 (pa_cons (pv 1) pa_nil))))
      (pss_one ps_never)
      pss_nil)
    (pss_one (ps_ret (pv 1))))), ?_⟩
    obtain ⟨e0, e1, e2, e4, e5, e6, e7⟩ := lit_len
    have ec : (":" : Str).length = 1 := by decide +kernel
    have fl := form_len hco
    have c6 := hco.c6
    refine ⟨_, rfl, _, rfl, by omega, ⟨_, rfl⟩, _, _, rfl, rfl, by rw [e6]; rfl, line1 (by omega), fun P hP => ?_⟩
    rw [split_form hco]
    have s0 := same_new (o := HO.lst ((cols.map colS).map V.str)) hP
    have hP0 : upd H P (HO.lst ((cols.map colS).map V.str)) P = some (.lst ((cols.map colS).map V.str)) := upd_same
    generalize upd H P (HO.lst ((cols.map colS).map V.str)) = H0 at s0 hP0 ⊢
    refine ⟨P, rfl, ⟨_, SqL.of hP0⟩, fun D hD => ?_⟩
    refine lc_list (xs := (cols.map colS).map V.str) (fun i H' => Same H0 H' ∧ ∃ ts : List Addr, H' D = some (.lst (ts.map V.ref)) ∧ ColsC H' ts (cols.take i)) ⟨same_new hD, [], upd_same, ⟨rfl, fun j t c h => by simp at h⟩⟩ (fun i H' _ ⟨s, _⟩ => SqL.of (s _ _ hP0)) ?_ ?_
    · rintro i x H1 hx ⟨s1, ts, hD1, cc⟩
      rw [List.getElem?_map, List.getElem?_map] at hx
      cases hc : cols[i]? with
      | none => rw [hc] at hx; cases hx
      | some c =>
        rw [hc] at hx
        obtain rfl : x = V.str (colS c) := (Option.some.inj hx).symm
        have hm := List.mem_of_getElem? hc
        have hi := (List.getElem?_eq_some_iff.mp hc).1
        have cl := col_len hco hm
        refine ⟨rfl, ?_⟩
        refine ⟨_, rfl, ⟨_, rfl⟩, _, _, rfl, rfl, by rw [ec]; rfl, line1 (by omega), fun L hL => ?_⟩
        rw [split_col hco hm]
        refine ⟨L, _, rfl, .inl ⟨SqL.of upd_same, fun T hT => ?_⟩⟩
        have s2 := (same_new (o := HO.lst ([c.1, c.2].map V.str)) hL).trans (same_new (o := HO.tup ([c.1, c.2].map V.str)) hT)
        have hT2 : upd (upd H1 L (HO.lst ([c.1, c.2].map V.str))) T (HO.tup ([c.1, c.2].map V.str)) T = some (.tup [.str c.1, .str c.2]) := upd_same
        generalize upd (upd H1 L (HO.lst ([c.1, c.2].map V.str))) T (HO.tup ([c.1, c.2].map V.str)) = H2 at s2 hT2
        have hD2 := s2 _ _ hD1
        have tl := cc.lt
        rw [List.length_take] at tl
        refine ⟨_, hD2, by rw [List.length_map]; exact lt_line (by omega), same_put (s1.trans s2) hD, ts ++ [T], by rw [upd_same, List.map_append]; rfl, ?_⟩
        rw [List.take_succ, hc]
        refine cc.snoc (fun c xs h => ?_) ?_
        · have h7 := s2 _ _ h
          rw [upd_ne (fun z => by rw [z, hD2] at h7; cases h7)]
          exact h7
        · rw [upd_ne (fun z => by rw [z, hD2] at hT2; cases hT2)]
          exact hT2
    · rintro H1 ⟨s1, ts, hD1, cc⟩
      rw [List.length_map, List.length_map, List.take_length] at cc
      refine ⟨D, _, rfl, .inl ⟨SqL.of hD1, fun F hF => ?_⟩⟩
      have s2 := same_new (o := HO.tup (ts.map V.ref)) hF
      have fm : FormAt (upd H1 F (HO.tup (ts.map V.ref))) F cols := ⟨ts, upd_same, cc.lt, fun i t c h1 h2 => s2 _ _ (cc.at_ i t c h1 h2)⟩
      have s02 := (s0.trans s1).trans s2
      generalize upd H1 F (HO.tup (ts.map V.ref)) = H2 at fm s02
      try dsimp only [gName]
      refine (?_ : tSeq _ _ _ [some (.str (formS cols)), some (.ref F), none] _)
      refine ⟨_, rfl, .ref F, _, rfl, fm.dt, (form_eas hco).sh, fun H3 s3 => ⟨_, rfl, ?_⟩⟩
      rw [form_good hco]
      exact iteF (nextK ⟨_, rfl, k _ _ (s02.trans s3) (fm.same s3)⟩)
theorem sc_read_design : FnScope ["form", "text", "kind", "colon", "rest", "design"] ["form", "text"] (defScope s_read_design) := ⟨rfl, rfl, rfl, by decide +kernel, rfl, by decide +kernel, by decide +kernel⟩

set_option maxHeartbeats 8000000 in
theorem ok_read_design {fa : Addr} {fd : FuncData} (T : Txt K mg w t_FIGURES a_KINDS a_MOST_BY_KIND t_MOST_COLUMNS t_MOST_CONDITIONS t_MOST_FIGURES t_MOST_LETTERS t_MOST_NUMBER t_NONE) (D : Def K mg "read_design" s_read_design fa fd) : FnOk P w K mg base CX0 4 fa fd ["form", "text"] sp_read_design := by
  obtain ⟨fa_text_of, fd_text_of, D_text_of⟩ := T.d_text_of
  have G_text_of := ok_text_of (P := P) (w := w) (base := base) T D_text_of
  have b_text_of := D_text_of.fn.binds (ps := ["thing"]) fun _ _ _ _ _ _ us hl => match us, hl with | [_], _ => rfl
  obtain ⟨fa_is_design, fd_is_design, D_is_design⟩ := T.d_is_design
  have G_is_design := ok_is_design (P := P) (w := w) (base := base) T D_is_design
  have b_is_design := D_is_design.fn.binds (ps := ["form", "thing"]) fun _ _ _ _ _ _ us hl => match us, hl with | [_, _], _ => rfl
  refine D.fn.ok sc_read_design (fun vs H Q E h => ?_) (fun cdv A outer s H vs Q E hr h => ?_)
  · obtain ⟨a, cols, kd, ws, rfl, _⟩ := h
    rfl
  ·
    have r_text_of : Room 1 _ := hr.mono (by decide)
    have r_is_design : Room 3 _ := hr.mono (by decide)
    obtain ⟨a, cols, kd, ws, rfl, hf, hco, ok, k⟩ := h
    refine ⟨_, (pss_cons (ps_asg (pe_partition (pe_call G_text_of r_text_of (by rfl) D_text_of.mg D_text_of.fn.kp b_text_of .nil pass0 (pa_cons (pv 1) pa_nil)) pe_str) (pg_tupK (K := K) (n := 3) (by rfl) (pgs_cons (pg_name (i := 2) sc_read_design.nd rfl (by first | exact Or.inl rfl | exact Or.inr rfl)) (pgs_cons (pg_name (i := 3) sc_read_design.nd rfl (by first | exact Or.inl rfl | exact Or.inr rfl)) (pgs_cons (pg_name (i := 4) sc_read_design.nd rfl (by first | exact Or.inl rfl | exact Or.inr rfl)) pgs_nil)))))
    (pss_cons (ps_asg (pe_tup (pa_cons (pv 2) (pa_cons (pe_callTy call_tuple_of (by rfl) T.z_tuple bt_tuple (pa_cons (pe_split (pv 4) pe_str) pa_nil)) pa_nil))) (pg_name (i := 5) sc_read_design.nd rfl (by first | exact Or.inl rfl | exact Or.inr rfl)))
    (pss_cons (ps_if (pt_not (pt_val (pe_call G_is_design r_is_design (by rfl) D_is_design.mg D_is_design.fn.kp b_is_design .nil pass0 (pa_cons (pv 0) (pa_cons (pv 5) pa_nil)))))
      (pss_one ps_never)
      pss_nil)
    (pss_one (ps_ret (pv 5)))))), ?_⟩
    obtain ⟨e0, e1, e2, e4, e5, e6, e7⟩ := lit_len
    have ec : (":" : Str).length = 1 := by decide +kernel
    have kl := ok.klen
    have wW := ok.words hco
    have cl := cols_len wW ok.l6
    have dl : (desS kd ws).length ≤ 1000 := by unfold desS; simp only [len_app]; omega
    refine ⟨_, rfl, _, rfl, dl, ⟨_, rfl⟩, _, _, rfl, rfl, by rw [ec]; rfl, line dl, fun p hp => ?_⟩
    rw [cut_des ok]
    have s0 := same_new (o := HO.tup [.str kd, .str ":", .str (colsS ws)]) hp
    refine ⟨p, _, rfl, SqT.of upd_same, rfl, _, _, rfl, _, _, rfl, _, _, rfl, rfl, ?_⟩
    dsimp only
    generalize upd H p (HO.tup [.str kd, .str ":", .str (colsS ws)]) = H0 at s0 ⊢
    refine (?_ : tSeq _ _ _ [some (.ref a), some (.str (desS kd ws)), some (.str kd), some (.str ":"), some (.str (colsS ws)), none] _)
    refine ⟨_, rfl, _, rfl, ⟨_, rfl⟩, _, _, rfl, rfl, by rw [e7]; rfl, line1 (by omega), fun L hL => ?_⟩
    rw [(split_cols wW ok.ne).2]
    have s1 := same_new (o := HO.lst (ws.map V.str)) hL
    refine ⟨L, _, rfl, .inl ⟨SqL.of upd_same, fun W hW => ⟨by show 2 ≤ sizeLine; decide, fun T hT => ?_⟩⟩⟩
    have s2 := same_new (o := HO.tup (ws.map V.str)) hW
    have s3 := same_new (o := HO.tup [V.str kd, V.ref W]) hT
    have hD : DesAt (upd (upd (upd H0 L (HO.lst (ws.map V.str))) W (HO.tup (ws.map V.str))) T (HO.tup [V.str kd, V.ref W])) T kd ws := ⟨W, upd_same, s3 _ _ upd_same⟩
    have s03 := ((s0.trans s1).trans s2).trans s3
    generalize upd (upd (upd H0 L (HO.lst (ws.map V.str))) W (HO.tup (ws.map V.str))) T (HO.tup [V.str kd, V.ref W]) = H3 at s03 hD ⊢
    clear s0 s1 s2 s3 hL hW hT
    refine (?_ : tSeq _ _ _ [some (.ref a), some (.str (desS kd ws)), some (.str kd), some (.str ":"), some (.str (colsS ws)), some (.ref T)] _)
    refine ⟨_, rfl, _, rfl, a, T, cols, kd, ws, rfl, hf.frm (.of_same s03 : Frm [] _ _), hco, hD, ok, fun H4 s4 => ⟨_, rfl, iteF (nextK ⟨_, rfl, ?_⟩)⟩⟩
    exact k _ _ (s03.trans s4) (des_frm hD s4)
theorem sc_read_bound : FnScope ["kind", "text"] ["kind", "text"] (defScope s_read_bound) := ⟨rfl, rfl, rfl, by decide +kernel, rfl, by decide +kernel, by decide +kernel⟩

set_option maxHeartbeats 8000000 in
theorem ok_read_bound {fa : Addr} {fd : FuncData} (T : Txt K mg w t_FIGURES a_KINDS a_MOST_BY_KIND t_MOST_COLUMNS t_MOST_CONDITIONS t_MOST_FIGURES t_MOST_LETTERS t_MOST_NUMBER t_NONE) (D : Def K mg "read_bound" s_read_bound fa fd) : FnOk P w K mg base CX0 4 fa fd ["kind", "text"] sp_read_bound := by
  obtain ⟨fa_read_value, fd_read_value, D_read_value⟩ := T.d_read_value
  have G_read_value := ok_read_value (P := P) (w := w) (base := base) T D_read_value
  have b_read_value := D_read_value.fn.binds (ps := ["kind", "text"]) fun _ _ _ _ _ _ us hl => match us, hl with | [_, _], _ => rfl
  refine D.fn.ok sc_read_bound (fun vs H Q E h => ?_) (fun cdv A outer s H vs Q E hr h => ?_)
  · obtain ⟨kd, o, rfl, _⟩ := h
    rfl
  ·
    have r_read_value : Room 3 _ := hr.mono (by decide)
    obtain ⟨kd, o, rfl, ho, k⟩ := h
    refine ⟨_, (pss_one (ps_ret (pe_ifExp (pt_cmpR op_eq (pv 1) pe_str (nomark _)) pe_non (pe_call G_read_value r_read_value (by rfl) D_read_value.mg D_read_value.fn.kp b_read_value .nil pass0 (pa_cons (pv 0) (pa_cons (pv 1) pa_nil)))))), ?_⟩
    refine ⟨_, rfl, rfl, _, rfl, ?_⟩
    cases o with
    | none => exact iteT (k _ (Same.refl _))
    | some q =>
      have hq := ho q rfl
      have en : decide (V.str (keyS q) = V.str "") = false := decide_eq_false fun z => key_ne hq.2 (by injection z)
      show (fun c H1 => if c = true then _ else _) (decide (V.str (keyS q) = V.str "")) H
      rw [en]
      refine iteF ?_
      exact ⟨_, rfl, _, rfl, kd, q, rfl, hq.1, hq.2, fun H1 s1 => k _ s1⟩
theorem sc_read_condition : FnScope ["form", "text", "column", "sign", "rest", "kind", "low", "dots", "high"] ["form", "text"] (defScope s_read_condition) := ⟨rfl, rfl, rfl, by decide +kernel, rfl, by decide +kernel, by decide +kernel⟩

set_option maxHeartbeats 8000000 in
theorem ok_read_condition {fa : Addr} {fd : FuncData} (T : Txt K mg w t_FIGURES a_KINDS a_MOST_BY_KIND t_MOST_COLUMNS t_MOST_CONDITIONS t_MOST_FIGURES t_MOST_LETTERS t_MOST_NUMBER t_NONE) (D : Def K mg "read_condition" s_read_condition fa fd) : FnOk P w K mg base CX0 5 fa fd ["form", "text"] sp_read_condition := by
  obtain ⟨fa_kind_of, fd_kind_of, D_kind_of⟩ := T.d_kind_of
  have G_kind_of := ok_kind_of (P := P) (w := w) (base := base) T D_kind_of
  have b_kind_of := D_kind_of.fn.binds (ps := ["form", "thing"]) fun _ _ _ _ _ _ us hl => match us, hl with | [_, _], _ => rfl
  obtain ⟨fa_read_value, fd_read_value, D_read_value⟩ := T.d_read_value
  have G_read_value := ok_read_value (P := P) (w := w) (base := base) T D_read_value
  have b_read_value := D_read_value.fn.binds (ps := ["kind", "text"]) fun _ _ _ _ _ _ us hl => match us, hl with | [_, _], _ => rfl
  obtain ⟨fa_read_bound, fd_read_bound, D_read_bound⟩ := T.d_read_bound
  have G_read_bound := ok_read_bound (P := P) (w := w) (base := base) T D_read_bound
  have b_read_bound := D_read_bound.fn.binds (ps := ["kind", "text"]) fun _ _ _ _ _ _ us hl => match us, hl with | [_, _], _ => rfl
  refine D.fn.ok sc_read_condition (fun vs H Q E h => ?_) (fun cdv A outer s H vs Q E hr h => ?_)
  · obtain ⟨fo, cols, c, i, kd, rfl, _⟩ := h
    rfl
  ·
    have r_kind_of : Room 1 _ := hr.mono (by decide)
    have r_read_value : Room 3 _ := hr.mono (by decide)
    have r_read_bound : Room 4 _ := hr.mono (by decide)
    obtain ⟨fo, cols, c, i, kd, rfl, hf, hco, hc, hi, hk, k⟩ := h
    refine ⟨_, (pss_cons (ps_asg (pe_partition (pv 1) pe_str) (pg_tupK (K := K) (n := 3) (by rfl) (pgs_cons (pg_name (i := 2) sc_read_condition.nd rfl (by first | exact Or.inl rfl | exact Or.inr rfl)) (pgs_cons (pg_name (i := 3) sc_read_condition.nd rfl (by first | exact Or.inl rfl | exact Or.inr rfl)) (pgs_cons (pg_name (i := 4) sc_read_condition.nd rfl (by first | exact Or.inl rfl | exact Or.inr rfl)) pgs_nil)))))
    (pss_cons (ps_asg (pe_call G_kind_of r_kind_of (by rfl) D_kind_of.mg D_kind_of.fn.kp b_kind_of .nil pass0 (pa_cons (pv 0) (pa_cons (pv 2) pa_nil))) (pg_name (i := 5) sc_read_condition.nd rfl (by first | exact Or.inl rfl | exact Or.inr rfl)))
    (pss_cons (ps_asg (pe_partition (pv 4) pe_str) (pg_tupK (K := K) (n := 3) (by rfl) (pgs_cons (pg_name (i := 6) sc_read_condition.nd rfl (by first | exact Or.inl rfl | exact Or.inr rfl)) (pgs_cons (pg_name (i := 7) sc_read_condition.nd rfl (by first | exact Or.inl rfl | exact Or.inr rfl)) (pgs_cons (pg_name (i := 8) sc_read_condition.nd rfl (by first | exact Or.inl rfl | exact Or.inr rfl)) pgs_nil)))))
    (pss_cons (ps_if (pt_cmpR op_eq (pv 7) pe_str (nomark _))
      (pss_one (ps_ret (pe_tup (pa_cons (pv 2) (pa_cons pe_str (pa_cons (pe_call G_read_value r_read_value (by rfl) D_read_value.mg D_read_value.fn.kp b_read_value .nil pass0 (pa_cons (pv 5) (pa_cons (pv 4) pa_nil))) pa_nil))))))
      pss_nil)
    (pss_one (ps_ret (pe_tup (pa_cons (pv 2) (pa_cons pe_str (pa_cons (pe_call G_read_bound r_read_bound (by rfl) D_read_bound.mg D_read_bound.fn.kp b_read_bound .nil pass0 (pa_cons (pv 5) (pa_cons (pv 6) pa_nil))) (pa_cons (pe_call G_read_bound r_read_bound (by rfl) D_read_bound.mg D_read_bound.fn.kp b_read_bound .nil pass0 (pa_cons (pv 5) (pa_cons (pv 8) pa_nil))) pa_nil))))))))))), ?_⟩
    have ka := kindAt_at hco.nd hi
    have cl := cond_len hc
    obtain ⟨e0, e1, e2, e4, e5, e6, e7⟩ := lit_len
    cases c with
    | is w q =>
      have hw : WordS w := hc.1
      have hkd : kindOf q = kd ∧ keyOk q := hk
      have kl := key_len hkd.2
      obtain ⟨p1, p2⟩ := cut_is hc
      refine ⟨_, rfl, ⟨_, rfl⟩, _, _, rfl, rfl, by rw [e1]; rfl, line (by omega), fun p hp => ?_⟩
      rw [p1]
      have s0 := same_new (o := HO.tup [.str w, .str "=", .str (keyS q)]) hp
      refine ⟨p, _, rfl, SqT.of upd_same, rfl, _, _, rfl, _, _, rfl, _, _, rfl, rfl, ?_⟩
      dsimp only
      generalize upd H p (HO.tup [.str w, .str "=", .str (keyS q)]) = H0 at s0 ⊢
      refine ⟨_, rfl, _, rfl, fo, _, cols, .str w, 1, rfl, hf.frm (.of_same s0 : Frm [] _ _), hco, .str w, gd_eas (n := 1) (by decide) (gd_str hw), by decide, fun H1 s1 => ?_⟩
      rw [show kindAt cols (.str w) = some kd from ka]
      refine (?_ : tSeq _ _ _ [some (.ref fo), some (.str (condS (.is w q))), some (.str w), some (.str "="), some (.str (keyS q)), some (.str kd), none, none, none] _)
      refine ⟨_, rfl, ⟨_, rfl⟩, _, _, rfl, rfl, by rw [e2]; rfl, line (by omega), fun p' hp' => ?_⟩
      rw [p2]
      have s2 := same_new (o := HO.tup [.str (keyS q), .str Str.empty, .str Str.empty]) hp'
      refine ⟨p', _, rfl, SqT.of upd_same, rfl, _, _, rfl, _, _, rfl, _, _, rfl, rfl, ?_⟩
      generalize upd H1 p' (HO.tup [.str (keyS q), .str Str.empty, .str Str.empty]) = H2 at s2 ⊢
      refine (?_ : tSeq _ _ _ [some (.ref fo), some (.str (condS (.is w q))), some (.str w), some (.str "="), some (.str (keyS q)), some (.str kd), some (.str (keyS q)), some (.str Str.empty), some (.str Str.empty)] _)
      refine ⟨_, rfl, rfl, _, rfl, ?_⟩
      refine iteT ?_
      have s02 := (s0.trans s1).trans s2
      refine ⟨_, rfl, _, rfl, _, rfl, kd, q, rfl, hkd.1, hkd.2, fun H3 s3 => ⟨by show 3 ≤ sizeLine; decide, fun r hr => ?_⟩⟩
      exact k _ _ ((s02.trans s3).trans (same_new hr)) ⟨r, rfl, upd_same⟩
    | frm w lo up =>
      have hw : WordS w := hc.1
      obtain ⟨hlo, hup, _⟩ : (∀ k, lo = some k → kindOf k = kd ∧ keyOk k) ∧ (∀ k, up = some k → kindOf k = kd ∧ keyOk k) ∧ (lo ≠ none ∨ up ≠ none) := hk
      have kl := bound_len hc.2.1
      have kl2 := bound_len hc.2.2
      obtain ⟨p1, p2⟩ := cut_frm hc
      refine ⟨_, rfl, ⟨_, rfl⟩, _, _, rfl, rfl, by rw [e1]; rfl, line (by omega), fun p hp => ?_⟩
      rw [p1]
      have zl : (boundS lo ++ ".." ++ boundS up).length ≤ 1000 := by simp only [len_app]; omega
      generalize boundS lo ++ ".." ++ boundS up = z at p2 zl ⊢
      have s0 := same_new (o := HO.tup [.str w, .str "=", .str z]) hp
      refine ⟨p, _, rfl, SqT.of upd_same, rfl, _, _, rfl, _, _, rfl, _, _, rfl, rfl, ?_⟩
      dsimp only
      generalize upd H p (HO.tup [.str w, .str "=", .str z]) = H0 at s0 ⊢
      refine ⟨_, rfl, _, rfl, fo, _, cols, .str w, 1, rfl, hf.frm (.of_same s0 : Frm [] _ _), hco, .str w, gd_eas (n := 1) (by decide) (gd_str hw), by decide, fun H1 s1 => ?_⟩
      rw [show kindAt cols (.str w) = some kd from ka]
      refine (?_ : tSeq _ _ _ [some (.ref fo), some (.str (condS (.frm w lo up))), some (.str w), some (.str "="), some (.str z), some (.str kd), none, none, none] _)
      refine ⟨_, rfl, ⟨_, rfl⟩, _, _, rfl, rfl, by rw [e2]; rfl, line zl, fun p' hp' => ?_⟩
      rw [p2]
      have s2 := same_new (o := HO.tup [.str (boundS lo), .str "..", .str (boundS up)]) hp'
      refine ⟨p', _, rfl, SqT.of upd_same, rfl, _, _, rfl, _, _, rfl, _, _, rfl, rfl, ?_⟩
      generalize upd H1 p' (HO.tup [.str (boundS lo), .str "..", .str (boundS up)]) = H2 at s2 ⊢
      refine (?_ : tSeq _ _ _ [some (.ref fo), some (.str (condS (.frm w lo up))), some (.str w), some (.str "="), some (.str z), some (.str kd), some (.str (boundS lo)), some (.str ".."), some (.str (boundS up))] _)
      refine ⟨_, rfl, rfl, _, rfl, ?_⟩
      have en : decide (V.str ".." = V.str "") = false := decide_eq_false fun z => by injection z with z; exact absurd z (by decide +kernel)
      show (fun b H1 => if b = true then _ else _) (decide (V.str ".." = V.str "")) H2
      rw [en]
      refine iteF (nextK ?_)
      have s02 := (s0.trans s1).trans s2
      refine ⟨_, rfl, _, rfl, _, rfl, kd, lo, rfl, hlo, fun H3 s3 => ?_⟩
      refine ⟨_, rfl, _, rfl, kd, up, rfl, hup, fun H4 s4 => ⟨by show 4 ≤ sizeLine; decide, fun r hr => ?_⟩⟩
      exact k _ _ (((s02.trans s3).trans s4).trans (same_new hr)) ⟨r, rfl, upd_same⟩
theorem sc_read_conditions : FnScope ["form", "text", "parts", "conditions", "part"] ["form", "text"] (defScope s_read_conditions) := ⟨rfl, rfl, rfl, by decide +kernel, rfl, by decide +kernel, by decide +kernel⟩

set_option maxHeartbeats 8000000 in
theorem ok_read_conditions {fa : Addr} {fd : FuncData} (T : Txt K mg w t_FIGURES a_KINDS a_MOST_BY_KIND t_MOST_COLUMNS t_MOST_CONDITIONS t_MOST_FIGURES t_MOST_LETTERS t_MOST_NUMBER t_NONE) (D : Def K mg "read_conditions" s_read_conditions fa fd) : FnOk P w K mg base CX0 6 fa fd ["form", "text"] sp_read_conditions := by
  obtain ⟨fa_text_of, fd_text_of, D_text_of⟩ := T.d_text_of
  have G_text_of := ok_text_of (P := P) (w := w) (base := base) T D_text_of
  have b_text_of := D_text_of.fn.binds (ps := ["thing"]) fun _ _ _ _ _ _ us hl => match us, hl with | [_], _ => rfl
  obtain ⟨fa_read_condition, fd_read_condition, D_read_condition⟩ := T.d_read_condition
  have G_read_condition := ok_read_condition (P := P) (w := w) (base := base) T D_read_condition
  have b_read_condition := D_read_condition.fn.binds (ps := ["form", "text"]) fun _ _ _ _ _ _ us hl => match us, hl with | [_, _], _ => rfl
  obtain ⟨fa_are_conditions, fd_are_conditions, D_are_conditions⟩ := T.d_are_conditions
  have G_are_conditions := ok_are_conditions (P := P) (w := w) (base := base) T D_are_conditions
  have b_are_conditions := D_are_conditions.fn.binds (ps := ["form", "thing"]) fun _ _ _ _ _ _ us hl => match us, hl with | [_, _], _ => rfl
  refine D.fn.ok sc_read_conditions (fun vs H Q E h => ?_) (fun cdv A outer s H vs Q E hr h => ?_)
  · obtain ⟨fo, cols, cs, rfl, _⟩ := h
    rfl
  ·
    have r_text_of : Room 1 _ := hr.mono (by decide)
    have r_read_condition : Room 5 _ := hr.mono (by decide)
    have r_are_conditions : Room 5 _ := hr.mono (by decide)
    obtain ⟨fo, cols, cs, rfl, hf, hco, hcs, k⟩ := h
    refine ⟨_, (pss_cons (ps_asg (pe_ifExp (pt_cmpR op_eq (pv 1) (pe_glob (v := V.str "-") (by rfl) T.g_NONE ⟨_, rfl⟩) (nomark _)) (pe_lst pa_nil) (pe_split (pe_call G_text_of r_text_of (by rfl) D_text_of.mg D_text_of.fn.kp b_text_of .nil pass0 (pa_cons (pv 1) pa_nil)) pe_str)) (pg_name (i := 2) sc_read_conditions.nd rfl (by first | exact Or.inl rfl | exact Or.inr rfl)))
    (pss_cons (ps_asg (pe_callTy call_tuple_of (by rfl) T.z_tuple bt_tuple (pa_cons (pe_lc (own := [("part", 4)]) (g := gName 4) (by rfl) sc_read_conditions.nd (pi_list (pv 2)) (blkOk_by (own := [("part", 4)]) (N := ["form", "text", "parts", "conditions", "part"]) (sc := defScope s_read_conditions) (by decide +kernel))
        (fun _ _ _ _ _ => (pg_name (i := 4) sc_read_conditions.nd rfl (by first | exact Or.inl rfl | exact Or.inr rfl))) (fun _ _ _ _ _ => pts_nil)
        (fun _ _ _ _ _ => (pe_call G_read_condition r_read_condition (by rfl) D_read_condition.mg D_read_condition.fn.kp b_read_condition .nil pass0 (pa_cons (pv 0) (pa_cons (pv 4) pa_nil))))) pa_nil)) (pg_name (i := 3) sc_read_conditions.nd rfl (by first | exact Or.inl rfl | exact Or.inr rfl)))
    (pss_cons (ps_if (pt_not (pt_val (pe_call G_are_conditions r_are_conditions (by rfl) D_are_conditions.mg D_are_conditions.fn.kp b_are_conditions .nil pass0 (pa_cons (pv 0) (pa_cons (pv 3) pa_nil)))))
      (pss_one ps_never)
      pss_nil)
    (pss_one (ps_ret (pv 3)))))), ?_⟩
    obtain ⟨e0, e1, e2, e4, e5, e6, e7⟩ := lit_len
    have cok := hcs.cnok hco
    have cl := conds_len cok hcs.len
    have l6 := hcs.len
    refine (?_ : tSeq _ _ _ [some (.ref fo), some (.str (condsS cs)), none, none, none] _)
    refine seqR (fun σ' H' => ∃ P, σ' = [some (.ref fo), some (.str (condsS cs)), some (.ref P), none, none] ∧ Same H H' ∧ H' P = some (.lst ((cs.map condS).map V.str))) ?_ ?_
    · rintro σ' H' ⟨P, rfl, s1, hP⟩
      have hf1 := hf.frm (.of_same s1 : Frm [] _ _)
      refine ⟨_, rfl, P, rfl, ⟨_, SqL.of hP⟩, fun D hD => ?_⟩
      refine lc_list (xs := (cs.map condS).map V.str) (fun i H2 => Same H' H2 ∧ ∃ vs, H2 D = some (.lst vs) ∧ Paired (CnAt H2) vs (cs.take i)) ⟨same_new hD, [], upd_same, .nil⟩ (fun i H2 _ ⟨s, _⟩ => SqL.of (s _ _ hP)) ?_ ?_
      · rintro i x H2 hx ⟨s2, vs, hD2, hV⟩
        rw [List.getElem?_map, List.getElem?_map] at hx
        cases hc : cs[i]? with
        | none => rw [hc] at hx; cases hx
        | some c =>
          rw [hc] at hx
          obtain rfl : x = V.str (condS c) := (Option.some.inj hx).symm
          have hil : i < cs.length := (List.getElem?_eq_some_iff.mp hc).1
          have hm : c ∈ cs := List.mem_of_getElem? hc
          obtain ⟨j, kd, hj, hk⟩ := hcs.ok c hm
          refine ⟨rfl, ?_⟩
          refine ⟨_, rfl, _, rfl, fo, cols, c, j, kd, rfl, hf1.frm (.of_same s2 : Frm [] _ _), hco, cok c hm, hj, hk, fun v H3 s3 hv => ⟨vs, s3 _ _ hD2, ?_, same_put (s2.trans s3) hD, vs ++ [v], upd_same, ?_⟩⟩
          · have := Paired.length hV
            rw [List.length_take] at this
            exact lt_line (by omega)
          · rw [List.take_succ, hc]
            have ed := s3 _ _ hD2
            exact Paired.app (Paired.mono (fun _ _ z => (cn_put (z.frm (.of_same s3 : Frm [] _ _)) ed)) hV) (.cons (cn_put hv ed) .nil)
      · rintro H2 ⟨s2, vs, hD2, hV⟩
        rw [List.length_map, List.length_map, List.take_length] at hV
        refine ⟨D, vs, rfl, .inl ⟨SqL.of hD2, fun T hT => ?_⟩⟩
        have s3 := same_new (o := HO.tup vs) hT
        have hcn : CnsAt (upd H2 T (.tup vs)) T cs := ⟨vs, upd_same, Paired.mono (fun _ _ z => z.frm (.of_same s3 : Frm [] _ _)) hV⟩
        have s13 := s2.trans s3
        generalize upd H2 T (HO.tup vs) = H3 at hcn s13
        clear s3 hD2 hT
        obtain ⟨vs2, hT, hV2⟩ := id hcn
        refine ⟨_, rfl, _, rfl, fo, .ref T, cols, _, 6, rfl, hf1.frm (.of_same s13 : Frm [] _ _), hco, .tup hT (cns_dt0 hV2), gd_eas (n := 6) (by decide) (conds_gd hco hcs), by decide, fun H4 s4 => ⟨_, rfl, ?_⟩⟩
        rw [conds_good hco.nd hcs]
        refine iteF (nextK ⟨_, rfl, ?_⟩)
        exact k _ _ ((s1.trans s13).trans s4) (hcn.frm (.of_same s4 : Frm [] _ _))
    · intro nx hnx
      by_cases ne : cs = []
      · subst ne
        refine ⟨_, rfl, rfl, _, rfl, ?_⟩
        have ee : decide (V.str (condsS []) = V.str "-") = true := decide_eq_true rfl
        rw [ee]
        exact iteT ⟨Nat.zero_le _, fun p hp => hnx _ _ ⟨p, rfl, same_new hp, upd_same⟩⟩
      · refine ⟨_, rfl, rfl, _, rfl, ?_⟩
        have en : decide (V.str (condsS cs) = V.str "-") = false := decide_eq_false fun z => not_dash cok ne (by injection z)
        rw [en]
        refine iteF ?_
        refine ⟨_, rfl, _, rfl, by omega, ⟨_, rfl⟩, _, _, rfl, rfl, by rw [e6]; rfl, line (by omega), fun p hp => ?_⟩
        rw [(split_conds cok ne).2]
        exact hnx _ _ ⟨p, rfl, same_new hp, upd_same⟩
theorem sc_law_bag : FnScope ["_law_script", "_law_at", "_law_cell", "_law_great", "_law_primes"] ["_law_script", "_law_at"] (defScope s_law_bag) := ⟨rfl, rfl, rfl, by decide +kernel, rfl, by decide +kernel, by decide +kernel⟩
noncomputable def sp_law_bag (K : PySem.W.Frag) : Sp := fun vs H Q _ => ∃ (a : Addr) (ns : List Int) (k : Int), vs = [.ref a, .int k] ∧ SqL K H a (ns.map V.int) ∧ ns.length ≤ 63 ∧ 0 ≤ k ∧ k < 1000 ∧
  ∀ b H', H b = none → Same H H' → Bag H' b → Q (.ref b) H'
set_option maxHeartbeats 8000000 in
theorem ok_law_bag {fa : Addr} {fd : FuncData} (T : Txt K mg w t_FIGURES a_KINDS a_MOST_BY_KIND t_MOST_COLUMNS t_MOST_CONDITIONS t_MOST_FIGURES t_MOST_LETTERS t_MOST_NUMBER t_NONE) (D : Def K mg "_law_bag" s_law_bag fa fd) : FnOk P w K mg base CX0 1 fa fd ["_law_script", "_law_at"] (sp_law_bag K) := by
  refine D.fn.ok sc_law_bag (fun vs H Q E h => ?_) (fun cdv A outer s H vs Q E hr h => ?_)
  · obtain ⟨a, ns, k, rfl, _⟩ := h
    rfl
  ·
    obtain ⟨a, ns, n, rfl, hS, hl, h0, h1, k⟩ := h
    refine ⟨_, (pss_cons (ps_asg pe_int (pg_name (i := 2) sc_law_bag.nd rfl (by first | exact Or.inl rfl | exact Or.inr rfl)))
    (pss_cons (ps_if (pt_cmpR op_gt (pe_callB call_len_seq (by rfl) T.z_len bt_len (pa_cons (pv 0) pa_nil)) pe_int (nomark _))
      (pss_one (ps_asg (pe_ix ix_list (pv 0) (pe_op op_mod (pv 1) (pe_callB call_len_seq (by rfl) T.z_len bt_len (pa_cons (pv 0) pa_nil))) (fun _ _ => rfl)) (pg_name (i := 2) sc_law_bag.nd rfl (by first | exact Or.inl rfl | exact Or.inr rfl))))
      pss_nil)
    (pss_cons (ps_asg pe_int (pg_name (i := 3) sc_law_bag.nd rfl (by first | exact Or.inl rfl | exact Or.inr rfl)))
    (pss_cons (ps_if (PW.pt (pw_and (pt_cmpR op_ge (pe_callB call_abs (by rfl) T.z_abs bt_abs (pa_cons (pv 2) pa_nil)) (pe_op op_pow pe_int pe_int) (nomark _)) (pw_and1 (pt_cmpR op_lt (pv 1) (pe_callB call_len_seq (by rfl) T.z_len bt_len (pa_cons (pv 0) pa_nil)) (nomark _)))))
      (pss_one (ps_asg (pe_callB call_abs (by rfl) T.z_abs bt_abs (pa_cons (pv 2) pa_nil)) (pg_name (i := 3) sc_law_bag.nd rfl (by first | exact Or.inl rfl | exact Or.inr rfl))))
      pss_nil)
    (pss_cons (ps_asg (pe_tup (pa_cons pe_int (pa_cons pe_int (pa_cons pe_int (pa_cons pe_int (pa_cons pe_int (pa_cons pe_int (pa_cons pe_int (pa_cons pe_int pa_nil))))))))) (pg_name (i := 4) sc_law_bag.nd rfl (by first | exact Or.inl rfl | exact Or.inr rfl)))
    (pss_one (ps_ret (pe_lst (pa_cons (pv 3) (pa_cons (pe_op op_mod (pe_op op_pow (pe_op op_add (pe_op op_add (pe_op op_mod (pv 2) pe_int) (pe_op op_mul pe_int (pv 1))) pe_int) pe_int) (pe_ix ix_tup (pv 4) (pe_op op_mod (pv 1) pe_int) (fun _ _ => rfl))) pa_nil)))))))))), ?_⟩
    have prime : ∃ v, atI [V.int 2147483629, V.int 2147483587, V.int 2147483579, V.int 2147483563, V.int 2147483549, V.int 2147483543, V.int 2147483497, V.int 2147483489] (n % 8) = some v ∧ ∃ p : Int, v = .int p ∧ 0 < p ∧ p < 2147483648 := by
      refine at_all _ (fun x hx => ?_) (Int.emod_nonneg _ (by decide)) (by show n % 8 < 8; omega)
      simp only [List.mem_cons, List.not_mem_nil, or_false] at hx
      rcases hx with rfl | rfl | rfl | rfl | rfl | rfl | rfl | rfl <;> exact ⟨_, rfl, by decide, by decide⟩
    obtain ⟨_, ep, p, rfl, p0, p1⟩ := prime
    have hlm : (ns.map V.int).length = ns.length := List.length_map ..
    refine seqC ?_
    refine seqR (fun σ' H' => ∃ c : Int, σ' = [some (.ref a), some (.int n), some (.int c), none, none] ∧ H' = H) ?_ ?_
    · rintro σ' H' ⟨c, rfl, rfl⟩
      refine seqC ?_
      refine seqR (fun σ'' H'' => ∃ g : Int, σ'' = [some (.ref a), some (.int n), some (.int c), some (.int g), none] ∧ H'' = H' ∧ 0 ≤ g) ?_ ?_
      · rintro σ'' H'' ⟨g, rfl, rfl, hg⟩
        refine ⟨by show 8 ≤ sizeLine; decide, fun q hq => ?_⟩
        refine ⟨_, rfl, _, rfl, _, _, rfl, rfl, (by decide : (0 : Int) < 2147483647), _, rfl, _, _, rfl, rfl, .inl ⟨by decide, by decide⟩, _, _, rfl, rfl, _, _, rfl, rfl, _, _, rfl, rfl, ⟨by decide, by decide, ?_⟩, _, rfl, _, rfl, _, _, rfl, rfl, (by decide : (0 : Int) < 8), q, _, _, _, rfl, rfl, SqT.of upd_same, ep, _, _, rfl, rfl, p0, ?_⟩
        · omega
        · refine ⟨by show 2 ≤ sizeLine; decide, fun b hb => ?_⟩
          exact k b _ ((same_new hq).free hb) ((same_new hq).trans (same_new hb)) ⟨_, _, upd_same, hg, Int.emod_nonneg _ (by omega), Int.lt_trans (Int.emod_lt_of_pos _ p0) p1⟩
      · intro nx hnx
        refine ⟨_, rfl, _, rfl, _, _, rfl, rfl, ⟨by decide, by decide, by decide⟩, _, _, rfl, rfl, _, rfl, ?_⟩
        refine ite2 (fun c2 => ?_) (fun c2 => ?_)
        · refine ⟨_, rfl, _, rfl, _, _, rfl, .inl hS, _, _, rfl, rfl, _, rfl, ?_⟩
          refine ite2 (fun c3 => ?_) (fun c3 => ?_)
          · exact ⟨_, rfl, _, rfl, hnx _ _ ⟨_, rfl, rfl, by split <;> omega⟩⟩
          · exact hnx _ _ ⟨0, rfl, rfl, by decide⟩
        · exact hnx _ _ ⟨0, rfl, rfl, by decide⟩
    · intro nx hnx
      refine ⟨_, rfl, _, _, rfl, .inl hS, _, _, rfl, rfl, _, rfl, ?_⟩
      refine ite2 (fun c1 => ?_) (fun c1 => ?_)
      · have c1' : 0 < (ns.length : Int) := by have := of_decide_eq_true c1; rw [hlm] at this; exact this
        obtain ⟨c, ec⟩ := at_int (ns := ns) (k := n % ((ns.map V.int).length : Int)) (Int.emod_nonneg _ (by rw [hlm]; omega)) (by rw [hlm]; exact Int.emod_lt_of_pos _ c1')
        exact ⟨_, rfl, _, rfl, _, rfl, _, _, rfl, .inl hS, _, _, rfl, rfl, by rw [hlm]; exact c1', a, _, _, _, rfl, rfl, hS, ec, hnx _ _ ⟨c, rfl, rfl⟩⟩
      · exact hnx _ _ ⟨0, rfl, rfl⟩
theorem sc_law_take : FnScope ["_law_bag_here", "_law_many", "_law_digit"] ["_law_bag_here", "_law_many"] (defScope s_law_take) := ⟨rfl, rfl, rfl, by decide +kernel, rfl, by decide +kernel, by decide +kernel⟩
noncomputable def sp_law_take : Sp := fun vs H Q _ => ∃ (b : Addr) (m : Int), vs = [.ref b, .int m] ∧ Bag H b ∧ 0 < m ∧ m < 1073741824 ∧ ∀ r H', 0 ≤ r → r < m → Eff b H H' → Q (.int r) H'
set_option maxHeartbeats 8000000 in
theorem ok_law_take {fa : Addr} {fd : FuncData} (T : Txt K mg w t_FIGURES a_KINDS a_MOST_BY_KIND t_MOST_COLUMNS t_MOST_CONDITIONS t_MOST_FIGURES t_MOST_LETTERS t_MOST_NUMBER t_NONE) (D : Def K mg "_law_take" s_law_take fa fd) : FnOk P w K mg base CX0 1 fa fd ["_law_bag_here", "_law_many"] sp_law_take := by
  refine D.fn.ok sc_law_take (fun vs H Q E h => ?_) (fun cdv A outer s H vs Q E hr h => ?_)
  · obtain ⟨b, m, rfl, _⟩ := h
    rfl
  ·
    obtain ⟨b, m, rfl, ⟨g, x, hb, hg, hx0, hx1⟩, h0, h1, k⟩ := h
    refine ⟨_, (pss_cons (ps_if (pt_cmpR op_gt (pe_ix ix_list (pv 0) pe_int (fun _ _ => rfl)) pe_int (nomark _))
      (pss_cons (ps_asg (pe_op op_mod (pe_ix ix_list (pv 0) pe_int (fun _ _ => rfl)) (pv 1)) (pg_name (i := 2) sc_law_take.nd rfl (by first | exact Or.inl rfl | exact Or.inr rfl)))
    (pss_cons (ps_asg (pe_op op_fdiv (pe_ix ix_list (pv 0) pe_int (fun _ _ => rfl)) (pv 1)) (pg_sub (pv 0) pe_int set_list))
    (pss_one (ps_ret (pv 2)))))
      pss_nil)
    (pss_cons (ps_asg (pe_op op_mod (pe_op op_add (pe_op op_mul (pe_ix ix_list (pv 0) pe_int (fun _ _ => rfl)) pe_int) pe_int) pe_int) (pg_sub (pv 0) pe_int set_list))
    (pss_one (ps_ret (pe_op op_mod (pe_op op_mod (pe_op op_pow (pe_op op_fdiv (pe_ix ix_list (pv 0) pe_int (fun _ _ => rfl)) pe_int) pe_int) pe_int) (pv 1)))))), ?_⟩
    refine ⟨_, rfl, b, _, _, _, rfl, rfl, SqL.of hb, rfl, _, _, rfl, rfl, _, rfl, ?_⟩
    refine ite2 (fun c1 => ?_) (fun c1 => ?_)
    · refine ⟨_, rfl, b, _, _, _, rfl, rfl, SqL.of hb, rfl, _, rfl, _, _, rfl, rfl, h0, ?_⟩
      refine ⟨_, rfl, b, _, _, _, rfl, rfl, SqL.of hb, rfl, _, rfl, _, _, rfl, rfl, ⟨h0, h1⟩, _, rfl, b, _, _, _, rfl, rfl, hb, rfl, _, rfl, ?_⟩
      refine k _ _ (Int.emod_nonneg _ (by omega)) (Int.emod_lt_of_pos _ h0) ⟨⟨_, _, upd_same, Int.ediv_nonneg hg (by omega), hx0, hx1⟩, fun c o n e => by rw [upd_ne n]; exact e⟩
    · refine ⟨_, rfl, b, _, _, _, rfl, rfl, SqL.of hb, rfl, _, _, rfl, rfl, .inr ⟨by decide, by decide⟩, _, _, rfl, rfl, _, _, rfl, rfl, (by decide : (0 : Int) < 2147483647), _, rfl, b, _, _, _, rfl, rfl, hb, rfl, ?_⟩
      have hy0 : 0 ≤ (x * 48271 + 11) % 2147483647 := Int.emod_nonneg _ (by decide)
      have hy1 : (x * 48271 + 11) % 2147483647 < 2147483647 := Int.emod_lt_of_pos _ (by decide)
      refine ⟨_, rfl, b, _, _, _, rfl, rfl, SqL.of upd_same, rfl, _, _, rfl, rfl, ⟨by decide, by decide⟩, _, _, rfl, rfl, ⟨by decide, by decide, ?_⟩, _, _, rfl, rfl, (by decide : (0 : Int) < 2147483629), _, rfl, _, _, rfl, rfl, h0, ?_⟩
      · omega
      · refine k _ _ (Int.emod_nonneg _ (by omega)) (Int.emod_lt_of_pos _ h0) ⟨⟨_, _, upd_same, hg, hy0, Int.lt_trans hy1 (by decide)⟩, fun c o n e => by rw [upd_ne n]; exact e⟩
theorem sc_law_names : FnScope ["_law_bag_here", "_law_many", "_law_letters", "_law_stem", "_law_k", "_law_spot", "_law_first", "_law_more", "_law_one"] ["_law_bag_here", "_law_many"] (defScope s_law_names) := ⟨rfl, rfl, rfl, by decide +kernel, rfl, by decide +kernel, by decide +kernel⟩

set_option maxHeartbeats 8000000 in
theorem ok_law_names {fa : Addr} {fd : FuncData} (T : Txt K mg w t_FIGURES a_KINDS a_MOST_BY_KIND t_MOST_COLUMNS t_MOST_CONDITIONS t_MOST_FIGURES t_MOST_LETTERS t_MOST_NUMBER t_NONE) (D : Def K mg "_law_names" s_law_names fa fd) : FnOk P w K mg base CX0 2 fa fd ["_law_bag_here", "_law_many"] sp_law_names8 := by
  obtain ⟨fa_law_take, fd_law_take, D_law_take⟩ := T.d_law_take
  have G_law_take := ok_law_take (P := P) (w := w) (base := base) T D_law_take
  have b_law_take := D_law_take.fn.binds (ps := ["_law_bag_here", "_law_many"]) fun _ _ _ _ _ _ us hl => match us, hl with | [_, _], _ => rfl
  refine D.fn.ok sc_law_names (fun vs H Q E h => ?_) (fun cdv A outer s H vs Q E hr h => ?_)
  · obtain ⟨b, n, rfl, _⟩ := h
    rfl
  ·
    have r_law_take : Room 1 _ := hr.mono (by decide)
    obtain ⟨b, n, rfl, hb, n1, n6, k⟩ := h
    refine ⟨_, (pss_cons (ps_asg pe_str (pg_name (i := 2) sc_law_names.nd rfl (by first | exact Or.inl rfl | exact Or.inr rfl)))
    (pss_cons (ps_asg (pe_join pe_str (pe_lc (own := [("_law_k", 4)]) (g := gName 4) (by rfl) sc_law_names.nd (pi_range1 (by rfl) T.z_range (pa_cons (pe_call G_law_take r_law_take (by rfl) D_law_take.mg D_law_take.fn.kp b_law_take .nil pass0 (pa_cons (pv 0) (pa_cons pe_int pa_nil))) pa_nil)) (blkOk_by (own := [("_law_k", 4)]) (N := ["_law_bag_here", "_law_many", "_law_letters", "_law_stem", "_law_k", "_law_spot", "_law_first", "_law_more", "_law_one"]) (sc := defScope s_law_names) (by decide +kernel))
        (fun _ _ _ _ _ => (pg_name (i := 4) sc_law_names.nd rfl (by first | exact Or.inl rfl | exact Or.inr rfl))) (fun _ _ _ _ _ => pts_nil)
        (fun _ _ _ _ _ => (pe_ix ix_str (pv 2) (pe_call G_law_take r_law_take (by rfl) D_law_take.mg D_law_take.fn.kp b_law_take .nil pass0 (pa_cons (pv 0) (pa_cons pe_int pa_nil))) (fun _ _ => rfl))))) (pg_name (i := 3) sc_law_names.nd rfl (by first | exact Or.inl rfl | exact Or.inr rfl)))
    (pss_cons (ps_asg (pe_tup (pa_cons (pe_call G_law_take r_law_take (by rfl) D_law_take.mg D_law_take.fn.kp b_law_take .nil pass0 (pa_cons (pv 0) (pa_cons (pe_op op_add (pe_callB call_len_str (by rfl) T.z_len bt_len (pa_cons (pv 3) pa_nil)) pe_int) pa_nil))) (pa_cons (pe_call G_law_take r_law_take (by rfl) D_law_take.mg D_law_take.fn.kp b_law_take .nil pass0 (pa_cons (pv 0) (pa_cons pe_int pa_nil))) pa_nil))) (pg_tupK (K := K) (n := 2) (by rfl) (pgs_cons (pg_name (i := 5) sc_law_names.nd rfl (by first | exact Or.inl rfl | exact Or.inr rfl)) (pgs_cons (pg_name (i := 6) sc_law_names.nd rfl (by first | exact Or.inl rfl | exact Or.inr rfl)) pgs_nil))))
    (pss_cons (ps_setLc (i := 7) (own := [("_law_k", 4)]) (g := gName 4) rfl sc_law_names.nd rfl (by rfl) (sw_true rfl (by rfl) rfl (by decide +kernel)) (pi_range1 (by rfl) T.z_range (pa_cons (pv 1) pa_nil)) (blkOk_by (own := [("_law_k", 4)]) (N := ["_law_bag_here", "_law_many", "_law_letters", "_law_stem", "_law_k", "_law_spot", "_law_first", "_law_more", "_law_one"]) (sc := defScope s_law_names) (by decide +kernel))
        (fun _ _ _ _ _ => (pg_name (i := 4) sc_law_names.nd rfl (by first | exact Or.inl rfl | exact Or.inr rfl))) (fun _ _ _ _ _ => pts_nil)
        (fun _ _ _ _ _ => (pe_op op_add_str (pe_ix ix_str (pv 2) (pe_op op_mod (pe_op op_add (pv 6) (pv 4)) pe_int) (fun _ _ => rfl)) (pe_op op_rep_none (pe_ix ix_str (pv 2) (pe_op op_mod (pv 4) pe_int) (fun _ _ => rfl)) (pe_callTy call_int1 (by rfl) T.z_int bt_int (pa_cons (pe_cmpR op_gt (pv 4) pe_int (nomark _)) pa_nil))))))
    (pss_one (ps_ret (pe_lc (own := [("_law_one", 8)]) (g := gName 8) (by rfl) sc_law_names.nd (pi_list (pv 7)) (blkOk_by (own := [("_law_one", 8)]) (N := ["_law_bag_here", "_law_many", "_law_letters", "_law_stem", "_law_k", "_law_spot", "_law_first", "_law_more", "_law_one"]) (sc := defScope s_law_names) (by decide +kernel))
        (fun _ _ _ _ _ => (pg_name (i := 8) sc_law_names.nd rfl (by first | exact Or.inl rfl | exact Or.inr rfl))) (fun _ _ _ _ _ => pts_nil)
        (fun _ _ _ _ _ => (pe_op op_add_str (pe_op op_add_str (pe_slice sl_str (pv 3) po_none (po_some (pv 5))) (pv 8)) (pe_slice sl_str (pv 3) (po_some (pv 5)) po_none)))))))))), ?_⟩
    refine ⟨⟨_, rfl⟩, ?_⟩
    refine ⟨_, rfl, b, 6, rfl, hb, by decide, by decide, fun m H1 m0 m1 e1 => ?_⟩
    refine ⟨m, rfl, by omega, by omega, fun D hD => ?_⟩
    have nD : D ≠ b := (e1.1.ne hD).symm
    refine lc_range (fun i H => Eff b H1 H ∧ ∃ cs : List Nat, H D = some (.lst ((cs.map fun c => (⟨#[c]⟩ : Str)).map V.str)) ∧ cs.length = i ∧ ∀ c ∈ cs, 97 ≤ c ∧ c ≤ 122)
      ⟨e1.1.eff (same_new hD), [], upd_same, rfl, by simp⟩ ?_ ?_
    · rintro j H6 hj ⟨he, cs, hc, hl, ha⟩
      refine ⟨rfl, ?_⟩
      refine ⟨_, rfl, _, rfl, b, 26, rfl, he.1, by decide, by decide, fun c H7 c0 c1 e7 => ?_⟩
      obtain ⟨d, ed, hd⟩ := az_at c0 c1
      refine ⟨_, _, d, rfl, rfl, by decide +kernel, ed, _, e7.2 D _ nD hc, ?_, ?_⟩
      · rw [List.length_map, List.length_map, hl]
        exact Nat.lt_of_lt_of_le hj (Nat.le_trans (by omega : m.toNat ≤ 100) (by decide))
      · have g : Bag (upd H7 D (.lst ((cs.map fun c => (⟨#[c]⟩ : Str)).map V.str ++ [V.str ⟨#[d]⟩]))) b := by
          obtain ⟨g, x, eb, r⟩ := e7.1
          exact ⟨g, x, by rw [upd_ne nD.symm]; exact eb, r⟩
        refine ⟨⟨g, fun c o n e => ?_⟩, cs ++ [d], ?_, ?_, fun c hc => ?_⟩
        · rw [upd_ne (fun z => by subst z; rw [hD] at e; cases e)]
          exact e7.2 c o n (he.2 c o n e)
        · rw [upd_same, List.map_append, List.map_append]; rfl
        · rw [List.length_append, hl]; rfl
        · rcases List.mem_append.mp hc with q | q
          · exact ha c q
          · rw [List.mem_singleton.mp q]; exact hd
    rintro H6 ⟨he, cs, hc, hl, ha⟩
    refine ⟨_, D, cs.map fun c => (⟨#[c]⟩ : Str), rfl, rfl, .inl (SqL.of hc), ?_, ?_⟩
    · rw [sum_ones, List.length_map]
      show cs.length + cs.length * 0 ≤ _
      omega
    try dsimp only [gName]
    have E6 := e1.trans he
    have gl := glue_len cs
    have gt := glue cs
    have l5 : cs.length ≤ 5 := by omega
    clear hc hD he
    generalize Txt.join "" (cs.map fun c => (⟨#[c]⟩ : Str)) = S at gl gt ⊢
    refine (?_ : tSeq _ _ _ [some (.ref b), some (.int n), some (.str "abcdefghijklmnopqrstuvwxyz"), some (.str S), none, none, none, none, none] _)
    refine ⟨_, rfl, _, rfl, S, rfl, line (by omega), _, _, rfl, rfl, b, _, rfl, E6.1, by omega, by omega, fun sp H7 sp0 sp1 e7 => ?_⟩
    refine ⟨_, rfl, b, 26, rfl, e7.1, by decide, by decide, fun f0 H8 f00 f01 e8 => ?_⟩
    refine ⟨by show 2 ≤ sizeLine; decide, fun T hT => ?_⟩
    have E8 := (E6.trans e7).trans e8
    refine ⟨T, _, rfl, SqT.of upd_same, rfl, _, _, rfl, _, _, rfl, rfl, ?_⟩
    dsimp only
    have E9 := E8.same (same_new (o := HO.tup [V.int sp, V.int f0]) hT)
    clear hT e7 e8 E8 E6 e1
    generalize upd H8 T (HO.tup [V.int sp, V.int f0]) = H9 at E9 ⊢
    refine (?_ : tSeq _ _ _ [some (.ref b), some (.int n), some (.str "abcdefghijklmnopqrstuvwxyz"), some (.str S), none, some (.int sp), some (.int f0), none, none] _)
    refine ⟨_, rfl, n, rfl, by omega, by omega, fun M hM => ?_⟩
    have nM : M ≠ b := (E9.1.ne hM).symm
    refine lc_range (fun i H => Same H9 H ∧ H M = some (.lst ((List.range i).map fun (j : Nat) => V.str ⟨#[97 + ((f0 + (j : Int)) % 26).toNat]⟩))) ⟨same_new hM, upd_same⟩ ?_ ?_
    · rintro j Hj hj ⟨sj, hMj⟩
      have hj6 : j < 6 := by omega
      refine ⟨rfl, ?_⟩
      have q0 : 0 ≤ (f0 + (0 + (j : Int))) % 26 := Int.emod_nonneg _ (by decide)
      have q1 : (f0 + (0 + (j : Int))) % 26 < 26 := Int.emod_lt_of_pos _ (by decide)
      have r0 : 0 ≤ (0 + (j : Int)) % 25 := Int.emod_nonneg _ (by decide)
      have r1 : (0 + (j : Int)) % 25 < 25 := Int.emod_lt_of_pos _ (by decide)
      refine ⟨_, rfl, _, rfl, _, rfl, _, _, rfl, rfl, _, _, rfl, rfl, (by decide : (0 : Int) < 26), _, _, _, rfl, rfl, by decide +kernel, az_nth q0 q1, ?_⟩
      refine ⟨_, rfl, _, rfl, _, _, rfl, rfl, (by decide : (0 : Int) < 25), _, _, _, rfl, rfl, by decide +kernel, az_nth r0 (by omega), ?_⟩
      refine ⟨_, rfl, _, _, rfl, rfl, .inr ⟨_, rfl, _, rfl, ?_, ?_⟩⟩
      · rw [decide_eq_false (by omega : ¬ (25 : Int) < 0 + (j : Int))]; rfl
      refine ⟨_, _, rfl, rfl, by show 1 + 0 ≤ sizeLine; decide, _, hMj, by rw [List.length_map, List.length_range]; exact lt_line (by omega), same_put sj hM, ?_⟩
      rw [upd_same, List.range_succ, List.map_append]
      have ee : (⟨#[97 + ((f0 + (0 + (j : Int))) % 26).toNat]⟩ : Str) ++ Str.empty = ⟨#[97 + ((f0 + (j : Int)) % 26).toNat]⟩ := by
        rw [Int.zero_add]
        refine TL.ext_tl ?_
        rw [TL.tl_append, lits.2.2.2.2.2.2, List.append_nil]
      rw [ee]; rfl
    rintro H10 ⟨s10, hM10⟩
    try dsimp only [gName]
    refine ⟨_, rfl, M, rfl, ⟨_, SqL.of hM10⟩, fun R hR => ?_⟩
    have spn : sp = ((sp.toNat : Nat) : Int) := by omega
    have spl : sp.toNat ≤ S.length := by omega
    refine lc_list_map hR (fun i => V.str (nmS cs sp.toNat (97 + ((f0 + (i : Int)) % 26).toNat))) hM10 (by rw [List.length_map, List.length_range]; exact lt_line (by omega)) ?_ ?_
    · intro i x Hx Rk F hx sx hRk
      rw [List.getElem?_map] at hx
      obtain ⟨j, hj, rfl⟩ := Option.map_eq_some_iff.mp hx
      obtain ⟨hj1, hj2⟩ := List.getElem?_eq_some_iff.mp hj
      rw [List.getElem_range] at hj2
      subst hj2
      refine ⟨rfl, ?_⟩
      refine ⟨_, rfl, _, rfl, _, rfl, S, rfl, line (by omega), _, rfl, _, _, rfl, rfl, ?_, _, rfl, _, rfl, _, rfl, S, rfl, line (by omega), _, _, rfl, rfl, ?_, ?_⟩
      · have h1 := cut_lenS S none (some sp)
        exact line (by show _ + 1 ≤ 1000; omega)
      · have h1 := cut_lenS S none (some sp)
        have h2 := cut_lenS S (some sp) none
        exact line (by rw [len_app]; show _ + 1 + _ ≤ 1000; omega)
      rw [spn, nm_cut spl, gt]
      exact hRk _ (Same.refl _)
    · intro H11 s11 hR11
      rw [List.length_map, List.length_range] at hR11
      have hR12 : H11 R = some (.lst (((List.range n.toNat).map fun (i : Nat) => nmS cs sp.toNat (97 + ((f0 + (i : Int)) % 26).toNat)).map V.str)) := by rw [hR11, List.map_map]; rfl
      refine k R _ H11 hR12 ((E9.1.same s10).ne hR).symm (by rw [List.length_map, List.length_range]; omega) (fun w hw => ?_) ?_ ((E9.same s10).same s11)
      · obtain ⟨i, hi, rfl⟩ := List.mem_map.mp hw
        have q0 : 0 ≤ (f0 + (i : Int)) % 26 := Int.emod_nonneg _ (by decide)
        have q1 : (f0 + (i : Int)) % 26 < 26 := Int.emod_lt_of_pos _ (by decide)
        exact nm_word ha l5 (by omega)
      · refine List.pairwise_map.mpr (List.Pairwise.imp_of_mem (fun {a b} ha hb hab e => ?_) List.pairwise_lt_range)
        have ha := List.mem_range.mp ha
        have hb := List.mem_range.mp hb
        have e := nm_inj e
        omega
theorem sc_law_form : FnScope ["_law_bag_here", "_law_names_here", "_law_name"] ["_law_bag_here"] (defScope s_law_form) := ⟨rfl, rfl, rfl, by decide +kernel, rfl, by decide +kernel, by decide +kernel⟩

set_option maxHeartbeats 8000000 in
theorem ok_law_form {fa : Addr} {fd : FuncData} (T : Txt K mg w t_FIGURES a_KINDS a_MOST_BY_KIND t_MOST_COLUMNS t_MOST_CONDITIONS t_MOST_FIGURES t_MOST_LETTERS t_MOST_NUMBER t_NONE) (D : Def K mg "_law_form" s_law_form fa fd) : FnOk P w K mg base CX0 3 fa fd ["_law_bag_here"] sp_law_formC := by
  obtain ⟨fa_law_names, fd_law_names, D_law_names⟩ := T.d_law_names
  have G_law_names := ok_law_names (P := P) (w := w) (base := base) T D_law_names
  have b_law_names := D_law_names.fn.binds (ps := ["_law_bag_here", "_law_many"]) fun _ _ _ _ _ _ us hl => match us, hl with | [_, _], _ => rfl
  obtain ⟨fa_law_take, fd_law_take, D_law_take⟩ := T.d_law_take
  have G_law_take := ok_law_take (P := P) (w := w) (base := base) T D_law_take
  have b_law_take := D_law_take.fn.binds (ps := ["_law_bag_here", "_law_many"]) fun _ _ _ _ _ _ us hl => match us, hl with | [_, _], _ => rfl
  refine D.fn.ok sc_law_form (fun vs H Q E h => ?_) (fun cdv A outer s H vs Q E hr h => ?_)
  · obtain ⟨b, rfl, _⟩ := h
    rfl
  ·
    have r_law_names : Room 2 _ := hr.mono (by decide)
    have r_law_take : Room 1 _ := hr.mono (by decide)
    obtain ⟨b, rfl, hb, k⟩ := h
    refine ⟨_, (pss_cons (ps_asg (pe_call G_law_names r_law_names (by rfl) D_law_names.mg D_law_names.fn.kp b_law_names .nil pass0 (pa_cons (pv 0) (pa_cons (pe_ix ix_tup (pe_tup (pa_cons pe_int (pa_cons pe_int (pa_cons pe_int (pa_cons pe_int (pa_cons pe_int pa_nil)))))) (pe_call G_law_take r_law_take (by rfl) D_law_take.mg D_law_take.fn.kp b_law_take .nil pass0 (pa_cons (pv 0) (pa_cons pe_int pa_nil))) (fun _ _ => rfl)) pa_nil))) (pg_name (i := 1) sc_law_form.nd rfl (by first | exact Or.inl rfl | exact Or.inr rfl)))
    (pss_one (ps_ret (pe_callTy call_tuple_of (by rfl) T.z_tuple bt_tuple (pa_cons (pe_lc (own := [("_law_name", 2)]) (g := gName 2) (by rfl) sc_law_form.nd (pi_list (pv 1)) (blkOk_by (own := [("_law_name", 2)]) (N := ["_law_bag_here", "_law_names_here", "_law_name"]) (sc := defScope s_law_form) (by decide +kernel))
        (fun _ _ _ _ _ => (pg_name (i := 2) sc_law_form.nd rfl (by first | exact Or.inl rfl | exact Or.inr rfl))) (fun _ _ _ _ _ => pts_nil)
        (fun _ _ _ _ _ => (pe_tup (pa_cons (pv 2) (pa_cons (pe_ix (ix_tupK (K := K)) (pe_tup (pa_cons pe_str (pa_cons pe_str (pa_cons pe_str pa_nil)))) (pe_call G_law_take r_law_take (by rfl) D_law_take.mg D_law_take.fn.kp b_law_take .nil pass0 (pa_cons (pv 0) (pa_cons pe_int pa_nil))) (fun _ _ => rfl)) pa_nil))))) pa_nil))))), ?_⟩
    refine ⟨_, rfl, by show 5 ≤ sizeLine; decide, fun q hq => ⟨_, rfl, b, 5, rfl, hb.same (same_new hq), by decide, by decide, fun r H1 r0 r1 e1 => ?_⟩⟩
    have nq : q ≠ b := (hb.ne hq).symm
    have E1 := (hb.eff (same_new (o := HO.tup [V.int 3, V.int 2, V.int 4, V.int 6, V.int 1]) hq)).trans e1
    obtain ⟨v, ev, m, rfl, m1, m6⟩ := at_all (xs := [V.int 3, V.int 2, V.int 4, V.int 6, V.int 1]) (fun v => ∃ m : Int, v = .int m ∧ 1 ≤ m ∧ m ≤ 6) (fun v hv => by
      simp only [List.mem_cons, List.not_mem_nil, or_false] at hv
      rcases hv with rfl | rfl | rfl | rfl | rfl <;> exact ⟨_, rfl, by decide, by decide⟩) r0 r1
    refine ⟨q, _, _, _, rfl, rfl, SqT.of (e1.2 q _ nq upd_same), ev, b, m, rfl, E1.1, m1, m6, fun M ws H2 hM nM wl wW wn e2 => ?_⟩
    have E2 := E1.trans e2
    clear e1 e2 E1 ev hq
    try dsimp only [gName]
    refine ⟨_, rfl, M, rfl, ⟨_, SqL.of hM⟩, fun D hD => ?_⟩
    have nD : D ≠ b := (E2.1.ne hD).symm
    refine lc_list (xs := ws.map V.str) (fun i H' => Eff b H2 H' ∧ ∃ ts cols, H' D = some (.lst (ts.map V.ref)) ∧ ColsC H' ts cols ∧ cols.map (·.1) = ws.take i ∧ Kinds cols) ⟨E2.1.eff (same_new hD), [], [], upd_same, ⟨rfl, fun j t c h => by simp at h⟩, rfl, fun c h => by simp at h⟩ (fun i H' _ ⟨e, _⟩ => SqL.of (e.2 _ _ nM hM)) ?_ ?_
    · rintro i x H3 hx ⟨e3, ts, cols, ep, cc, cl, kd⟩
      rw [List.getElem?_map] at hx
      obtain ⟨w, hw, rfl⟩ := Option.map_eq_some_iff.mp hx
      refine ⟨rfl, ?_⟩
      refine ⟨_, rfl, ?_⟩
      refine ⟨by show 3 ≤ sizeLine; decide, fun q2 hq2 => ⟨_, rfl, b, 3, rfl, e3.1.same (same_new hq2), by decide, by decide, fun r2 H4 r20 r21 e4 => ?_⟩⟩
      have nq2 : q2 ≠ b := (e3.1.ne hq2).symm
      have E4 := (e3.1.eff (same_new (o := HO.tup [V.str "number", V.str "number", V.str "word"]) hq2)).trans e4
      obtain ⟨v, ev, kdn, rfl, hkd⟩ := at_all (xs := [V.str "number", V.str "number", V.str "word"]) (fun v => ∃ z : Str, v = .str z ∧ (z = "number" ∨ z = "word")) (fun v hv => by
        simp only [List.mem_cons, List.not_mem_nil, or_false] at hv
        rcases hv with rfl | rfl | rfl
        · exact ⟨_, rfl, .inl rfl⟩
        · exact ⟨_, rfl, .inl rfl⟩
        · exact ⟨_, rfl, .inr rfl⟩) r20 r21
      refine ⟨q2, _, _, _, rfl, rfl, SqT.of (e4.2 q2 _ nq2 upd_same), ev, by show 2 ≤ sizeLine; decide, fun t ht => ?_⟩
      have ep4 := E4.2 _ _ nD ep
      have npt : D ≠ t := ne_of_none ep4 ht
      have tl := cc.lt
      have cll : cols.length = min i ws.length := by rw [← List.length_take, ← cl, List.length_map]
      have E5 := (e3.trans E4).same (same_new (o := HO.tup [V.str w, V.str kdn]) ht)
      refine ⟨_, by rw [upd_ne npt]; exact ep4, by rw [List.length_map]; exact lt_line (by omega), E5.put E2.1 hD, ts ++ [t], cols ++ [(w, kdn)], by rw [upd_same, List.map_append]; rfl, cc.snoc (fun c xs h => ?_) ?_, ?_, fun c hc => ?_⟩
      · have h7 := E4.2 _ _ (e3.1.neT h) h
        rw [upd_ne (fun z => by rw [z] at h7; rw [ep4] at h7; cases h7), upd_ne (ne_of_none h7 ht)]
        exact h7
      · rw [upd_ne npt.symm, upd_same]
      · rw [List.map_append, cl, List.take_succ, hw]; rfl
      · rcases List.mem_append.mp hc with h | h
        · exact kd c h
        · rw [List.mem_singleton.mp h]; exact hkd
    · rintro H3 ⟨e3, ts, cols, ep, cc, cl, kd⟩
      rw [List.length_map, List.take_length] at cl
      have cll : cols.length = ws.length := by rw [← cl, List.length_map]
      refine ⟨D, _, rfl, .inl ⟨SqL.of ep, fun l hl => ?_⟩⟩
      have s4 := same_new (o := HO.tup (ts.map V.ref)) hl
      refine k l cols _ ⟨ts, upd_same, cc.lt, fun i t c h1 h2 => s4 _ _ (cc.at_ i t c h1 h2)⟩ ⟨by omega, by omega, kd, fun c hc => ?_, by rw [cl]; exact wn⟩ ((E2.trans e3).same s4)
      exact wW c.1 (by rw [← cl]; exact List.mem_map.mpr ⟨c, hc, rfl⟩)
theorem sc_law_value : FnScope ["_law_bag_here", "_law_sort", "_law_wide"] ["_law_bag_here", "_law_sort", "_law_wide"] (defScope s_law_value) := ⟨rfl, rfl, rfl, by decide +kernel, rfl, by decide +kernel, by decide +kernel⟩

set_option maxHeartbeats 8000000 in
theorem ok_law_value {fa : Addr} {fd : FuncData} (T : Txt K mg w t_FIGURES a_KINDS a_MOST_BY_KIND t_MOST_COLUMNS t_MOST_CONDITIONS t_MOST_FIGURES t_MOST_LETTERS t_MOST_NUMBER t_NONE) (D : Def K mg "_law_value" s_law_value fa fd) : FnOk P w K mg base CX0 2 fa fd ["_law_bag_here", "_law_sort", "_law_wide"] sp_law_value8 := by
  obtain ⟨fa_law_take, fd_law_take, D_law_take⟩ := T.d_law_take
  have G_law_take := ok_law_take (P := P) (w := w) (base := base) T D_law_take
  have b_law_take := D_law_take.fn.binds (ps := ["_law_bag_here", "_law_many"]) fun _ _ _ _ _ _ us hl => match us, hl with | [_, _], _ => rfl
  refine D.fn.ok sc_law_value (fun vs H Q E h => ?_) (fun cdv A outer s H vs Q E hr h => ?_)
  · obtain ⟨b, k, m, rfl, _⟩ := h
    rfl
  ·
    have r_law_take : Room 1 _ := hr.mono (by decide)
    obtain ⟨b, kd, m, rfl, hb, hk, hm, k⟩ := h
    refine ⟨_, (pss_cons (ps_if (pt_cmpR op_eq (pv 1) pe_str (nomark _))
      (pss_one (ps_ret (pe_ix ix_tup (pe_tup (pa_cons pe_str (pa_cons pe_str (pa_cons pe_str (pa_cons pe_str (pa_cons pe_str (pa_cons pe_str pa_nil))))))) (pe_call G_law_take r_law_take (by rfl) D_law_take.mg D_law_take.fn.kp b_law_take .nil pass0 (pa_cons (pv 0) (pa_cons (pe_callB (call_min2 rfl) (by rfl) T.z_min bt_min (pa_cons pe_int (pa_cons (pv 2) pa_nil))) pa_nil))) (fun _ _ => rfl))))
      pss_nil)
    (pss_one (ps_ret (pe_ifExp (pt_cmpR op_gt (pv 2) pe_int (nomark _)) (pe_op op_sub (pe_call G_law_take r_law_take (by rfl) D_law_take.mg D_law_take.fn.kp b_law_take .nil pass0 (pa_cons (pv 0) (pa_cons pe_int pa_nil))) pe_int) (pe_op op_sub (pe_call G_law_take r_law_take (by rfl) D_law_take.mg D_law_take.fn.kp b_law_take .nil pass0 (pa_cons (pv 0) (pa_cons (pv 2) pa_nil))) (pe_op op_fdiv (pv 2) pe_int)))))), ?_⟩
    refine ⟨_, rfl, rfl, _, rfl, ?_⟩
    rcases hk with rfl | rfl
    · refine iteF (nextK ?_)
      refine ⟨_, rfl, _, _, rfl, rfl, _, rfl, ?_⟩
      rcases hm with rfl | rfl | rfl | rfl
      · refine iteF ⟨_, rfl, _, rfl, b, 2, rfl, hb, by decide, by decide, fun r H1 r0 r1 e1 => ⟨_, rfl, _, _, rfl, rfl, ⟨by decide, by decide⟩, _, _, rfl, rfl, ?_⟩⟩
        exact k (.inl (r - 2 / 3)) H1 rfl ⟨by omega, by omega⟩ e1
      · refine iteF ⟨_, rfl, _, rfl, b, 5, rfl, hb, by decide, by decide, fun r H1 r0 r1 e1 => ⟨_, rfl, _, _, rfl, rfl, ⟨by decide, by decide⟩, _, _, rfl, rfl, ?_⟩⟩
        exact k (.inl (r - 5 / 3)) H1 rfl ⟨by omega, by omega⟩ e1
      · refine iteF ⟨_, rfl, _, rfl, b, 12, rfl, hb, by decide, by decide, fun r H1 r0 r1 e1 => ⟨_, rfl, _, _, rfl, rfl, ⟨by decide, by decide⟩, _, _, rfl, rfl, ?_⟩⟩
        exact k (.inl (r - 12 / 3)) H1 rfl ⟨by omega, by omega⟩ e1
      · refine iteT ⟨_, rfl, b, 1999, rfl, hb, by decide, by decide, fun r H1 r0 r1 e1 => ⟨_, _, rfl, rfl, ?_⟩⟩
        exact k (.inl (r - 999)) H1 rfl ⟨by omega, by omega⟩ e1
    · refine iteT ?_
      have hmm : 1 ≤ (if m < 6 then m else 6) ∧ (if m < 6 then m else 6) ≤ 6 := by
        rcases hm with rfl | rfl | rfl | rfl <;> decide
      refine ⟨by show 6 ≤ sizeLine; decide, fun q hq => ⟨_, rfl, _, rfl, _, _, rfl, b, _, rfl, hb.same (same_new hq), by omega, by omega, fun r H1 r0 r1 e1 => ?_⟩⟩
      have nq : q ≠ b := (hb.ne hq).symm
      obtain ⟨v, ev, w, rfl, hw⟩ := at_all (xs := [V.str "a", V.str "b", V.str "ab", V.str "zz", V.str "abcdefgh", V.str "c"]) (fun v => ∃ w : Str, v = .str w ∧ WordS w) (fun v hv => by
        simp only [List.mem_cons, List.not_mem_nil, or_false] at hv
        rcases hv with rfl | rfl | rfl | rfl | rfl | rfl <;> exact ⟨_, rfl, by decide +kernel, by decide +kernel, by decide +kernel⟩) r0 (show r < 6 by omega)
      refine ⟨q, _, _, _, rfl, rfl, SqT.of (e1.2 q _ nq upd_same), ev, ?_⟩
      exact k (.inr w) H1 rfl hw ((hb.eff (same_new (o := HO.tup [V.str "a", V.str "b", V.str "ab", V.str "zz", V.str "abcdefgh", V.str "c"]) hq)).trans e1)
theorem sc_law_line : FnScope ["_law_bag_here", "_law_form_here", "_law_wide", "_law_name", "_law_sort"] ["_law_bag_here", "_law_form_here", "_law_wide"] (defScope s_law_line) := ⟨rfl, rfl, rfl, by decide +kernel, rfl, by decide +kernel, by decide +kernel⟩

set_option maxHeartbeats 8000000 in
theorem ok_law_line {fa : Addr} {fd : FuncData} (T : Txt K mg w t_FIGURES a_KINDS a_MOST_BY_KIND t_MOST_COLUMNS t_MOST_CONDITIONS t_MOST_FIGURES t_MOST_LETTERS t_MOST_NUMBER t_NONE) (D : Def K mg "_law_line" s_law_line fa fd) : FnOk P w K mg base CX0 3 fa fd ["_law_bag_here", "_law_form_here", "_law_wide"] sp_law_line := by
  obtain ⟨fa_law_value, fd_law_value, D_law_value⟩ := T.d_law_value
  have G_law_value := ok_law_value (P := P) (w := w) (base := base) T D_law_value
  have b_law_value := D_law_value.fn.binds (ps := ["_law_bag_here", "_law_sort", "_law_wide"]) fun _ _ _ _ _ _ us hl => match us, hl with | [_, _, _], _ => rfl
  refine D.fn.ok sc_law_line (fun vs H Q E h => ?_) (fun cdv A outer s H vs Q E hr h => ?_)
  · obtain ⟨b, fo, cols, m, rfl, _⟩ := h
    rfl
  ·
    have r_law_value : Room 2 _ := hr.mono (by decide)
    obtain ⟨b, fo, cols, m, rfl, hb, hf, hco, hm, k⟩ := h
    refine ⟨_, (pss_one (ps_ret (pe_callTy call_tuple_of (by rfl) T.z_tuple bt_tuple (pa_cons (pe_lc (own := [("_law_name", 3), ("_law_sort", 4)]) (by rfl) sc_law_line.nd (pi_tup (pv 1)) (blkOk_by (own := [("_law_name", 3), ("_law_sort", 4)]) (N := ["_law_bag_here", "_law_form_here", "_law_wide", "_law_name", "_law_sort"]) (sc := defScope s_law_line) (by decide +kernel))
        (fun _ _ _ _ _ => (pg_tupK (K := K) (n := 2) (by rfl) (pgs_cons (pg_name (i := 3) sc_law_line.nd rfl (by first | exact Or.inl rfl | exact Or.inr rfl)) (pgs_cons (pg_name (i := 4) sc_law_line.nd rfl (by first | exact Or.inl rfl | exact Or.inr rfl)) pgs_nil)))) (fun _ _ _ _ _ => pts_nil)
        (fun _ _ _ _ _ => (pe_call G_law_value r_law_value (by rfl) D_law_value.mg D_law_value.fn.kp b_law_value .nil pass0 (pa_cons (pv 0) (pa_cons (pv 4) (pa_cons (pv 2) pa_nil)))))) pa_nil)))), ?_⟩
    obtain ⟨ts, ea, lt, ft⟩ := id hf.ex
    have h6 := hco.c6
    have neb : ∀ {c : Addr} {xs : List V}, H c = some (.tup xs) → c ≠ b := fun h => hb.neT h
    refine ⟨_, rfl, fo, rfl, ⟨_, SqT.of ea⟩, fun D hD => ?_⟩
    have nD : D ≠ b := (hb.ne hD).symm
    refine lc_tup (xs := ts.map V.ref) (fun i H' => Eff b H H' ∧ ∃ r : List Key, H' D = some (.lst (r.map kV)) ∧ r.map kindOf = (cols.take i).map (·.2) ∧ ∀ k ∈ r, keyOk k) ⟨hb.eff (same_new hD), [], upd_same, rfl, (fun k h => nomatch h)⟩ (fun i H' _ ⟨e, _⟩ => SqT.of (e.2 _ _ (neb ea) ea)) ?_ ?_
    · rintro i x H1 hx ⟨e1, r, hD1, hk, hok⟩
      rw [List.getElem?_map] at hx
      obtain ⟨t, ht, rfl⟩ := Option.map_eq_some_iff.mp hx
      have hi : i < cols.length := by rw [← lt]; exact (List.getElem?_eq_some_iff.mp ht).1
      have hci : cols[i]? = some cols[i] := by simp [hi]
      have etc := ft i t _ ht hci
      have hck := hco.kd _ (List.mem_of_getElem? hci)
      generalize cols[i] = c at etc hck hci
      obtain ⟨w, kd⟩ := c
      have rl : r.length ≤ i := by
        have := congrArg List.length hk
        rw [List.length_map, List.length_map, List.length_take] at this
        omega
      refine ⟨t, _, rfl, SqT.of (e1.2 _ _ (neb etc) etc), rfl, _, _, rfl, _, _, rfl, rfl, rfl, ?_⟩
      refine ⟨_, rfl, _, rfl, _, rfl, b, kd, m, rfl, e1.1, hck, hm, fun q H2 hq ho e2 => ⟨_, e2.2 _ _ nD hD1, by rw [List.length_map]; exact lt_line (by omega), (e1.trans e2).put hb hD, r ++ [q], by rw [upd_same, List.map_append]; rfl, ?_, fun k hk' => ?_⟩⟩
      · rw [List.map_append, hk, List.take_succ, hci, List.map_append]
        show _ ++ [kindOf q] = _ ++ [kd]
        rw [hq]
      · rcases List.mem_append.mp hk' with h | h
        · exact hok k h
        · rw [List.mem_singleton.mp h]; exact ho
    · rintro H1 ⟨e1, r, hD1, hk, hok⟩
      rw [List.length_map, lt, List.take_length] at hk
      refine ⟨D, _, rfl, .inl ⟨SqL.of hD1, fun u hu => ?_⟩⟩
      exact k u r _ upd_same ⟨hk, hok⟩ (e1.same (same_new hu))
theorem sc_law_some : FnScope ["_law_bag_here", "_law_things", "_law_few", "_law_most", "_law_left", "_law_found", "_law_turn"] ["_law_bag_here", "_law_things", "_law_few", "_law_most"] (defScope s_law_some) := ⟨rfl, rfl, rfl, by decide +kernel, rfl, by decide +kernel, by decide +kernel⟩

set_option maxHeartbeats 8000000 in
theorem ok_law_some {fa : Addr} {fd : FuncData} (T : Txt K mg w t_FIGURES a_KINDS a_MOST_BY_KIND t_MOST_COLUMNS t_MOST_CONDITIONS t_MOST_FIGURES t_MOST_LETTERS t_MOST_NUMBER t_NONE) (D : Def K mg "_law_some" s_law_some fa fd) : FnOk P w K mg base CX0 2 fa fd ["_law_bag_here", "_law_things", "_law_few", "_law_most"] sp_law_someN := by
  obtain ⟨fa_law_take, fd_law_take, D_law_take⟩ := T.d_law_take
  have G_law_take := ok_law_take (P := P) (w := w) (base := base) T D_law_take
  have b_law_take := D_law_take.fn.binds (ps := ["_law_bag_here", "_law_many"]) fun _ _ _ _ _ _ us hl => match us, hl with | [_, _], _ => rfl
  refine D.fn.ok sc_law_some (fun vs H Q E h => ?_) (fun cdv A outer s H vs Q E hr h => ?_)
  · obtain ⟨b, l, ws, few, most, rfl, _⟩ := h
    rfl
  ·
    have r_law_take : Room 1 _ := hr.mono (by decide)
    obtain ⟨b, l, ws, few, most, rfl, hb, hl, w1, w6, fm, m6, wn, k⟩ := h
    refine ⟨_, (pss_cons (ps_par (i := 4) (j := 5) (by rfl) sc_law_some.nd rfl rfl (by decide) rfl rfl (pa_cons (pe_callTy call_list_of (by rfl) T.z_list bt_list (pa_cons (pv 1) pa_nil)) (pa_cons (pe_lst pa_nil) pa_nil)) (by rfl))
    (pss_cons (ps_for PassesOwn.never rfl (pi_range1 (by rfl) T.z_range (pa_cons (pe_callB (call_min2 rfl) (by rfl) T.z_min bt_min (pa_cons (pe_callB call_len_seq (by rfl) T.z_len bt_len (pa_cons (pv 4) pa_nil)) (pa_cons (pe_op op_add (pv 2) (pe_call G_law_take r_law_take (by rfl) D_law_take.mg D_law_take.fn.kp b_law_take .nil pass0 (pa_cons (pv 0) (pa_cons (pe_op op_add (pe_op op_sub (pv 3) (pv 2)) pe_int) pa_nil)))) pa_nil))) pa_nil)) (pg_name (i := 6) sc_law_some.nd rfl (by first | exact Or.inl rfl | exact Or.inr rfl))
      (pss_one (ps_expr (pe_bm PySem.F.plainAttrs_list PySem.F.slot_list_append PySem.F.type_list_append mt_append.r (pv 5) (pa_cons (pe_bm PySem.F.plainAttrs_list PySem.F.slot_list_pop PySem.F.type_list_pop mt_popAt.r (pv 4) (pa_cons (pe_call G_law_take r_law_take (by rfl) D_law_take.mg D_law_take.fn.kp b_law_take .nil pass0 (pa_cons (pv 0) (pa_cons (pe_callB call_len_seq (by rfl) T.z_len bt_len (pa_cons (pv 4) pa_nil)) pa_nil))) pa_nil)) pa_nil)))))
    (pss_one (ps_ret (pe_callTy call_tuple_of (by rfl) T.z_tuple bt_tuple (pa_cons (pv 5) pa_nil)))))), ?_⟩
    refine ⟨_, rfl, l, _, rfl, .inl (SqL.of hl), fun L hL => ?_⟩
    have nLb : L ≠ b := (Bag.ne hb hL).symm
    have e0 : Eff b H (upd H L (.lst (ws.map V.str))) := hb.eff (same_new hL)
    have hL1 : (upd H L (.lst (ws.map V.str))) L = some (.lst (ws.map V.str)) := upd_same
    generalize upd H L (.lst (ws.map V.str)) = H1 at e0 hL1 ⊢
    refine ⟨by show 0 ≤ sizeLine; decide, fun F hF => ?_⟩
    have hF0 : H F = none := e0.free hb hF
    have e2 : Eff b H (upd H1 F (.lst [])) := e0.put hb hF0
    have nLF : L ≠ F := fun z => by rw [z, hF] at hL1; cases hL1
    have nFb : F ≠ b := (Bag.ne hb hF0).symm
    have hL3 : (upd H1 F (.lst [])) L = some (.lst (ws.map V.str)) := by rw [upd_ne nLF]; exact hL1
    have hF3 : (upd H1 F (.lst [])) F = some (.lst (([] : List Str).map V.str)) := upd_same
    generalize upd H1 F (.lst []) = H2 at e2 hL3 hF3 ⊢
    refine ⟨_, _, rfl, ?_⟩
    refine ⟨_, rfl, L, _, rfl, .inl (SqL.of hL3), _, rfl, _, rfl, _, rfl, _, rfl, _, _, rfl, rfl, _, _, rfl, rfl, ?_⟩
    refine ⟨b, _, rfl, e2.1, by omega, by omega, fun r H3 r0 r1 e3 => ?_⟩
    have e03 := e2.trans e3
    have hL4 := e3.2 _ _ nLb hL3
    have hF4 := e3.2 _ _ nFb hF3
    refine ⟨_, _, rfl, rfl, _, _, rfl, _, rfl, ?_, ?_, for_range (fun i σ H' => ∃ v6 fw lw, σ = [some (.ref b), some (.ref l), some (.int few), some (.int most), some (.ref L), some (.ref F), v6] ∧ Eff b H H' ∧ H' L = some (.lst (lw.map V.str)) ∧ H' F = some (.lst (fw.map V.str)) ∧ fw.length = i ∧ lw.length + i = ws.length ∧ (fw ++ lw).Perm ws) ⟨none, [], ws, rfl, e03, hL4, hF4, rfl, rfl, List.Perm.refl _⟩ ?_ ?_⟩
    · split <;> omega
    · rw [List.length_map]; split <;> omega
    · rintro i σ H4 hi ⟨v6, fw, lw, rfl, e4, hL5, hF5, hfl, hll, hpm⟩
      have hi' : i < ws.length := by
        rw [List.length_map] at hi
        revert hi
        split <;> (intro hi; omega)
      have hpos : 0 < lw.length := by omega
      refine ⟨_, rfl, .inl ⟨rfl, _, SqL.of hF5⟩, _, rfl, .inl ⟨rfl, _, SqL.of hL5⟩, _, rfl, _, rfl, L, _, rfl, .inl (SqL.of hL5), b, _, rfl, e4.1, by rw [List.length_map]; omega, by rw [List.length_map]; omega, fun q H5 q0 q1 e5 => ?_⟩
      rw [List.length_map] at q1
      have e05 := e4.trans e5
      have hL6 := e5.2 _ _ nLb hL5
      have hF6 := e5.2 _ _ nFb hF5
      have hql : q.toNat < lw.length := by omega
      have hw := List.getElem?_eq_getElem hql
      have hwm : lw[q.toNat] ∈ lw := List.getElem_mem _
      generalize lw[q.toNat] = w at hw hwm
      refine ⟨L, _, q, q.toNat, .str w, rfl, rfl, hL6, by omega, by omega, by rw [List.length_map]; exact seqIx_nat q0 q1, by rw [List.getElem?_map, hw]; rfl, ?_⟩
      rw [map_eraseI]
      have e6 : Eff b H (upd H5 L (.lst ((lw.eraseIdx q.toNat).map V.str))) := e05.put hb (by
        cases h : H L with
        | none => rfl
        | some o => exact absurd (hL ▸ h : (none : Option HO) = some o) (fun z => nomatch z))
      have hF7 : (upd H5 L (.lst ((lw.eraseIdx q.toNat).map V.str))) F = some (.lst (fw.map V.str)) := by rw [upd_ne nLF.symm]; exact hF6
      have hL7 : (upd H5 L (.lst ((lw.eraseIdx q.toNat).map V.str))) L = some (.lst ((lw.eraseIdx q.toNat).map V.str)) := upd_same
      generalize upd H5 L (.lst ((lw.eraseIdx q.toNat).map V.str)) = H6 at e6 hF7 hL7 ⊢
      refine ⟨F, _, _, rfl, rfl, hF7, by rw [List.length_map]; exact lt_line (by omega), ?_⟩
      refine ⟨_, fw ++ [w], lw.eraseIdx q.toNat, rfl, e6.put hb hF0, by rw [upd_ne nLF]; exact hL7, by rw [upd_same, List.map_append]; rfl, by rw [List.length_append, hfl]; rfl, by rw [List.length_eraseIdx_of_lt hql]; omega, pop_perm hw hpm⟩
    · rintro σ H4 ⟨v6, fw, lw, rfl, e4, hL5, hF5, hfl, hll, hpm⟩
      refine ⟨_, rfl, F, _, rfl, .inl ⟨SqL.of hF5, fun p hp => ?_⟩⟩
      rw [List.length_map] at hfl
      refine k p fw _ upd_same ?_ ?_ (fun w hw => hpm.mem_iff.mp (List.mem_append_left _ hw)) (List.nodup_append.mp (hpm.nodup_iff.mpr wn)).1 (e4.same (same_new hp))
      · rw [hfl]; split <;> omega
      · rw [hfl]; split <;> omega
theorem sc_law_conditions : FnScope ["_law_bag_here", "_law_form_here", "_law_wide", "_law_found", "_law_name", "_law_sort", "_law_way", "_law_low", "_law_high", "_law_some_here"] ["_law_bag_here", "_law_form_here", "_law_wide"] (defScope s_law_conditions) := ⟨rfl, rfl, rfl, by decide +kernel, rfl, by decide +kernel, by decide +kernel⟩

set_option maxHeartbeats 8000000 in
theorem ok_law_conditions {fa : Addr} {fd : FuncData} (T : Txt K mg w t_FIGURES a_KINDS a_MOST_BY_KIND t_MOST_COLUMNS t_MOST_CONDITIONS t_MOST_FIGURES t_MOST_LETTERS t_MOST_NUMBER t_NONE) (D : Def K mg "_law_conditions" s_law_conditions fa fd) : FnOk P w K mg base CX0 3 fa fd ["_law_bag_here", "_law_form_here", "_law_wide"] sp_law_conditions8 := by
  obtain ⟨fa_law_take, fd_law_take, D_law_take⟩ := T.d_law_take
  have G_law_take := ok_law_take (P := P) (w := w) (base := base) T D_law_take
  have b_law_take := D_law_take.fn.binds (ps := ["_law_bag_here", "_law_many"]) fun _ _ _ _ _ _ us hl => match us, hl with | [_, _], _ => rfl
  obtain ⟨fa_law_value, fd_law_value, D_law_value⟩ := T.d_law_value
  have G_law_value := ok_law_value (P := P) (w := w) (base := base) T D_law_value
  have b_law_value := D_law_value.fn.binds (ps := ["_law_bag_here", "_law_sort", "_law_wide"]) fun _ _ _ _ _ _ us hl => match us, hl with | [_, _, _], _ => rfl
  refine D.fn.ok sc_law_conditions (fun vs H Q E h => ?_) (fun cdv A outer s H vs Q E hr h => ?_)
  · obtain ⟨b, fo, cols, m, rfl, _⟩ := h
    rfl
  ·
    have r_law_take : Room 1 _ := hr.mono (by decide)
    have r_law_value : Room 2 _ := hr.mono (by decide)
    obtain ⟨b, fo, cols, m, rfl, hb, hf, hco, hm, k⟩ := h
    refine ⟨_, (pss_cons (ps_asg (pe_lst pa_nil) (pg_name (i := 3) sc_law_conditions.nd rfl (by first | exact Or.inl rfl | exact Or.inr rfl)))
    (pss_cons (ps_for PassesOwn.never rfl (pi_tup (pv 1)) (pg_tupK (K := K) (n := 2) (by rfl) (pgs_cons (pg_name (i := 4) sc_law_conditions.nd rfl (by first | exact Or.inl rfl | exact Or.inr rfl)) (pgs_cons (pg_name (i := 5) sc_law_conditions.nd rfl (by first | exact Or.inl rfl | exact Or.inr rfl)) pgs_nil)))
      (pss_cons (ps_asg (pe_call G_law_take r_law_take (by rfl) D_law_take.mg D_law_take.fn.kp b_law_take .nil pass0 (pa_cons (pv 0) (pa_cons pe_int pa_nil))) (pg_name (i := 6) sc_law_conditions.nd rfl (by first | exact Or.inl rfl | exact Or.inr rfl)))
    (pss_cons (ps_par (i := 7) (j := 8) (by rfl) sc_law_conditions.nd rfl rfl (by decide) rfl rfl (pa_cons (pe_call G_law_value r_law_value (by rfl) D_law_value.mg D_law_value.fn.kp b_law_value .nil pass0 (pa_cons (pv 0) (pa_cons (pv 5) (pa_cons (pv 2) pa_nil)))) (pa_cons (pe_call G_law_value r_law_value (by rfl) D_law_value.mg D_law_value.fn.kp b_law_value .nil pass0 (pa_cons (pv 0) (pa_cons (pv 5) (pa_cons (pv 2) pa_nil)))) pa_nil)) (by rfl))
    (pss_one (ps_if (pt_cmpR op_lt (pv 6) pe_int (nomark _))
      (pss_cons (ps_asg (pe_ix ix_list (pe_lst (pa_cons (pe_tup (pa_cons pe_str (pa_cons (pv 7) pa_nil))) (pa_cons (pe_tup (pa_cons pe_str (pa_cons (pv 7) (pa_cons (pv 8) pa_nil)))) (pa_cons (pe_tup (pa_cons pe_str (pa_cons (pv 7) (pa_cons pe_non pa_nil)))) (pa_cons (pe_tup (pa_cons pe_str (pa_cons pe_non (pa_cons (pv 8) pa_nil)))) pa_nil))))) (pv 6) (fun _ _ => rfl)) (pg_name (i := 9) sc_law_conditions.nd rfl (by first | exact Or.inl rfl | exact Or.inr rfl)))
    (pss_one (ps_expr (pe_bm PySem.F.plainAttrs_list PySem.F.slot_list_insert PySem.F.type_list_insert mt_insert (pv 3) (pa_cons (pe_call G_law_take r_law_take (by rfl) D_law_take.mg D_law_take.fn.kp b_law_take .nil pass0 (pa_cons (pv 0) (pa_cons (pe_op op_add (pe_callB call_len_seq (by rfl) T.z_len bt_len (pa_cons (pv 3) pa_nil)) pe_int) pa_nil))) (pa_cons (pe_op op_catS (pe_tup (pa_cons (pv 4) pa_nil)) (pv 9)) pa_nil))))))
      pss_nil)))))
    (pss_one (ps_ret (pe_callTy call_tuple_of (by rfl) T.z_tuple bt_tuple (pa_cons (pv 3) pa_nil)))))), ?_⟩
    obtain ⟨ts, ea, lt, ft⟩ := id hf.ex
    have h6 := hco.c6
    have neb : ∀ {c : Addr} {xs : List V}, H c = some (.tup xs) → c ≠ b := fun h => hb.neT h
    refine ⟨by show 0 ≤ sizeLine; decide, fun p hp => ?_⟩
    have nP : p ≠ b := (hb.ne hp).symm
    have e0 : Eff b H (upd H p (.lst [])) := hb.eff (same_new hp)
    have ep0 : (upd H p (.lst [])) p = some (.lst []) := upd_same
    generalize upd H p (.lst []) = H0 at e0 ep0 ⊢
    refine ⟨_, rfl, fo, rfl, ⟨_, SqT.of (e0.2 _ _ (neb ea) ea)⟩, for_tup (K := K) (a := fo) (xs := ts.map V.ref) (fun i σ H' => ∃ v4 v5 v6 v7 v8 v9 vs cs, σ = [some (.ref b), some (.ref fo), some (.int m), some (.ref p), v4, v5, v6, v7, v8, v9] ∧ Eff b H H' ∧ H' p = some (.lst vs) ∧ Paired (CnAt H') vs cs ∧ CsI cols i cs) ⟨none, none, none, none, none, none, [], [], rfl, e0, ep0, .nil, CsI.nil cols⟩ (fun i σ H' _ ⟨_, _, _, _, _, _, _, _, _, e, _⟩ => SqT.of (e.2 _ _ (neb ea) ea)) ?_ ?_⟩
    · rintro i x σ H1 hx ⟨v4, v5, v6, v7, v8, v9, vs, cs, rfl, e1, ep, hP, hI⟩
      rw [List.getElem?_map] at hx
      obtain ⟨tc, ht, rfl⟩ := Option.map_eq_some_iff.mp hx
      have hi : i < cols.length := by rw [← lt]; exact (List.getElem?_eq_some_iff.mp ht).1
      have hci : cols[i]? = some cols[i] := by simp [hi]
      have etc := ft i tc _ ht hci
      have hcm := List.mem_of_getElem? hci
      have hcw := hco.nm _ hcm
      have hck := hco.kd _ hcm
      generalize cols[i] = c at etc hcw hck hci
      obtain ⟨w, kd⟩ := c
      refine ⟨tc, _, rfl, SqT.of (e1.2 _ _ (neb etc) etc), rfl, _, _, rfl, _, _, rfl, rfl, ?_⟩
      try dsimp only [gName]
      refine ⟨_, rfl, b, 7, rfl, e1.1, by decide, by decide, fun y H2 y0 y1 e2 => ?_⟩
      try dsimp only [gName]
      have E2 := e1.trans e2
      refine (?_ : tSeq _ _ _ [some (.ref b), some (.ref fo), some (.int m), some (.ref p), some (.str w), some (.str kd), some (.int y), v7, v8, v9] _)
      refine ⟨_, rfl, _, rfl, _, rfl, b, kd, m, rfl, E2.1, hck, hm, fun q1 H3 hk1 ho1 e3 => ?_⟩
      have E3 := E2.trans e3
      refine ⟨_, rfl, _, rfl, _, rfl, b, kd, m, rfl, E3.1, hck, hm, fun q2 H4 hk2 ho2 e4 => ?_⟩
      have E4 := E3.trans e4
      have e14 := (e2.trans e3).trans e4
      have ep4 := e14.2 _ _ nP ep
      have hP4 : Paired (CnAt H4) vs cs := Paired.mono (fun _ _ z => CnAt.frm z (e14.frm e1.1)) hP
      clear e2 e3 e4 E2 E3 ep hP e14
      refine ⟨_, _, rfl, ?_⟩
      dsimp only
      refine (?_ : tIfS _ _ _ _ [some (.ref b), some (.ref fo), some (.int m), some (.ref p), some (.str w), some (.str kd), some (.int y), some (kV q1), some (kV q2), v9] _)
      refine ⟨_, rfl, _, _, rfl, rfl, _, rfl, ite2 (fun cy => ?_) (fun cy => nextK ⟨_, _, _, _, _, _, vs, cs, rfl, E4, ep4, hP4, hI.skip⟩)⟩
      have y4 : y < 4 := by simpa using cy
      have up : ∀ {H : Hp} {o : HO} {l : List V}, H p = some (.lst l) → ∀ c xs, H c = some (.tup xs) → (upd H p o) c = some (.tup xs) := fun h c xs hc => by rw [upd_ne (fun z => by rw [z, h] at hc; cases hc)]; exact hc
      refine ⟨_, rfl, by show 2 ≤ sizeLine; decide, fun t1 h1 => ⟨_, rfl, _, rfl, by show 3 ≤ sizeLine; decide, fun t2 h2 => ⟨_, rfl, by show 3 ≤ sizeLine; decide, fun t3 h3 => ⟨_, rfl, by show 3 ≤ sizeLine; decide, fun t4 h4 => ⟨by show 4 ≤ sizeLine; decide, fun T hT => ?_⟩⟩⟩⟩⟩
      have sT := same_new (o := HO.lst [V.ref t1, V.ref t2, V.ref t3, V.ref t4]) hT
      have s4 := (same_new (o := HO.tup [V.str "from", V.non, kV q2]) h4).trans sT
      have s3 := (same_new (o := HO.tup [V.str "from", kV q1, V.non]) h3).trans s4
      have s2 := (same_new (o := HO.tup [V.str "from", kV q1, kV q2]) h2).trans s3
      have s1 := (same_new (o := HO.tup [V.str "is", kV q1]) h1).trans s2
      have x1 := s2 _ _ (upd_same (H := H4) (a := t1) (o := HO.tup [V.str "is", kV q1]))
      have x2 := s3 _ _ (upd_same (H := upd H4 t1 (HO.tup [V.str "is", kV q1])) (a := t2) (o := HO.tup [V.str "from", kV q1, kV q2]))
      have x3 := s4 _ _ (upd_same (H := upd (upd H4 t1 (HO.tup [V.str "is", kV q1])) t2 (HO.tup [V.str "from", kV q1, kV q2])) (a := t3) (o := HO.tup [V.str "from", kV q1, V.non]))
      have x4 := sT _ _ (upd_same (H := upd (upd (upd H4 t1 (HO.tup [V.str "is", kV q1])) t2 (HO.tup [V.str "from", kV q1, kV q2])) t3 (HO.tup [V.str "from", kV q1, V.non])) (a := t4) (o := HO.tup [V.str "from", V.non, kV q2]))
      have xT : upd (upd (upd (upd (upd H4 t1 (HO.tup [V.str "is", kV q1])) t2 (HO.tup [V.str "from", kV q1, kV q2])) t3 (HO.tup [V.str "from", kV q1, V.non])) t4 (HO.tup [V.str "from", V.non, kV q2])) T (HO.lst [V.ref t1, V.ref t2, V.ref t3, V.ref t4]) T = some (HO.lst [V.ref t1, V.ref t2, V.ref t3, V.ref t4]) := upd_same
      have E5 := E4.same s1
      have ep5 := s1 _ _ ep4
      have hP5 : Paired (CnAt _) vs cs := Paired.mono (fun _ _ z => CnAt.frm z (.of_same s1 : Frm [] _ _)) hP4
      have nT : T ≠ b := (Bag.ne (E4.1.same ((same_new (o := HO.tup [V.str "is", kV q1]) h1).trans ((same_new (o := HO.tup [V.str "from", kV q1, kV q2]) h2).trans ((same_new (o := HO.tup [V.str "from", kV q1, V.non]) h3).trans (same_new (o := HO.tup [V.str "from", V.non, kV q2]) h4))))) hT).symm
      clear sT s4 s3 s2 s1 hP4 ep4 h1 h2 h3 h4 hT
      generalize upd (upd (upd (upd (upd H4 t1 (HO.tup [V.str "is", kV q1])) t2 (HO.tup [V.str "from", kV q1, kV q2])) t3 (HO.tup [V.str "from", kV q1, V.non])) t4 (HO.tup [V.str "from", V.non, kV q2])) T (HO.lst [V.ref t1, V.ref t2, V.ref t3, V.ref t4]) = H5 at x1 x2 x3 x4 xT E5 ep5 hP5 ⊢
      have f1 : ∀ k, some q1 = some k → kindOf k = kd ∧ keyOk k := fun k e => by injection e with e; subst e; exact ⟨hk1, ho1⟩
      have f2 : ∀ k, some q2 = some k → kindOf k = kd ∧ keyOk k := fun k e => by injection e with e; subst e; exact ⟨hk2, ho2⟩
      have fn : ∀ k, (none : Option Key) = some k → kindOf k = kd ∧ keyOk k := fun k e => by cases e
      obtain ⟨v, ev, tj, c, tl, rfl, hj, hcv, hcc, hck2, htl⟩ := at_all (xs := [V.ref t1, V.ref t2, V.ref t3, V.ref t4]) (tailAt H5 w kd) (fun v hv => by
        simp only [List.mem_cons, List.not_mem_nil, or_false] at hv
        rcases hv with rfl | rfl | rfl | rfl
        · exact ⟨t1, .is w q1, _, rfl, x1, rfl, rfl, ⟨hk1, ho1⟩, by show 2 ≤ 3; decide⟩
        · exact ⟨t2, .frm w (some q1) (some q2), _, rfl, x2, rfl, rfl, ⟨f1, f2, .inl (by simp)⟩, by show 3 ≤ 3; decide⟩
        · exact ⟨t3, .frm w (some q1) none, _, rfl, x3, rfl, rfl, ⟨f1, fn, .inl (by simp)⟩, by show 3 ≤ 3; decide⟩
        · exact ⟨t4, .frm w none (some q2), _, rfl, x4, rfl, rfl, ⟨fn, f2, .inr (by simp)⟩, by show 3 ≤ 3; decide⟩) y0 (show y < 4 from y4)
      refine ⟨_, rfl, T, _, _, _, rfl, rfl, SqL.of xT, ev, ?_⟩
      try dsimp only [gName]
      have hvl := Paired.length hP5
      have hcl := hI.len
      refine ⟨_, rfl, .inl ⟨rfl, _, SqL.of ep5⟩, _, rfl, _, rfl, p, _, rfl, .inl (SqL.of ep5), _, _, rfl, rfl, b, _, rfl, E5.1, by omega, by omega, fun r H6 r0 r1 e6 => ?_⟩
      have E6 := E5.trans e6
      have ep6 := e6.2 _ _ nP ep5
      have hj6 := e6.2 _ _ (E5.1.neT hj) hj
      have hP6 : Paired (CnAt H6) vs cs := Paired.mono (fun _ _ z => CnAt.frm z (e6.frm E5.1)) hP5
      refine ⟨_, rfl, by show 1 ≤ sizeLine; decide, fun t5 h5 => ⟨_, rfl, t5, tj, _, _, rfl, rfl, upd_same, same_new h5 _ _ hj6, by show 1 + tl.length ≤ sizeLine; exact line (by omega), fun u H7 s7 hu => ?_⟩⟩
      have s67 := (same_new (o := HO.tup [V.str w]) h5).trans s7
      have ep7 := s67 _ _ ep6
      have hP7 : Paired (CnAt H7) vs cs := Paired.mono (fun _ _ z => CnAt.frm z (.of_same s67 : Frm [] _ _)) hP6
      refine ⟨p, vs, r, .ref u, rfl, rfl, ep7, r0, by omega, by rw [hvl]; exact lt_line (by omega), ?_⟩
      refine ⟨_, _, _, _, _, _, vs.take r.toNat ++ .ref u :: vs.drop r.toNat, cs.take r.toNat ++ c :: cs.drop r.toNat, rfl, (E6.same s67).put hb hp, upd_same, ?_, hI.put hco.nd hci hcc hck2⟩
      exact Paired.ins (Paired.mono (fun _ _ z => cn_put z ep7) hP7) (cn_put ⟨u, rfl, by rw [hcv]; exact hu⟩ ep7) _
    · rintro σ H1 ⟨v4, v5, v6, v7, v8, v9, vs, cs, rfl, e1, ep, hP, hI⟩
      rw [List.length_map, lt] at hI
      refine ⟨_, rfl, p, vs, rfl, .inl ⟨SqL.of ep, fun u hu => ?_⟩⟩
      have sU := same_new (o := HO.tup vs) hu
      exact k u cs _ ⟨vs, upd_same, Paired.mono (fun _ _ z => z.frm (.of_same sU : Frm [] _ _)) hP⟩ (hI.fin h6) (e1.same sU)
theorem sc_law_design : FnScope ["_law_bag_here", "_law_form_here", "_law_names_here", "_law_name", "_law_sort"] ["_law_bag_here", "_law_form_here"] (defScope s_law_design) := ⟨rfl, rfl, rfl, by decide +kernel, rfl, by decide +kernel, by decide +kernel⟩

set_option maxHeartbeats 8000000 in
theorem ok_law_design {fa : Addr} {fd : FuncData} (T : Txt K mg w t_FIGURES a_KINDS a_MOST_BY_KIND t_MOST_COLUMNS t_MOST_CONDITIONS t_MOST_FIGURES t_MOST_LETTERS t_MOST_NUMBER t_NONE) (D : Def K mg "_law_design" s_law_design fa fd) : FnOk P w K mg base CX0 3 fa fd ["_law_bag_here", "_law_form_here"] sp_law_design7 := by
  obtain ⟨fa_law_take, fd_law_take, D_law_take⟩ := T.d_law_take
  have G_law_take := ok_law_take (P := P) (w := w) (base := base) T D_law_take
  have b_law_take := D_law_take.fn.binds (ps := ["_law_bag_here", "_law_many"]) fun _ _ _ _ _ _ us hl => match us, hl with | [_, _], _ => rfl
  obtain ⟨fa_law_some, fd_law_some, D_law_some⟩ := T.d_law_some
  have G_law_some := ok_law_some (P := P) (w := w) (base := base) T D_law_some
  have b_law_some := D_law_some.fn.binds (ps := ["_law_bag_here", "_law_things", "_law_few", "_law_most"]) fun _ _ _ _ _ _ us hl => match us, hl with | [_, _, _, _], _ => rfl
  refine D.fn.ok sc_law_design (fun vs H Q E h => ?_) (fun cdv A outer s H vs Q E hr h => ?_)
  · obtain ⟨b, fo, cols, rfl, _⟩ := h
    rfl
  ·
    have r_law_take : Room 1 _ := hr.mono (by decide)
    have r_law_some : Room 2 _ := hr.mono (by decide)
    obtain ⟨b, fo, cols, rfl, hb, hf, hco, k⟩ := h
    refine ⟨_, (pss_cons (ps_setLc (i := 2) (own := [("_law_name", 3), ("_law_sort", 4)]) rfl sc_law_design.nd rfl (by rfl) (sw_true rfl (by rfl) rfl (by decide +kernel)) (pi_tup (pv 1)) (blkOk_by (own := [("_law_name", 3), ("_law_sort", 4)]) (N := ["_law_bag_here", "_law_form_here", "_law_names_here", "_law_name", "_law_sort"]) (sc := defScope s_law_design) (by decide +kernel))
        (fun _ _ _ _ _ => (pg_tupK (K := K) (n := 2) (by rfl) (pgs_cons (pg_name (i := 3) sc_law_design.nd rfl (by first | exact Or.inl rfl | exact Or.inr rfl)) (pgs_cons (pg_name (i := 4) sc_law_design.nd rfl (by first | exact Or.inl rfl | exact Or.inr rfl)) pgs_nil)))) (fun _ _ _ _ _ => pts_nil)
        (fun _ _ _ _ _ => (pv 3)))
    (pss_cons (ps_asg (pe_ix ix_tup (pe_tup (pa_cons pe_str (pa_cons pe_str (pa_cons pe_str (pa_cons pe_str pa_nil))))) (pe_call G_law_take r_law_take (by rfl) D_law_take.mg D_law_take.fn.kp b_law_take .nil pass0 (pa_cons (pv 0) (pa_cons pe_int pa_nil))) (fun _ _ => rfl)) (pg_name (i := 4) sc_law_design.nd rfl (by first | exact Or.inl rfl | exact Or.inr rfl)))
    (pss_one (ps_ret (pe_tup (pa_cons (pv 4) (pa_cons (pe_call G_law_some r_law_some (by rfl) D_law_some.mg D_law_some.fn.kp b_law_some .nil pass0 (pa_cons (pv 0) (pa_cons (pv 2) (pa_cons pe_int (pa_cons (pe_dget (u1 hr.units) (pe_disp (pps_cons pe_str pe_int (pps_cons pe_str pe_int (pps_cons pe_str pe_int pps_nil))) (by rfl) (by rfl) (fun z => by cases z) (by decide)) (pv 4) (fun _ _ => rfl)) pa_nil))))) pa_nil))))))), ?_⟩
    obtain ⟨ts, ea, lt, ft⟩ := id hf.ex
    have h6 := hco.c6
    have h1 := hco.c1
    refine ⟨_, rfl, fo, rfl, ⟨_, SqT.of ea⟩, fun N hN => ?_⟩
    refine lc_tup_map hN (fun i => .str (cols.getD i ("", "")).1) ea (by rw [List.length_map, lt]; exact lt_line (by omega)) ?_ ?_
    · intro i x H1 R F hx s1 hR
      rw [List.getElem?_map] at hx
      obtain ⟨t, ht, rfl⟩ := Option.map_eq_some_iff.mp hx
      have hi : i < cols.length := by rw [← lt]; exact (List.getElem?_eq_some_iff.mp ht).1
      have hci : cols[i]? = some cols[i] := by simp [hi]
      have := hR H1 (Same.refl _)
      rw [List.getD_eq_getElem?_getD, hci] at this
      exact ⟨t, _, rfl, SqT.of (s1 _ _ (ft i t _ ht hci)), rfl, _, _, rfl, _, _, rfl, rfl, rfl, _, rfl, this⟩
    intro H0 s0 hN0
    rw [List.length_map, lt, range_mapD (fun c : Str × Str => V.str c.1)] at hN0
    have hN0 : H0 N = some (.lst ((cols.map (·.1)).map V.str)) := by rw [hN0, List.map_map]; rfl
    have e0 : Eff b H H0 := hb.eff s0
    have nN : N ≠ b := (hb.ne hN).symm
    try dsimp only [gName]
    refine (?_ : tSeq _ _ _ [some (.ref b), some (.ref fo), some (.ref N), none, none] _)
    refine ⟨by show 4 ≤ sizeLine; decide, fun p1 hp1 => ⟨_, rfl, b, 4, rfl, e0.1.same (same_new hp1), by decide, by decide, fun r1 H1 r10 r11 e1 => ?_⟩⟩
    obtain ⟨_, ev1, kd, m, rfl, hkm⟩ := at_all (xs := [V.str "tree", V.str "hash", V.str "bits", V.str "tree"]) (fun v => ∃ (kd : Str) (m : Nat), v = V.str kd ∧ desK kd m) (fun x hx => by
      simp only [List.mem_cons, List.not_mem_nil, or_false] at hx
      rcases hx with rfl | rfl | rfl | rfl
      · exact ⟨"tree", 4, rfl, .inl ⟨rfl, rfl⟩⟩
      · exact ⟨"hash", 3, rfl, .inr (.inl ⟨rfl, rfl⟩)⟩
      · exact ⟨"bits", 1, rfl, .inr (.inr ⟨rfl, rfl⟩)⟩
      · exact ⟨"tree", 4, rfl, .inl ⟨rfl, rfl⟩⟩) r10 r11
    have s1 := same_new (o := HO.tup [V.str "tree", V.str "hash", V.str "bits", V.str "tree"]) hp1
    have e01 : Eff b H0 H1 := (e0.1.eff s1).trans e1
    have E1 := e0.trans e01
    have hN1 := e01.2 _ _ nN hN0
    refine ⟨p1, _, _, _, rfl, rfl, SqT.of (e1.2 p1 _ (e0.1.ne hp1).symm upd_same), ev1, ?_⟩
    try dsimp only [gName]
    refine (?_ : tRet _ _ [some (.ref b), some (.ref fo), some (.ref N), none, some (.str kd)] _)
    have m14 : 1 ≤ m ∧ m ≤ 4 := by rcases hkm with ⟨_, rfl⟩ | ⟨_, rfl⟩ | ⟨_, rfl⟩ <;> decide
    refine ⟨_, rfl, _, rfl, _, rfl, fun p2 hp2 => ⟨upd_same, [(.inr "tree", .int 4), (.inr "hash", .int 3), (.inr "bits", .int 1)], rfl, by decide, ?_⟩⟩
    have hv : valV (mergeK [] [((.inr "tree" : Key), V.int 4), (.inr "hash", .int 3), (.inr "bits", .int 1)]) (.inr kd) = some (V.int m) := by
      rcases hkm with ⟨rfl, rfl⟩ | ⟨rfl, rfl⟩ | ⟨rfl, rfl⟩ <;> decide +kernel
    have s2 : Same H1 (upd (upd H1 p2 (.dK [])) p2 (.dK (mergeK [] [(.inr "tree", V.int 4), (.inr "hash", .int 3), (.inr "bits", .int 1)]))) := fun c o e => by rw [upd_ne (ne_of_none e hp2), upd_ne (ne_of_none e hp2)]; exact e
    have hg2 : DGet (upd (upd H1 p2 (.dK [])) p2 (.dK (mergeK [] [(.inr "tree", V.int 4), (.inr "hash", .int 3), (.inr "bits", .int 1)]))) p2 (.str kd) (some (V.int m)) := by
      have := DGet.k (k := .inr kd) (upd_same (H := upd H1 p2 (.dK [])) (a := p2) (o := .dK (mergeK [] [(.inr "tree", V.int 4), (.inr "hash", .int 3), (.inr "bits", .int 1)])))
      rw [hv] at this; exact this
    generalize upd (upd H1 p2 (.dK [])) p2 (.dK (mergeK [] [(.inr "tree", V.int 4), (.inr "hash", .int 3), (.inr "bits", .int 1)])) = H2 at s2 hg2 ⊢
    refine ⟨_, rfl, p2, _, rfl, hg2, b, N, cols.map (·.1), 1, m, rfl, E1.1.same s2, s2 _ _ hN1, by rw [List.length_map]; exact h1, by rw [List.length_map]; exact h6, by omega, by omega, hco.nd, fun W us H3 hW ul uh um un e3 => ?_⟩
    rw [List.length_map] at ul
    refine ⟨by show 2 ≤ sizeLine; decide, fun p4 hp4 => ?_⟩
    have s4 := same_new (o := HO.tup [V.str kd, V.ref W]) hp4
    exact k p4 kd us _ ⟨W, upd_same, s4 _ _ hW⟩ ⟨⟨m, hkm, uh⟩, by omega, um, un⟩ (((E1.same s2).trans e3).same s4)
theorem sc_law_show_row : FnScope ["_law_row", "_law_value_here"] ["_law_row"] (defScope s_law_show_row) := ⟨rfl, rfl, rfl, by decide +kernel, rfl, by decide +kernel, by decide +kernel⟩

set_option maxHeartbeats 8000000 in
theorem ok_law_show_row {fa : Addr} {fd : FuncData} (T : Txt K mg w t_FIGURES a_KINDS a_MOST_BY_KIND t_MOST_COLUMNS t_MOST_CONDITIONS t_MOST_FIGURES t_MOST_LETTERS t_MOST_NUMBER t_NONE) (D : Def K mg "_law_show_row" s_law_show_row fa fd) : FnOk P w K mg base CX0 1 fa fd ["_law_row"] sp_show_row := by
  refine D.fn.ok sc_law_show_row (fun vs H Q E h => ?_) (fun cdv A outer s H vs Q E hr h => ?_)
  · obtain ⟨a, r, rfl, _⟩ := h
    rfl
  ·
    obtain ⟨a, r, rfl, ha, hk, l6, k⟩ := h
    refine ⟨_, (pss_one (ps_ret (pe_join pe_str (pe_lc (own := [("_law_value_here", 1)]) (g := gName 1) (by rfl) sc_law_show_row.nd (pi_tup (pv 0)) (blkOk_by (own := [("_law_value_here", 1)]) (N := ["_law_row", "_law_value_here"]) (sc := defScope s_law_show_row) (by decide +kernel))
        (fun _ _ _ _ _ => (pg_name (i := 1) sc_law_show_row.nd rfl (by first | exact Or.inl rfl | exact Or.inr rfl))) (fun _ _ _ _ _ => pts_nil)
        (fun _ _ _ _ _ => (pe_callTy (call_strDK (K := K) hr.gd hr.units150) (by rfl) T.z_str bt_str (pa_cons (pv 1) pa_nil))))))), ?_⟩
    refine ⟨⟨_, rfl⟩, ?_⟩
    refine ⟨_, rfl, a, rfl, ⟨_, SqT.of ha⟩, fun D hD => ?_⟩
    refine lc_tup_map hD (fun i => V.str (keyS (r.getD i (.inl 0)))) ha (by rw [List.length_map]; exact lt_line (by omega)) ?_ ?_
    · intro i x H1 R F hx s1 hR
      rw [List.getElem?_map] at hx
      obtain ⟨q, hq, rfl⟩ := Option.map_eq_some_iff.mp hx
      have hR := hR H1 (Same.refl _)
      rw [List.getD_eq_getElem?_getD, hq] at hR
      have hk := hk q (List.mem_of_getElem? hq)
      refine ⟨rfl, ?_⟩
      obtain ⟨f1, f2, f3, f4⟩ := (((Fine.key hk).mono (by decide) (by decide)) : Fine 10000000 5 (dK q)).str
      refine ⟨_, rfl, kV q, dK q, rfl, (key_dt H1 q).dp, f1, f2, f3, f4, ?_⟩
      cases q with
      | inl i => exact hR
      | inr x => exact hR
    intro H1 s1 hD1
    rw [List.length_map, range_mapG r (fun q => V.str (keyS q)) (.inl 0)] at hD1
    have hD2 : H1 D = some (.lst ((r.map keyS).map V.str)) := by rw [hD1, List.map_map]; rfl
    have hs := sum_len (ws := r.map keyS) (n := 8) fun w hw => by
      obtain ⟨q, hq, rfl⟩ := List.mem_map.mp hw
      exact key_len (hk q hq)
    obtain ⟨_, _, _, _, _, e6, _⟩ := lit_len
    rw [List.length_map] at hs
    exact ⟨",", D, r.map keyS, rfl, rfl, .inl (SqL.of hD2), by rw [List.length_map, e6]; omega, k _ s1⟩
theorem sc_law_show_form : FnScope ["_law_form_here", "_law_name", "_law_sort"] ["_law_form_here"] (defScope s_law_show_form) := ⟨rfl, rfl, rfl, by decide +kernel, rfl, by decide +kernel, by decide +kernel⟩

set_option maxHeartbeats 8000000 in
theorem ok_law_show_form {fa : Addr} {fd : FuncData} (T : Txt K mg w t_FIGURES a_KINDS a_MOST_BY_KIND t_MOST_COLUMNS t_MOST_CONDITIONS t_MOST_FIGURES t_MOST_LETTERS t_MOST_NUMBER t_NONE) (D : Def K mg "_law_show_form" s_law_show_form fa fd) : FnOk P w K mg base CX0 1 fa fd ["_law_form_here"] sp_show_form := by
  refine D.fn.ok sc_law_show_form (fun vs H Q E h => ?_) (fun cdv A outer s H vs Q E hr h => ?_)
  · obtain ⟨a, cols, rfl, _⟩ := h
    rfl
  ·
    obtain ⟨a, cols, rfl, hf, hco, k⟩ := h
    refine ⟨_, (pss_one (ps_ret (pe_join pe_str (pe_lc (own := [("_law_name", 1), ("_law_sort", 2)]) (by rfl) sc_law_show_form.nd (pi_tup (pv 0)) (blkOk_by (own := [("_law_name", 1), ("_law_sort", 2)]) (N := ["_law_form_here", "_law_name", "_law_sort"]) (sc := defScope s_law_show_form) (by decide +kernel))
        (fun _ _ _ _ _ => (pg_tupK (K := K) (n := 2) (by rfl) (pgs_cons (pg_name (i := 1) sc_law_show_form.nd rfl (by first | exact Or.inl rfl | exact Or.inr rfl)) (pgs_cons (pg_name (i := 2) sc_law_show_form.nd rfl (by first | exact Or.inl rfl | exact Or.inr rfl)) pgs_nil)))) (fun _ _ _ _ _ => pts_nil)
        (fun _ _ _ _ _ => (pe_op op_add_str (pe_op op_add_str (pv 1) pe_str) (pv 2))))))), ?_⟩
    obtain ⟨ts, ea, lt, ft⟩ := id hf.ex
    have h6 := hco.c6
    refine ⟨⟨_, rfl⟩, ?_⟩
    refine ⟨_, rfl, a, rfl, ⟨_, SqT.of ea⟩, fun D hD => ?_⟩
    refine lc_tup_map hD (fun i => V.str (colS (cols.getD i ("", "")))) ea (by rw [List.length_map, lt]; exact lt_line (by omega)) ?_ ?_
    · intro i x H1 R F hx s1 hR
      rw [List.getElem?_map] at hx
      obtain ⟨t, ht, rfl⟩ := Option.map_eq_some_iff.mp hx
      have hi : i < cols.length := by rw [← lt]; exact (List.getElem?_eq_some_iff.mp ht).1
      have hci : cols[i]? = some cols[i] := by simp [hi]
      have hR := hR H1 (Same.refl _)
      rw [List.getD_eq_getElem?_getD, hci] at hR
      have etc := ft i t _ ht hci
      have hcm := List.mem_of_getElem? hci
      have hw := (hco.nm _ hcm).hi
      have hk := hco.kd _ hcm
      generalize cols[i] = c at etc hw hk hR
      obtain ⟨w, kd⟩ := c
      refine ⟨t, _, rfl, SqT.of (s1 _ _ etc), rfl, _, _, rfl, _, _, rfl, rfl, ?_⟩
      have hkl : kd.length ≤ 6 := by rcases hk with rfl | rfl <;> decide +kernel
      obtain ⟨e0, _, _, _, _, _, _⟩ := lit_len
      have ec : (":" : Str).length = 1 := by decide +kernel
      have hw : w.length ≤ 8 := hw
      have fin : (Str.empty ++ w ++ ":" ++ kd).length ≤ sizeLine := line (by simp only [len_app]; omega)
      have e : w ++ ":" ++ kd = colS (w, kd) := by unfold colS; rw [empty_app]
      have hR : R (V.str (w ++ ":" ++ kd)) H1 := by rw [e]; exact hR
      exact ⟨rfl, _, rfl, w, ":", rfl, rfl, line (by omega), _, rfl, w ++ ":", kd, rfl, rfl, line (by rw [len_app]; omega), hR⟩
    intro H1 s1 hD1
    rw [List.length_map, lt, range_mapG cols (fun c => V.str (colS c)) ("", "")] at hD1
    have hD2 : H1 D = some (.lst ((cols.map colS).map V.str)) := by rw [hD1, List.map_map]; rfl
    have hs := sum_len (ws := cols.map colS) (n := 20) fun w hw => by
      obtain ⟨c, hc, rfl⟩ := List.mem_map.mp hw
      exact col_len hco hc
    obtain ⟨_, _, _, _, _, e6, _⟩ := lit_len
    rw [List.length_map] at hs
    exact ⟨",", D, cols.map colS, rfl, rfl, .inl (SqL.of hD2), by rw [List.length_map, e6]; omega, k _ s1⟩
theorem sc_law_show_design : FnScope ["_law_design_here"] ["_law_design_here"] (defScope s_law_show_design) := ⟨rfl, rfl, rfl, by decide +kernel, rfl, by decide +kernel, by decide +kernel⟩

set_option maxHeartbeats 8000000 in
theorem ok_law_show_design {fa : Addr} {fd : FuncData} (T : Txt K mg w t_FIGURES a_KINDS a_MOST_BY_KIND t_MOST_COLUMNS t_MOST_CONDITIONS t_MOST_FIGURES t_MOST_LETTERS t_MOST_NUMBER t_NONE) (D : Def K mg "_law_show_design" s_law_show_design fa fd) : FnOk P w K mg base CX0 1 fa fd ["_law_design_here"] sp_show_design := by
  refine D.fn.ok sc_law_show_design (fun vs H Q E h => ?_) (fun cdv A outer s H vs Q E hr h => ?_)
  · obtain ⟨p, cols, kd, ws, rfl, _⟩ := h
    rfl
  ·
    obtain ⟨p, cols, kd, ws, rfl, ⟨wp, hp, hw⟩, hco, ok, k⟩ := h
    refine ⟨_, (pss_one (ps_ret (pe_op op_add_str (pe_op op_add_str (pe_ix ix_tup (pv 0) pe_int (fun _ _ => rfl)) pe_str) (pe_join pe_str (pe_ix ix_tup (pv 0) pe_int (fun _ _ => rfl)))))), ?_⟩
    obtain ⟨e0, _, _, _, _, _, _⟩ := lit_len
    have ec : (":" : Str).length = 1 := by decide +kernel
    have hkl := ok.klen
    have wW := ok.words hco
    have l6 := ok.l6
    have cl := cols_len wW l6
    have e : kd ++ ":" ++ Txt.join "+" ws = desS kd ws := by unfold desS; rw [empty_app, (split_cols wW ok.ne).1]
    have kk := k _ (Same.refl _)
    rw [← e] at kk
    have cl2 : (Txt.join "+" ws).length ≤ 60 := by rw [← (split_cols wW ok.ne).1]; exact cl
    exact ⟨_, rfl, p, _, _, _, rfl, rfl, SqT.of hp, atI_nat (j := 0) rfl, _, _, rfl, rfl, line (by omega), ⟨_, rfl⟩, _, rfl, p, _, _, _, rfl, rfl, SqT.of hp, atI_nat (j := 1) rfl, "+", wp, ws, rfl, rfl, .inr (SqT.of hw), join_sum wW l6, _, _, rfl, rfl, line (by rw [len_app]; omega), kk⟩
theorem sc_law_show_conditions : FnScope ["_law_conditions_here", "_law_found", "_law_one", "_law_ends", "_law_part"] ["_law_conditions_here"] (defScope s_law_show_conditions) := ⟨rfl, rfl, rfl, by decide +kernel, rfl, by decide +kernel, by decide +kernel⟩

set_option maxHeartbeats 8000000 in
theorem ok_law_show_conditions {fa : Addr} {fd : FuncData} (T : Txt K mg w t_FIGURES a_KINDS a_MOST_BY_KIND t_MOST_COLUMNS t_MOST_CONDITIONS t_MOST_FIGURES t_MOST_LETTERS t_MOST_NUMBER t_NONE) (D : Def K mg "_law_show_conditions" s_law_show_conditions fa fd) : FnOk P w K mg base CX0 1 fa fd ["_law_conditions_here"] sp_show_conditions := by
  refine D.fn.ok sc_law_show_conditions (fun vs H Q E h => ?_) (fun cdv A outer s H vs Q E hr h => ?_)
  · obtain ⟨a, cs, rfl, _⟩ := h
    rfl
  ·
    obtain ⟨a, cs, rfl, hc, hok, l6, k⟩ := h
    refine ⟨_, (pss_cons (ps_asg (pe_lst pa_nil) (pg_name (i := 1) sc_law_show_conditions.nd rfl (by first | exact Or.inl rfl | exact Or.inr rfl)))
    (pss_cons (ps_for PassesOwn.never rfl (pi_tup (pv 0)) (pg_name (i := 2) sc_law_show_conditions.nd rfl (by first | exact Or.inl rfl | exact Or.inr rfl))
      (pss_cons (ps_setLc (i := 3) (own := [("_law_part", 4)]) (g := gName 4) rfl sc_law_show_conditions.nd rfl (by rfl) (sw_true rfl (by rfl) rfl (by decide +kernel)) (pi_tup (pe_slice sl_tupS (pv 2) (po_some pe_int) po_none)) (blkOk_by (own := [("_law_part", 4)]) (N := ["_law_conditions_here", "_law_found", "_law_one", "_law_ends", "_law_part"]) (sc := defScope s_law_show_conditions) (by decide +kernel))
        (fun _ _ _ _ _ => (pg_name (i := 4) sc_law_show_conditions.nd rfl (by first | exact Or.inl rfl | exact Or.inr rfl))) (fun _ _ _ _ _ => pts_nil)
        (fun _ _ _ _ _ => (pe_ifExp (pt_cmpR op_isN (pv 4) pe_non (nomark _)) pe_str (pe_callTy (call_strDK (K := K) hr.gd hr.units150) (by rfl) T.z_str bt_str (pa_cons (pv 4) pa_nil)))))
    (pss_one (ps_expr (pe_bm PySem.F.plainAttrs_list PySem.F.slot_list_append PySem.F.type_list_append mt_append.r (pv 1) (pa_cons (pe_op op_add_str (pe_op op_add_str (pe_ix ix_tup (pv 2) pe_int (fun _ _ => rfl)) pe_str) (pe_join pe_str (pv 3))) pa_nil))))))
    (pss_one (ps_ret (pe_ifExp (pt_cmpR (op_neD hr.units) (pv 1) (pe_lst pa_nil) (nomark _)) (pe_join pe_str (pv 1)) pe_str))))), ?_⟩
    obtain ⟨vs, ha, hP⟩ := id hc
    have hl := Paired.length hP
    obtain ⟨e0, e1, e2, e4, e5, e6, e7⟩ := lit_len
    refine ⟨by show 0 ≤ sizeLine; decide, fun F hF => ?_⟩
    have s0 := same_new (o := HO.lst []) hF
    have ep0 : (upd H F (.lst [])) F = some (.lst (((cs.take 0).map condS).map V.str)) := upd_same
    generalize upd H F (.lst []) = H0 at s0 ep0 ⊢
    refine ⟨_, rfl, a, rfl, ⟨_, SqT.of (s0 _ _ ha)⟩, for_tup (K := K) (a := a) (xs := vs) (fun i σ H' => ∃ v2 v3 v4, σ = [some (.ref a), some (.ref F), v2, v3, v4] ∧ Same H H' ∧ H' F = some (.lst (((cs.take i).map condS).map V.str))) ⟨none, none, none, rfl, s0, ep0⟩ (fun i σ H' _ ⟨_, _, _, _, s, _⟩ => SqT.of (s _ _ ha)) ?_ ?_⟩
    · rintro i x σ H1 hx ⟨v2, v3, v4, rfl, s1, ep⟩
      obtain ⟨c, hcc, p, rfl, hx2⟩ := Paired.getL hP hx
      have hil : i < cs.length := (List.getElem?_eq_some_iff.mp hcc).1
      have hcok := hok c (List.mem_of_getElem? hcc)
      have p1 := s1 _ _ hx2
      refine ⟨_, rfl, _, rfl, p, _, rfl, p1, fun q H2 s2 hq => ?_⟩
      rw [cn_cut] at hq
      refine ⟨q, rfl, ⟨_, SqT.of hq⟩, fun D hD => ?_⟩
      have el := ends_len c
      refine lc_tup_map hD (fun i => V.str (boundS ((endsO c).getD i none))) hq (by rw [List.length_map]; exact lt_line (by omega)) ?_ ?_
      · intro j x H3 R G hj s3 hR
        rw [List.getElem?_map] at hj
        obtain ⟨o, ho, rfl⟩ := Option.map_eq_some_iff.mp hj
        have hR := hR H3 (Same.refl _)
        rw [List.getD_eq_getElem?_getD, ho] at hR
        have hk := ends_ok hcok o (List.mem_of_getElem? ho)
        refine ⟨rfl, ?_⟩
        cases o with
        | none => exact ⟨_, rfl, rfl, _, rfl, iteT hR⟩
        | some kk =>
          have hk := hk kk rfl
          have ne : decide (oV (some kk) = V.non) = false := by cases kk <;> rfl
          refine ⟨_, rfl, rfl, _, rfl, ?_⟩
          rw [ne]
          obtain ⟨f1, f2, f3, f4⟩ := (((Fine.key hk).mono (by decide) (by decide)) : Fine 10000000 5 (dK kk)).str
          have hd : Dt H3 (kV kk) (dK kk) := by cases kk <;> constructor
          refine iteF ⟨_, rfl, kV kk, dK kk, rfl, hd.dp, f1, f2, f3, f4, ?_⟩
          cases kk with
          | inl i => exact hR
          | inr x => exact hR
      intro H3 s3 hD3
      rw [List.length_map, range_mapG (endsO c) (fun o => V.str (boundS o)) none] at hD3
      have hD4 : H3 D = some (.lst (((endsO c).map boundS).map V.str)) := by rw [hD3, List.map_map]; rfl
      have s13 := s2.trans s3
      have ep3 := s13 _ _ ep
      have p3 := s13 _ _ p1
      have hw := (cn_col hcok).hi
      have hcl := cond_len hcok
      have hcj := cond_join c
      have hsum := sum_len (ws := (endsO c).map boundS) (n := 8) fun w hw => by
        obtain ⟨o, ho, rfl⟩ := List.mem_map.mp hw
        exact bound_len (ends_ok hcok o ho)
      rw [List.length_map] at hsum
      try dsimp only [gName]
      refine ⟨_, rfl, .inl ⟨rfl, _, SqL.of ep3⟩, _, rfl, p, _, _, _, rfl, rfl, SqT.of p3, atI_nat (j := 0) (cn_head c), _, _, rfl, rfl, line (by omega), ⟨_, rfl⟩, _, rfl, _, D, (endsO c).map boundS, rfl, rfl, .inl (SqL.of hD4), by rw [List.length_map, e2]; omega, _, _, rfl, rfl, ?_, F, _, _, rfl, rfl, ep3, by rw [List.length_map, List.length_map, List.length_take]; exact lt_line (by omega), ?_⟩
      · have := congrArg Str.length hcj
        rw [len_app] at this
        exact line (by omega)
      · rw [hcj]
        refine ⟨_, _, _, rfl, same_put (s1.trans s13) hF, ?_⟩
        rw [upd_same, List.take_succ, hcc, List.map_append, List.map_append]
        rfl
    · rintro σ H1 ⟨v2, v3, v4, rfl, s1, ep⟩
      rw [hl, List.take_length] at ep
      refine ⟨_, rfl, by show 0 ≤ sizeLine; decide, fun Z hZ => ?_⟩
      have s2 := same_new (o := HO.lst []) hZ
      have ep2 := s2 _ _ ep
      have hZ2 : (upd H1 Z (.lst [])) Z = some (.lst []) := upd_same
      generalize upd H1 Z (.lst []) = H2 at s2 ep2 hZ2 ⊢
      refine ⟨_, .list [], (Dt.lst ep2 (strsG_dt _ _)).dp, (Dt.lst hZ2 .nil).dp, (conds_eas hok l6).shaped (by decide), by decide +kernel, _, rfl, ?_⟩
      rw [eqvL_nil]
      have kk := k _ (s1.trans s2)
      unfold condsS at kk
      by_cases ne : cs = []
      · subst ne
        exact iteF kk
      · rw [if_neg ne] at kk
        have ne2 : decide ((cs.map condS).map PyData.str = []) = false := decide_eq_false (by simpa using ne)
        rw [ne2]
        have h1 := sum_len (ws := cs.map condS) (n := 30) fun w hw => by
          obtain ⟨c, hc, rfl⟩ := List.mem_map.mp hw
          exact cond_len (hok c hc)
        rw [List.length_map] at h1
        exact iteT ⟨⟨_, rfl⟩, _, rfl, ",", F, cs.map condS, rfl, rfl, .inl (SqL.of ep2), by rw [List.length_map, e6]; omega, kk⟩
theorem sc_law_right : FnScope ["_law_bag_here", "_law_form_here", "_law_wide", "_law_row", "_law_design_here", "_law_conditions_here", "_law_texts", "_law_turn", "_law_back", "_law_one", "_law_name", "_law_sort"] ["_law_bag_here", "_law_form_here", "_law_wide"] (defScope s_law_right) := ⟨rfl, rfl, rfl, by decide +kernel, rfl, by decide +kernel, by decide +kernel⟩

set_option maxHeartbeats 8000000 in
theorem ok_law_right {fa : Addr} {fd : FuncData} (T : Txt K mg w t_FIGURES a_KINDS a_MOST_BY_KIND t_MOST_COLUMNS t_MOST_CONDITIONS t_MOST_FIGURES t_MOST_LETTERS t_MOST_NUMBER t_NONE) (D : Def K mg "_law_right" s_law_right fa fd) : FnOk P w K mg base CX0 7 fa fd ["_law_bag_here", "_law_form_here", "_law_wide"] sp_law_right := by
  obtain ⟨fa_law_design, fd_law_design, D_law_design⟩ := T.d_law_design
  have G_law_design := ok_law_design (P := P) (w := w) (base := base) T D_law_design
  have b_law_design := D_law_design.fn.binds (ps := ["_law_bag_here", "_law_form_here"]) fun _ _ _ _ _ _ us hl => match us, hl with | [_, _], _ => rfl
  obtain ⟨fa_law_line, fd_law_line, D_law_line⟩ := T.d_law_line
  have G_law_line := ok_law_line (P := P) (w := w) (base := base) T D_law_line
  have b_law_line := D_law_line.fn.binds (ps := ["_law_bag_here", "_law_form_here", "_law_wide"]) fun _ _ _ _ _ _ us hl => match us, hl with | [_, _, _], _ => rfl
  obtain ⟨fa_law_conditions, fd_law_conditions, D_law_conditions⟩ := T.d_law_conditions
  have G_law_conditions := ok_law_conditions (P := P) (w := w) (base := base) T D_law_conditions
  have b_law_conditions := D_law_conditions.fn.binds (ps := ["_law_bag_here", "_law_form_here", "_law_wide"]) fun _ _ _ _ _ _ us hl => match us, hl with | [_, _, _], _ => rfl
  obtain ⟨fa_show_conditions, fd_show_conditions, D_show_conditions⟩ := T.d_show_conditions
  have G_show_conditions := ok_show_conditions (P := P) (w := w) (base := base) T D_show_conditions
  have b_show_conditions := D_show_conditions.fn.binds (ps := ["conditions"]) fun _ _ _ _ _ _ us hl => match us, hl with | [_], _ => rfl
  obtain ⟨fa_show_design, fd_show_design, D_show_design⟩ := T.d_show_design
  have G_show_design := ok_show_design (P := P) (w := w) (base := base) T D_show_design
  have b_show_design := D_show_design.fn.binds (ps := ["design"]) fun _ _ _ _ _ _ us hl => match us, hl with | [_], _ => rfl
  obtain ⟨fa_show_row, fd_show_row, D_show_row⟩ := T.d_show_row
  have G_show_row := ok_show_row (P := P) (w := w) (base := base) T D_show_row
  have b_show_row := D_show_row.fn.binds (ps := ["row"]) fun _ _ _ _ _ _ us hl => match us, hl with | [_], _ => rfl
  obtain ⟨fa_law_show_conditions, fd_law_show_conditions, D_law_show_conditions⟩ := T.d_law_show_conditions
  have G_law_show_conditions := ok_law_show_conditions (P := P) (w := w) (base := base) T D_law_show_conditions
  have b_law_show_conditions := D_law_show_conditions.fn.binds (ps := ["_law_conditions_here"]) fun _ _ _ _ _ _ us hl => match us, hl with | [_], _ => rfl
  obtain ⟨fa_law_show_design, fd_law_show_design, D_law_show_design⟩ := T.d_law_show_design
  have G_law_show_design := ok_law_show_design (P := P) (w := w) (base := base) T D_law_show_design
  have b_law_show_design := D_law_show_design.fn.binds (ps := ["_law_design_here"]) fun _ _ _ _ _ _ us hl => match us, hl with | [_], _ => rfl
  obtain ⟨fa_law_show_row, fd_law_show_row, D_law_show_row⟩ := T.d_law_show_row
  have G_law_show_row := ok_law_show_row (P := P) (w := w) (base := base) T D_law_show_row
  have b_law_show_row := D_law_show_row.fn.binds (ps := ["_law_row"]) fun _ _ _ _ _ _ us hl => match us, hl with | [_], _ => rfl
  obtain ⟨fa_read_design, fd_read_design, D_read_design⟩ := T.d_read_design
  have G_read_design := ok_read_design (P := P) (w := w) (base := base) T D_read_design
  have b_read_design := D_read_design.fn.binds (ps := ["form", "text"]) fun _ _ _ _ _ _ us hl => match us, hl with | [_, _], _ => rfl
  obtain ⟨fa_read_row, fd_read_row, D_read_row⟩ := T.d_read_row
  have G_read_row := ok_read_row (P := P) (w := w) (base := base) T D_read_row
  have b_read_row := D_read_row.fn.binds (ps := ["form", "text"]) fun _ _ _ _ _ _ us hl => match us, hl with | [_, _], _ => rfl
  obtain ⟨fa_read_conditions, fd_read_conditions, D_read_conditions⟩ := T.d_read_conditions
  have G_read_conditions := ok_read_conditions (P := P) (w := w) (base := base) T D_read_conditions
  have b_read_conditions := D_read_conditions.fn.binds (ps := ["form", "text"]) fun _ _ _ _ _ _ us hl => match us, hl with | [_, _], _ => rfl
  refine D.fn.ok sc_law_right (fun vs H Q E h => ?_) (fun cdv A outer s H vs Q E hr h => ?_)
  · obtain ⟨b, fo, cols, m, rfl, _⟩ := h
    rfl
  ·
    have r_law_design : Room 3 _ := hr.mono (by decide)
    have r_law_line : Room 3 _ := hr.mono (by decide)
    have r_law_conditions : Room 3 _ := hr.mono (by decide)
    have r_show_conditions : Room 3 _ := hr.mono (by decide)
    have r_show_design : Room 2 _ := hr.mono (by decide)
    have r_show_row : Room 1 _ := hr.mono (by decide)
    have r_law_show_conditions : Room 1 _ := hr.mono (by decide)
    have r_law_show_design : Room 1 _ := hr.mono (by decide)
    have r_law_show_row : Room 1 _ := hr.mono (by decide)
    have r_read_design : Room 4 _ := hr.mono (by decide)
    have r_read_row : Room 4 _ := hr.mono (by decide)
    have r_read_conditions : Room 6 _ := hr.mono (by decide)
    obtain ⟨b, fo, cols, m, rfl, hb, hf, hco, hm, k⟩ := h
    refine ⟨_, (pss_cons (ps_par (i := 3) (j := 4) (by rfl) sc_law_right.nd rfl rfl (by decide) rfl rfl (pa_cons (pe_call G_law_line r_law_line (by rfl) D_law_line.mg D_law_line.fn.kp b_law_line .nil pass0 (pa_cons (pv 0) (pa_cons (pv 1) (pa_cons (pv 2) pa_nil)))) (pa_cons (pe_call G_law_design r_law_design (by rfl) D_law_design.mg D_law_design.fn.kp b_law_design .nil pass0 (pa_cons (pv 0) (pa_cons (pv 1) pa_nil))) pa_nil)) (by rfl))
    (pss_cons (ps_asg (pe_call G_law_conditions r_law_conditions (by rfl) D_law_conditions.mg D_law_conditions.fn.kp b_law_conditions .nil pass0 (pa_cons (pv 0) (pa_cons (pv 1) (pa_cons (pv 2) pa_nil)))) (pg_name (i := 5) sc_law_right.nd rfl (by first | exact Or.inl rfl | exact Or.inr rfl)))
    (pss_cons (ps_asg (pe_lst (pa_cons (pe_call G_show_row r_show_row (by rfl) D_show_row.mg D_show_row.fn.kp b_show_row .nil pass0 (pa_cons (pv 3) pa_nil)) (pa_cons (pe_call G_show_design r_show_design (by rfl) D_show_design.mg D_show_design.fn.kp b_show_design .nil pass0 (pa_cons (pv 4) pa_nil)) (pa_cons (pe_call G_show_conditions r_show_conditions (by rfl) D_show_conditions.mg D_show_conditions.fn.kp b_show_conditions .nil pass0 (pa_cons (pv 5) pa_nil)) pa_nil)))) (pg_name (i := 6) sc_law_right.nd rfl (by first | exact Or.inl rfl | exact Or.inr rfl)))
    (pss_cons (ps_if (pt_cmpR (op_neD hr.units) (pv 6) (pe_lst (pa_cons (pe_call G_law_show_row r_law_show_row (by rfl) D_law_show_row.mg D_law_show_row.fn.kp b_law_show_row .nil pass0 (pa_cons (pv 3) pa_nil)) (pa_cons (pe_call G_law_show_design r_law_show_design (by rfl) D_law_show_design.mg D_law_show_design.fn.kp b_law_show_design .nil pass0 (pa_cons (pv 4) pa_nil)) (pa_cons (pe_call G_law_show_conditions r_law_show_conditions (by rfl) D_law_show_conditions.mg D_law_show_conditions.fn.kp b_law_show_conditions .nil pass0 (pa_cons (pv 5) pa_nil)) pa_nil)))) (nomark _))
      (pss_one (ps_ret pe_bl))
      pss_nil)
    (pss_cons (ps_for PassesOwn.never rfl (pi_range1 (by rfl) T.z_range (pa_cons pe_int pa_nil)) (pg_name (i := 7) sc_law_right.nd rfl (by first | exact Or.inl rfl | exact Or.inr rfl))
      (pss_cons (ps_if (PW.pt (pw_or (pt_cmpR (op_neD hr.units) (pe_call G_read_row r_read_row (by rfl) D_read_row.mg D_read_row.fn.kp b_read_row .nil pass0 (pa_cons (pv 1) (pa_cons (pe_ix ix_list (pv 6) pe_int (fun _ _ => rfl)) pa_nil))) (pv 3) (nomark _)) (pw_or1 (pt_cmpR (op_neD hr.units) (pe_call G_read_design r_read_design (by rfl) D_read_design.mg D_read_design.fn.kp b_read_design .nil pass0 (pa_cons (pv 1) (pa_cons (pe_ix ix_list (pv 6) pe_int (fun _ _ => rfl)) pa_nil))) (pv 4) (nomark _)))))
      (pss_one (ps_ret pe_bl))
      pss_nil)
    (pss_one (ps_if (pt_cmpR (op_neD hr.units) (pe_call G_read_conditions r_read_conditions (by rfl) D_read_conditions.mg D_read_conditions.fn.kp b_read_conditions .nil pass0 (pa_cons (pv 1) (pa_cons (pe_ix ix_list (pv 6) pe_int (fun _ _ => rfl)) pa_nil))) (pv 5) (nomark _))
      (pss_one (ps_ret pe_bl))
      pss_nil))))
    (pss_cons (ps_asg (pe_call G_read_row r_read_row (by rfl) D_read_row.mg D_read_row.fn.kp b_read_row .nil pass0 (pa_cons (pv 1) (pa_cons (pe_ix ix_list (pv 6) pe_int (fun _ _ => rfl)) pa_nil))) (pg_name (i := 8) sc_law_right.nd rfl (by first | exact Or.inl rfl | exact Or.inr rfl)))
    (pss_one (ps_ret (pe_callB (cr_all rfl) (by rfl) T.z_all bt_all (pa_cons (pe_lc (own := [("_law_one", 9), ("_law_name", 10), ("_law_sort", 11)]) (by rfl) sc_law_right.nd (pi_zip2 (by rfl) T.z_zip (pa_cons (pv 8) (pa_cons (pv 1) pa_nil))) (blkOk_by (own := [("_law_one", 9), ("_law_name", 10), ("_law_sort", 11)]) (N := ["_law_bag_here", "_law_form_here", "_law_wide", "_law_row", "_law_design_here", "_law_conditions_here", "_law_texts", "_law_turn", "_law_back", "_law_one", "_law_name", "_law_sort"]) (sc := defScope s_law_right) (by decide +kernel))
        (fun _ _ _ _ _ => (pg_tupK (K := K) (n := 2) (by rfl) (pgs_cons (pg_name (i := 9) sc_law_right.nd rfl (by first | exact Or.inl rfl | exact Or.inr rfl)) (pgs_cons (pg_tupK (K := K) (n := 2) (by rfl) (pgs_cons (pg_name (i := 10) sc_law_right.nd rfl (by first | exact Or.inl rfl | exact Or.inr rfl)) (pgs_cons (pg_name (i := 11) sc_law_right.nd rfl (by first | exact Or.inl rfl | exact Or.inr rfl)) pgs_nil))) pgs_nil)))) (fun _ _ _ _ _ => pts_nil)
        (fun _ _ _ _ _ => (pe_cmpR op_eq (pe_callB call_isT (by rfl) T.z_isinstance bt_isinstance (pa_cons (pv 9) (pa_cons (pe_bltn (v := V.ty "int") (by rfl) T.z_int bt_int rfl) pa_nil))) (pe_cmpR op_eq (pv 11) pe_str (nomark _)) (nomark _)))) pa_nil)))))))))), ?_⟩
    refine ⟨_, rfl, _, rfl, _, rfl, b, fo, cols, m, rfl, hb, hf, hco, hm, fun R r H1 hR hrk e1 => ?_⟩
    refine ⟨_, rfl, _, rfl, b, fo, cols, rfl, e1.1, hf.eff hb e1, hco, fun D kd ws H2 hD hdk e2 => ⟨_, _, rfl, ?_⟩⟩
    have E2 := e1.trans e2
    have hR2 := e2.2 _ _ (e1.1.neT hR) hR
    dsimp only
    refine (?_ : tSeq _ _ _ [some (.ref b), some (.ref fo), some (.int m), some (.ref R), some (.ref D), none, none, none, none, none, none, none] _)
    refine ⟨_, rfl, _, rfl, _, rfl, b, fo, cols, m, rfl, E2.1, hf.eff hb E2, hco, hm, fun C cs H3 hC hcs e3 => ?_⟩
    have E3 := E2.trans e3
    have hR3 := e3.2 _ _ (E2.1.neT hR2) hR2
    have hD3 : DesAt H3 D kd ws := des_eff E2.1 hD e3
    have hf3 := hf.eff hb E3
    have cok := hcs.cnok hco
    have c6 := hco.c6
    have rl := hrk.len
    try dsimp only [gName]
    refine (?_ : tSeq _ _ _ [some (.ref b), some (.ref fo), some (.int m), some (.ref R), some (.ref D), some (.ref C), none, none, none, none, none, none] _)
    refine ⟨_, rfl, R, r, rfl, hR3, hrk.2, by omega, fun H4 s4 => ?_⟩
    refine ⟨_, rfl, D, cols, kd, ws, rfl, des_frm hD3 s4, hco, hdk, fun H5 s5 => ?_⟩
    have s35 := s4.trans s5
    refine ⟨_, rfl, C, cs, rfl, hC.frm (.of_same s35 : Frm [] _ _), cok, hcs.len, fun H6 s6 => ⟨by show 3 ≤ sizeLine; decide, fun L hL => ?_⟩⟩
    have s36 := (s35.trans s6).trans (same_new (o := HO.lst [.str (rowS r), .str (desS kd ws), .str (condsS cs)]) hL)
    have hL6 : upd H6 L (HO.lst [.str (rowS r), .str (desS kd ws), .str (condsS cs)]) L = some (.lst [.str (rowS r), .str (desS kd ws), .str (condsS cs)]) := upd_same
    generalize upd H6 L (HO.lst [.str (rowS r), .str (desS kd ws), .str (condsS cs)]) = H7 at s36 hL6 ⊢
    clear s4 s5 s6 s35 hL
    try dsimp only [gName]
    refine (?_ : tSeq _ _ _ [some (.ref b), some (.ref fo), some (.int m), some (.ref R), some (.ref D), some (.ref C), some (.ref L), none, none, none, none, none] _)
    refine ⟨_, rfl, ?_⟩
    refine ⟨_, rfl, R, r, rfl, s36 _ _ hR3, hrk.2, by omega, fun H8 s8 => ?_⟩
    have s38 := s36.trans s8
    refine ⟨_, rfl, D, cols, kd, ws, rfl, des_frm hD3 s38, hco, hdk, fun H9 s9 => ?_⟩
    have s39 := s38.trans s9
    refine ⟨_, rfl, C, cs, rfl, hC.frm (.of_same s39 : Frm [] _ _), cok, hcs.len, fun Ha sa => ⟨by show 3 ≤ sizeLine; decide, fun M hM => ?_⟩⟩
    have sM := same_new (o := HO.lst [.str (rowS r), .str (desS kd ws), .str (condsS cs)]) hM
    have s7b := ((s8.trans s9).trans sa).trans sM
    have s3b := s36.trans s7b
    have hLb := s7b _ _ hL6
    have hMb : upd Ha M (HO.lst [.str (rowS r), .str (desS kd ws), .str (condsS cs)]) M = some (.lst [.str (rowS r), .str (desS kd ws), .str (condsS cs)]) := upd_same
    generalize upd Ha M (HO.lst [.str (rowS r), .str (desS kd ws), .str (condsS cs)]) = Hb at s3b hLb hMb ⊢
    have eT : Eas 1 (.list [.str (rowS r), .str (desS kd ws), .str (condsS cs)]) := texts_eas hco hrk hdk hcs
    have dl : ∀ {H : Hp} {a : Addr}, H a = some (.lst [.str (rowS r), .str (desS kd ws), .str (condsS cs)]) → Dt H (.ref a) (.list [.str (rowS r), .str (desS kd ws), .str (condsS cs)]) := fun h => .lst h (.cons (.str _) (.cons (.str _) (.cons (.str _) .nil)))
    refine neD_same (dl hLb) (dl hMb) eT (by decide) ⟨_, rfl, iteF (nextK ?_)⟩
    have hRb := s3b _ _ hR3
    have hDb := des_frm hD3 s3b
    have hCb := hC.frm (.of_same s3b : Frm [] _ _)
    have hfb := hf3.frm (.of_same s3b : Frm [] _ _)
    have Eb := E3.same s3b
    clear s3b s36 s38 s39 s8 s9 sa sM s7b hMb hR3 hD3 hC hR2 hD hR E2 e1 e2 e3 hf3 hM hL6
    have eR : Eas 1 (.tuple (r.map dK)) := rowE hrk (by omega)
    have eD : Eas 2 (.tuple [.str kd, .tuple (ws.map .str)]) := desE hco hdk
    have eC : Eas 6 (.tuple (cs.map fun c => .tuple (cnD c))) := gd_eas (by decide) (conds_gd hco hcs)
    have dR : ∀ {H : Hp} {p : Addr}, H p = some (.tup (r.map kV)) → Dt H (.ref p) (.tuple (r.map dK)) := fun h => .tup h (rowDt r)
    have dD : ∀ {H : Hp} {p : Addr}, DesAt H p kd ws → Dt H (.ref p) (.tuple [.str kd, .tuple (ws.map .str)]) := fun ⟨w, h1, h2⟩ => .tup h1 (.cons (.str _) (.cons (.tup h2 (strsG_dt _ _)) .nil))
    have dC : ∀ {H : Hp} {p : Addr}, CnsAt H p cs → Dt H (.ref p) (.tuple (cs.map fun c => .tuple (cnD c))) := fun ⟨vs, h1, h2⟩ => .tup h1 (cns_dt0 h2)
    refine (?_ : tSeq _ _ _ [some (.ref b), some (.ref fo), some (.int m), some (.ref R), some (.ref D), some (.ref C), some (.ref L), none, none, none, none, none] _)
    refine ⟨2, rfl, by decide, by decide, for_range (fun j σ H' => ∃ v7 v8 v9 v10 v11, σ = [some (.ref b), some (.ref fo), some (.int m), some (.ref R), some (.ref D), some (.ref C), some (.ref L), v7, v8, v9, v10, v11] ∧ Same Hb H') ⟨_, _, _, _, _, rfl, Same.refl _⟩ ?_ ?_⟩
    · rintro j σ H1 hj ⟨v7, v8, v9, v10, v11, rfl, s1⟩
      refine ⟨_, rfl, _, rfl, L, _, _, _, rfl, rfl, SqL.of (s1 _ _ hLb), atI_nat (j := 0) rfl, fo, cols, r, rfl, hfb.frm (.of_same s1 : Frm [] _ _), hco, hrk, fun p1 H2 s2 hp1 => ⟨_, rfl, ?_⟩⟩
      have s12 := s1.trans s2
      refine neD_same (dR hp1) (dR (s12 _ _ hRb)) eR (by decide) ⟨_, rfl, iteF ?_⟩
      refine ⟨_, rfl, _, rfl, L, _, _, _, rfl, rfl, SqL.of (s12 _ _ hLb), atI_nat (j := 1) rfl, fo, cols, kd, ws, rfl, hfb.frm (.of_same s12 : Frm [] _ _), hco, hdk, fun p2 H3' s3 hp2 => ⟨_, rfl, ?_⟩⟩
      have s13 := s12.trans s3
      refine neD_same (dD hp2) (dD (des_frm hDb s13)) eD (by decide) ⟨_, rfl, iteF (nextK ?_)⟩
      refine ⟨_, rfl, _, rfl, L, _, _, _, rfl, rfl, SqL.of (s13 _ _ hLb), atI_nat (j := 2) rfl, fo, cols, cs, rfl, hfb.frm (.of_same s13 : Frm [] _ _), hco, hcs, fun p3 H4 s4 hp3 => ⟨_, rfl, ?_⟩⟩
      have s14 := s13.trans s4
      refine neD_same (dC hp3) (dC (hCb.frm (.of_same s14 : Frm [] _ _))) eC (by decide) ⟨_, rfl, iteF (nextK ?_)⟩
      exact ⟨_, _, _, _, _, rfl, s14⟩
    · rintro σ H1 ⟨v7, v8, v9, v10, v11, rfl, s1⟩
      refine ⟨_, rfl, _, rfl, L, _, _, _, rfl, rfl, SqL.of (s1 _ _ hLb), atI_nat (j := 0) rfl, fo, cols, r, rfl, hfb.frm (.of_same s1 : Frm [] _ _), hco, hrk, fun p1 H2 s2 hp1 => ?_⟩
      have s12 := s1.trans s2
      have E2 := Eb.same s12
      have hf2 := hfb.frm (.of_same s12 : Frm [] _ _)
      obtain ⟨ts, ea, lt, ft⟩ := id hf2.ex
      try dsimp only [gName]
      refine (?_ : tRet _ _ [some (.ref b), some (.ref fo), some (.int m), some (.ref R), some (.ref D), some (.ref C), some (.ref L), v7, some (.ref p1), v9, v10, v11] _)
      refine ⟨_, rfl, _, rfl, (false, p1), (false, fo), _, _, rfl, SqS.tup hp1, SqS.tup ea, fun Z hZ => ?_⟩
      refine lc_zip2_map (K := K) (c1 := (false, p1)) (c2 := (false, fo)) hZ (fun i => V.bl true) (SqS.tup hp1) (SqS.tup ea) (by rw [List.length_map]; omega) (fun i x y T H3 R F hx hy s3 eT hR => ?_) ?_
      · rw [List.getElem?_map] at hx hy
        obtain ⟨q, hq, rfl⟩ := Option.map_eq_some_iff.mp hx
        obtain ⟨t, ht, rfl⟩ := Option.map_eq_some_iff.mp hy
        have hi : i < cols.length := by rw [← lt]; exact (List.getElem?_eq_some_iff.mp ht).1
        have hci : cols[i]? = some cols[i] := by simp [hi]
        have et := s3 _ _ (ft i t _ ht hci)
        have hkq : kindOf q = cols[i].2 := by
          have e := congrArg (fun l => l[i]?) hrk.1
          simp only [List.getElem?_map, hq, hci, Option.map_some] at e
          exact Option.some.inj e
        have hqo := hrk.2 q (List.mem_of_getElem? hq)
        generalize cols[i] = c at et hkq
        obtain ⟨w, kd2⟩ := c
        refine ⟨T, _, rfl, SqT.of eT, rfl, _, _, rfl, _, _, rfl, t, _, rfl, SqT.of et, rfl, _, _, rfl, _, _, rfl, rfl, rfl, rfl, ?_⟩
        have e : instB H3 (kV q) "int" = decide (V.str kd2 = V.str "number") := by
          have hkq : kindOf q = kd2 := hkq
          subst hkq
          cases q with
          | inl i => rfl
          | inr x => rfl
        refine ⟨_, rfl, _, _, rfl, key_tyd H3 hqo, rfl, _, rfl, rfl, rfl, ?_⟩
        show R (V.bl (decide (V.bl (instB H3 (kV q) "int") = V.bl (decide (V.str kd2 = V.str "number"))))) H3
        rw [e, decide_eq_true rfl]
        exact hR H3 (Same.refl _)
      · intro H3 s3 hZ3
        refine ⟨Z, (List.range (min (r.map kV).length (ts.map V.ref).length)).map fun _ => true, rfl, SqL.of (by rw [hZ3, List.map_map]; rfl), ?_⟩
        rw [show ((List.range (min (r.map kV).length (ts.map V.ref).length)).map fun _ => true).all id = true from List.all_eq_true.mpr fun b hb => by obtain ⟨_, _, rfl⟩ := List.mem_map.mp hb; rfl]
        exact k _ (E2.same s3)
theorem sc_law : FnScope ["_law_script", "_law_k", "_law_bag_here", "_law_form_here", "_law_wide", "_law_words", "_law_far", "_law_name", "_law_sort", "_law_turn"] ["_law_script"] (defScope s_law) := ⟨rfl, rfl, rfl, by decide +kernel, rfl, by decide +kernel, by decide +kernel⟩
noncomputable def sp_law (K : PySem.W.Frag) : Sp := fun vs H Q _ => ∃ (a : Addr) (ns : List Int), vs = [.ref a] ∧ SqL K H a (ns.map V.int) ∧ ns.length ≤ 63 ∧ ∀ H', Q (.bl true) H'
set_option maxHeartbeats 8000000 in
theorem ok_law {fa : Addr} {fd : FuncData} (T : Txt K mg w t_FIGURES a_KINDS a_MOST_BY_KIND t_MOST_COLUMNS t_MOST_CONDITIONS t_MOST_FIGURES t_MOST_LETTERS t_MOST_NUMBER t_NONE) (D : Def K mg "law" s_law fa fd) : FnOk P w K mg base CX0 8 fa fd ["_law_script"] (sp_law K) := by
  obtain ⟨fa_law_bag, fd_law_bag, D_law_bag⟩ := T.d_law_bag
  have G_law_bag := ok_law_bag (P := P) (w := w) (base := base) T D_law_bag
  have b_law_bag := D_law_bag.fn.binds (ps := ["_law_script", "_law_at"]) fun _ _ _ _ _ _ us hl => match us, hl with | [_, _], _ => rfl
  obtain ⟨fa_law_take, fd_law_take, D_law_take⟩ := T.d_law_take
  have G_law_take := ok_law_take (P := P) (w := w) (base := base) T D_law_take
  have b_law_take := D_law_take.fn.binds (ps := ["_law_bag_here", "_law_many"]) fun _ _ _ _ _ _ us hl => match us, hl with | [_, _], _ => rfl
  obtain ⟨fa_law_form, fd_law_form, D_law_form⟩ := T.d_law_form
  have G_law_form := ok_law_form (P := P) (w := w) (base := base) T D_law_form
  have b_law_form := D_law_form.fn.binds (ps := ["_law_bag_here"]) fun _ _ _ _ _ _ us hl => match us, hl with | [_], _ => rfl
  obtain ⟨fa_show_form, fd_show_form, D_show_form⟩ := T.d_show_form
  have G_show_form := ok_show_form (P := P) (w := w) (base := base) T D_show_form
  have b_show_form := D_show_form.fn.binds (ps := ["form"]) fun _ _ _ _ _ _ us hl => match us, hl with | [_], _ => rfl
  obtain ⟨fa_read_form, fd_read_form, D_read_form⟩ := T.d_read_form
  have G_read_form := ok_read_form (P := P) (w := w) (base := base) T D_read_form
  have b_read_form := D_read_form.fn.binds (ps := ["text"]) fun _ _ _ _ _ _ us hl => match us, hl with | [_], _ => rfl
  obtain ⟨fa_law_show_form, fd_law_show_form, D_law_show_form⟩ := T.d_law_show_form
  have G_law_show_form := ok_law_show_form (P := P) (w := w) (base := base) T D_law_show_form
  have b_law_show_form := D_law_show_form.fn.binds (ps := ["_law_form_here"]) fun _ _ _ _ _ _ us hl => match us, hl with | [_], _ => rfl
  obtain ⟨fa_read_row, fd_read_row, D_read_row⟩ := T.d_read_row
  have G_read_row := ok_read_row (P := P) (w := w) (base := base) T D_read_row
  have b_read_row := D_read_row.fn.binds (ps := ["form", "text"]) fun _ _ _ _ _ _ us hl => match us, hl with | [_, _], _ => rfl
  obtain ⟨fa_show_row, fd_show_row, D_show_row⟩ := T.d_show_row
  have G_show_row := ok_show_row (P := P) (w := w) (base := base) T D_show_row
  have b_show_row := D_show_row.fn.binds (ps := ["row"]) fun _ _ _ _ _ _ us hl => match us, hl with | [_], _ => rfl
  obtain ⟨fa_law_right, fd_law_right, D_law_right⟩ := T.d_law_right
  have G_law_right := ok_law_right (P := P) (w := w) (base := base) T D_law_right
  have b_law_right := D_law_right.fn.binds (ps := ["_law_bag_here", "_law_form_here", "_law_wide"]) fun _ _ _ _ _ _ us hl => match us, hl with | [_, _, _], _ => rfl
  obtain ⟨fa_show_conditions, fd_show_conditions, D_show_conditions⟩ := T.d_show_conditions
  have G_show_conditions := ok_show_conditions (P := P) (w := w) (base := base) T D_show_conditions
  have b_show_conditions := D_show_conditions.fn.binds (ps := ["conditions"]) fun _ _ _ _ _ _ us hl => match us, hl with | [_], _ => rfl
  have kb_read_row_0 : KBinds K fd_read_row ["form", "text"] ["text"] (fun us ws => match us, ws with | [u0], [w0] => [u0, w0] | _, _ => []) (fun us ws => match us, ws with | [u0], [w0] => [u0, w0] | _, _ => []) := by
    obtain ⟨oc, od, kV, doc, pm, an, cdv, ct, osl, rfl, lk, hcd⟩ := D_read_row.fn.ex
    refine ⟨fun s us ws X hl => ?_, fun {vs us zs ws} r1 r2 => ?_⟩
    · rcases us with _ | ⟨u0, _ | ⟨_, _⟩⟩ <;> rcases ws with _ | ⟨w0, _ | ⟨_, _⟩⟩ <;> first | (cases hl; done) | exact .of_eq rfl
    · rcases r1 with _ | ⟨u0, _ | ⟨ux, uy⟩⟩ <;> rcases r2 with _ | ⟨w0, _ | ⟨wx, wy⟩⟩ <;> first | exact .nil | exact (.cons u0 (.cons w0 .nil))
  have kb_read_form_1 : KBinds K fd_read_form ["text"] ["text"] (fun us ws => match us, ws with | [], [w0] => [w0] | _, _ => []) (fun us ws => match us, ws with | [], [w0] => [w0] | _, _ => []) := by
    obtain ⟨oc, od, kV, doc, pm, an, cdv, ct, osl, rfl, lk, hcd⟩ := D_read_form.fn.ex
    refine ⟨fun s us ws X hl => ?_, fun {vs us zs ws} r1 r2 => ?_⟩
    · rcases us with _ | ⟨_, _⟩ <;> rcases ws with _ | ⟨w0, _ | ⟨_, _⟩⟩ <;> first | (cases hl; done) | exact .of_eq rfl
    · rcases r1 with _ | ⟨ux, uy⟩ <;> rcases r2 with _ | ⟨w0, _ | ⟨wx, wy⟩⟩ <;> first | exact .nil | exact (.cons w0 .nil)
  refine D.fn.ok sc_law (fun vs H Q E h => ?_) (fun cdv A outer s H vs Q E hr h => ?_)
  · obtain ⟨a, ns, rfl, _⟩ := h
    rfl
  ·
    have r_law_bag : Room 1 _ := hr.mono (by decide)
    have r_law_take : Room 1 _ := hr.mono (by decide)
    have r_law_form : Room 3 _ := hr.mono (by decide)
    have r_show_form : Room 1 _ := hr.mono (by decide)
    have r_read_form : Room 4 _ := hr.mono (by decide)
    have r_law_show_form : Room 1 _ := hr.mono (by decide)
    have r_read_row : Room 4 _ := hr.mono (by decide)
    have r_show_row : Room 1 _ := hr.mono (by decide)
    have r_law_right : Room 7 _ := hr.mono (by decide)
    have r_show_conditions : Room 3 _ := hr.mono (by decide)
    obtain ⟨a, ns, rfl, hS, hl, k⟩ := h
    refine ⟨_, (pss_cons (ps_for PassesOwn.never rfl (pi_range1 (by rfl) T.z_range (pa_cons (pe_callB (call_max2 rfl) (by rfl) T.z_max bt_max (pa_cons pe_int (pa_cons (pe_callB (call_min2 rfl) (by rfl) T.z_min bt_min (pa_cons pe_int (pa_cons (pe_callB call_len_seq (by rfl) T.z_len bt_len (pa_cons (pv 0) pa_nil)) pa_nil))) pa_nil))) pa_nil)) (pg_name (i := 1) sc_law.nd rfl (by first | exact Or.inl rfl | exact Or.inr rfl))
      (pss_cons (ps_asg (pe_call G_law_bag r_law_bag (by rfl) D_law_bag.mg D_law_bag.fn.kp b_law_bag .nil pass0 (pa_cons (pv 0) (pa_cons (pv 1) pa_nil))) (pg_name (i := 2) sc_law.nd rfl (by first | exact Or.inl rfl | exact Or.inr rfl)))
    (pss_cons (ps_asg (pe_tup (pa_cons (pe_call G_law_form r_law_form (by rfl) D_law_form.mg D_law_form.fn.kp b_law_form .nil pass0 (pa_cons (pv 2) pa_nil)) (pa_cons (pe_ix ix_tup (pe_tup (pa_cons pe_int (pa_cons pe_int (pa_cons pe_int (pa_cons pe_int pa_nil))))) (pe_call G_law_take r_law_take (by rfl) D_law_take.mg D_law_take.fn.kp b_law_take .nil pass0 (pa_cons (pv 2) (pa_cons pe_int pa_nil))) (fun _ _ => rfl)) pa_nil))) (pg_tupK (K := K) (n := 2) (by rfl) (pgs_cons (pg_name (i := 3) sc_law.nd rfl (by first | exact Or.inl rfl | exact Or.inr rfl)) (pgs_cons (pg_name (i := 4) sc_law.nd rfl (by first | exact Or.inl rfl | exact Or.inr rfl)) pgs_nil))))
    (pss_cons (ps_asg (pe_call G_show_form r_show_form (by rfl) D_show_form.mg D_show_form.fn.kp b_show_form .nil pass0 (pa_cons (pv 3) pa_nil)) (pg_name (i := 5) sc_law.nd rfl (by first | exact Or.inl rfl | exact Or.inr rfl)))
    (pss_cons (ps_if (PW.pt (pw_or (pt_cmpR op_ne (pv 5) (pe_call G_law_show_form r_law_show_form (by rfl) D_law_show_form.mg D_law_show_form.fn.kp b_law_show_form .nil pass0 (pa_cons (pv 3) pa_nil)) (nomark _)) (pw_or1 (pt_cmpR (op_neD hr.units) (pe_call G_read_form r_read_form (by rfl) D_read_form.mg D_read_form.fn.kp b_read_form .nil pass0 (pa_cons (pv 5) pa_nil)) (pv 3) (nomark _)))))
      (pss_one (ps_ret pe_bl))
      pss_nil)
    (pss_cons (ps_asg (pe_callTy call_tuple_of (by rfl) T.z_tuple bt_tuple (pa_cons (pe_lc (own := [("_law_name", 7), ("_law_sort", 8)]) (by rfl) sc_law.nd (pi_tup (pv 3)) (blkOk_by (own := [("_law_name", 7), ("_law_sort", 8)]) (N := ["_law_script", "_law_k", "_law_bag_here", "_law_form_here", "_law_wide", "_law_words", "_law_far", "_law_name", "_law_sort", "_law_turn"]) (sc := defScope s_law) (by decide +kernel))
        (fun _ _ _ _ _ => (pg_tupK (K := K) (n := 2) (by rfl) (pgs_cons (pg_name (i := 7) sc_law.nd rfl (by first | exact Or.inl rfl | exact Or.inr rfl)) (pgs_cons (pg_name (i := 8) sc_law.nd rfl (by first | exact Or.inl rfl | exact Or.inr rfl)) pgs_nil)))) (fun _ _ _ _ _ => pts_nil)
        (fun _ _ _ _ _ => (pe_ifExp (pt_cmpR op_eq (pv 8) pe_str (nomark _)) (pe_ix (ix_tupK (K := K)) (pe_tup (pa_cons (pe_un un_neg pe_int) (pa_cons pe_int (pa_cons pe_int pa_nil)))) (pe_call G_law_take r_law_take (by rfl) D_law_take.mg D_law_take.fn.kp b_law_take .nil pass0 (pa_cons (pv 2) (pa_cons pe_int pa_nil))) (fun _ _ => rfl)) (pe_op op_rep_strA pe_str pe_int)))) pa_nil)) (pg_name (i := 6) sc_law.nd rfl (by first | exact Or.inl rfl | exact Or.inr rfl)))
    (pss_cons (ps_if (pt_cmpR (op_neD hr.units) (pe_callK G_read_row r_read_row (by rfl) D_read_row.mg D_read_row.fn.kp kb_read_row_0 pass0 (pa_cons (pe_callK0 G_read_form r_read_form (by rfl) D_read_form.mg D_read_form.fn.kp kb_read_form_1 pass0 (pk_cons (pv 5) pk_nil)) pa_nil) (pk_cons (pe_call G_show_row r_show_row (by rfl) D_show_row.mg D_show_row.fn.kp b_show_row .nil pass0 (pa_cons (pv 6) pa_nil)) pk_nil)) (pv 6) (nomark _))
      (pss_one (ps_ret pe_bl))
      pss_nil)
    (pss_one (ps_if (pt_not (pt_val (pe_callB (cr_all rfl) (by rfl) T.z_all bt_all (pa_cons (pe_lc (own := [("_law_turn", 9)]) (g := gName 9) (by rfl) sc_law.nd (pi_range1 (by rfl) T.z_range (pa_cons pe_int pa_nil)) (blkOk_by (own := [("_law_turn", 9)]) (N := ["_law_script", "_law_k", "_law_bag_here", "_law_form_here", "_law_wide", "_law_words", "_law_far", "_law_name", "_law_sort", "_law_turn"]) (sc := defScope s_law) (by decide +kernel))
        (fun _ _ _ _ _ => (pg_name (i := 9) sc_law.nd rfl (by first | exact Or.inl rfl | exact Or.inr rfl))) (fun _ _ _ _ _ => pts_nil)
        (fun _ _ _ _ _ => (pe_call G_law_right r_law_right (by rfl) D_law_right.mg D_law_right.fn.kp b_law_right .nil pass0 (pa_cons (pv 2) (pa_cons (pv 3) (pa_cons (pv 4) pa_nil)))))) pa_nil))))
      (pss_one (ps_ret pe_bl))
      pss_nil)))))))))
    (pss_one (ps_ret (pe_cmpR op_eq (pe_call G_show_conditions r_show_conditions (by rfl) D_show_conditions.mg D_show_conditions.fn.kp b_show_conditions .nil pass0 (pa_cons (pe_tup pa_nil) pa_nil)) pe_str (nomark _))))), ?_⟩
    have hlen : ((ns.map V.int).length : Int) ≤ 63 := by rw [List.length_map]; omega
    refine ⟨_, rfl, a, _, rfl, .inl hS, _, _, rfl, _, _, rfl, _, rfl, ?_, ?_, for_range (fun i σ H2 => ∃ v1 v2 v3 v4 v5 v6 v7 v8 v9, σ = [some (.ref a), v1, v2, v3, v4, v5, v6, v7, v8, v9] ∧ Same H H2) ⟨none, none, none, none, none, none, none, none, none, rfl, Same.refl _⟩ ?_ ?_⟩
    · split <;> split <;> omega
    · split <;> split <;> omega
    · rintro i σ H2 hi ⟨v1, v2, v3, v4, v5, v6, v7, v8, v9, rfl, s2⟩
      have hi' : i < 100 := by
        refine Nat.lt_of_lt_of_le hi ?_
        split <;> split <;> omega
      refine ⟨_, rfl, _, rfl, a, ns, _, rfl, s2.seq hS, hl, by omega, by omega, fun b H3 hb s3 g3 => ?_⟩
      refine ⟨_, rfl, b, rfl, g3, fun fo cols H4 fm hco e4 => ?_⟩
      refine ⟨by show 4 ≤ sizeLine; decide, fun q hq => ⟨_, rfl, b, 4, rfl, e4.1.same (same_new hq), by decide, by decide, fun r H5 r0 r1 e5 => ?_⟩⟩
      have nq : q ≠ b := (e4.1.ne hq).symm
      obtain ⟨_, ev, m, rfl, hm⟩ := wide_at r0 r1
      have e45 := (e4.1.eff (same_new (o := HO.tup [V.int 2, V.int 5, V.int 12, V.int 1500]) hq)).trans e5
      refine ⟨q, _, _, _, rfl, rfl, SqT.of (e5.2 q _ nq upd_same), ev, by show 2 ≤ sizeLine; decide, fun T hT => ?_⟩
      have sT := same_new (o := HO.tup [V.ref fo, V.int m]) hT
      have fm5 := (fm.eff e4.1 e45).same sT
      have E35 := (e4.trans e45).same sT
      refine ⟨T, _, rfl, SqT.of upd_same, rfl, _, _, rfl, _, _, rfl, rfl, ?_⟩
      generalize upd H5 T (HO.tup [V.ref fo, V.int m]) = H5 at fm5 E35 ⊢
      clear e5 e45 e4 fm ev hq sT hT
      dsimp only
      refine (?_ : tSeq _ _ _ [some (.ref a), some (.int (0 + (i : Int))), some (.ref b), some (.ref fo), some (.int m), v5, v6, v7, v8, v9] _)
      refine ⟨_, rfl, fo, cols, rfl, fm5, hco, fun H6 s6 => ?_⟩
      try dsimp only [gName]
      refine (?_ : tSeq _ _ _ [some (.ref a), some (.int (0 + (i : Int))), some (.ref b), some (.ref fo), some (.int m), some (.str (formS cols)), v6, v7, v8, v9] _)
      have fm6 := fm5.same s6
      have fm8d : ∀ {H' : Hp}, Eff b H5 H' → FormAt H' fo cols := fun e => fm5.eff E35.1 e
      refine ⟨_, rfl, _, rfl, fo, cols, rfl, fm6, hco, fun H7 s7 => ⟨rfl, _, rfl, ?_⟩⟩
      rw [show (!decide (V.str (formS cols) = V.str (formS cols))) = false by rw [decide_eq_true rfl]; rfl]
      refine iteF ?_
      refine ⟨_, rfl, cols, rfl, hco, fun f2 H8 s8 hf2 => ⟨_, rfl, ?_⟩⟩
      have s58 := (s6.trans s7).trans s8
      have fm8 := fm5.same s58
      refine neD_same hf2.dt fm8.dt (form_eas hco) (by decide) ⟨_, rfl, iteF (nextK ?_)⟩
      have E38 := E35.same s58
      have E58 := E35.1.eff s58
      obtain ⟨ts, ea, lt, ft⟩ := id fm8.ex
      have h6 := hco.c6
      have h1 := hco.c1
      have neb : ∀ {c : Addr} {xs : List V}, H8 c = some (.tup xs) → c ≠ b := fun h => E38.1.neT h
      refine (?_ : tSeq _ _ _ [some (.ref a), some (.int (0 + (i : Int))), some (.ref b), some (.ref fo), some (.int m), some (.str (formS cols)), v6, v7, v8, v9] _)
      refine ⟨_, rfl, fo, rfl, ⟨_, SqT.of ea⟩, fun D hD => ?_⟩
      have nD : D ≠ b := (E38.1.ne hD).symm
      refine lc_tup (xs := ts.map V.ref) (fun i H' => Eff b H8 H' ∧ ∃ r : List Key, H' D = some (.lst (r.map kV)) ∧ r.map kindOf = (cols.take i).map (·.2) ∧ ∀ k ∈ r, keyOk k) ⟨E38.1.eff (same_new hD), [], upd_same, rfl, (fun k h => nomatch h)⟩ (fun i H' _ ⟨e, _⟩ => SqT.of (e.2 _ _ (neb ea) ea)) ?_ ?_
      · rintro j x H1 hx ⟨e1, r, hD1, hk, hok⟩
        rw [List.getElem?_map] at hx
        obtain ⟨t, ht, rfl⟩ := Option.map_eq_some_iff.mp hx
        have hi : j < cols.length := by rw [← lt]; exact (List.getElem?_eq_some_iff.mp ht).1
        have hci : cols[j]? = some cols[j] := by simp [hi]
        have etc := ft j t _ ht hci
        have hck := hco.kd _ (List.mem_of_getElem? hci)
        generalize cols[j] = c at etc hck hci
        obtain ⟨w, kd⟩ := c
        have rl : r.length ≤ j := by
          have := congrArg List.length hk
          rw [List.length_map, List.length_map, List.length_take] at this
          omega
        have nx : ∀ (q : Key) (H2 : Hp), kindOf q = kd → keyOk q → Eff b H1 H2 → ∃ acc, H2 D = some (.lst acc) ∧ acc.length < sizeLine ∧ Eff b H8 (upd H2 D (.lst (acc ++ [kV q]))) ∧ ∃ r : List Key, (upd H2 D (.lst (acc ++ [kV q]))) D = some (.lst (r.map kV)) ∧ r.map kindOf = (cols.take (j + 1)).map (·.2) ∧ ∀ k ∈ r, keyOk k := fun q H2 hq ho e2 => by
          refine ⟨_, e2.2 _ _ nD hD1, by rw [List.length_map]; exact lt_line (by omega), (e1.trans e2).put E38.1 hD, r ++ [q], by rw [upd_same, List.map_append]; rfl, ?_, fun k hk' => ?_⟩
          · rw [List.map_append, hk, List.take_succ, hci, List.map_append]
            show _ ++ [kindOf q] = _ ++ [kd]
            rw [hq]
          · rcases List.mem_append.mp hk' with h | h
            · exact hok k h
            · rw [List.mem_singleton.mp h]; exact ho
        refine ⟨t, _, rfl, SqT.of (e1.2 _ _ (neb etc) etc), rfl, _, _, rfl, _, _, rfl, rfl, rfl, ?_⟩
        refine ⟨_, rfl, rfl, _, rfl, ?_⟩
        rcases hck with hck | hck
        · have hck : kd = "number" := hck
          subst hck
          refine iteT ⟨_, rfl, by show 3 ≤ sizeLine; decide, fun q hq => ⟨_, rfl, b, 3, rfl, e1.1.same (same_new hq), by decide, by decide, fun r2 H2 r20 r21 e2 => ?_⟩⟩
          have nq : q ≠ b := (e1.1.ne hq).symm
          obtain ⟨_, ev, z, rfl, hz⟩ := at_all (xs := [V.int (-999), V.int 999, V.int 0]) (fun v => ∃ z : Int, v = .int z ∧ -999 ≤ z ∧ z ≤ 999) (fun v hv => by
            simp only [List.mem_cons, List.not_mem_nil, or_false] at hv
            rcases hv with rfl | rfl | rfl <;> exact ⟨_, rfl, by decide, by decide⟩) r20 r21
          refine ⟨q, _, _, _, rfl, rfl, SqT.of (e2.2 q _ nq upd_same), ev, ?_⟩
          exact nx (.inl z) H2 rfl hz ((e1.1.eff (same_new (o := HO.tup [V.int (-999), V.int 999, V.int 0]) hq)).trans e2)
        · have hck : kd = "word" := hck
          subst hck
          refine iteF ⟨"z", 8, rfl, rfl, by decide, by decide, by decide +kernel, by decide +kernel, ?_⟩
          exact nx (.inr _) H1 rfl ⟨by decide +kernel, by decide +kernel, by decide +kernel⟩ (e1.1.eff (Same.refl _))
      · rintro H1 ⟨e1, r, hD1, hk, hok⟩
        rw [List.length_map, lt, List.take_length] at hk
        refine ⟨D, _, rfl, .inl ⟨SqL.of hD1, fun u hu => ?_⟩⟩
        have hrk : RowK cols r := ⟨hk, hok⟩
        have s2' := same_new (o := HO.tup (r.map kV)) hu
        have hu2 : upd H1 u (HO.tup (r.map kV)) u = some (.tup (r.map kV)) := upd_same
        have E3a := (E38.trans e1).same s2'
        have E5a := (E58.trans e1).same s2'
        generalize upd H1 u (HO.tup (r.map kV)) = Ha at hu2 E3a E5a ⊢
        clear s2' hu hD1 e1 hk hok
        try dsimp only [gName]
        refine (?_ : tSeq _ _ _ [some (.ref a), some (.int (0 + (i : Int))), some (.ref b), some (.ref fo), some (.int m), some (.str (formS cols)), some (.ref u), v7, v8, v9] _)
        have rl := hrk.len
        refine ⟨_, rfl, cols, rfl, hco, fun f3 Hb sb hf3 => ?_⟩
        refine ⟨_, rfl, u, r, rfl, sb _ _ hu2, hrk.2, by omega, fun Hc sc => ?_⟩
        refine ⟨f3, cols, r, rfl, hf3.same sc, hco, hrk, fun p3 Hd sd hp3 => ⟨_, rfl, ?_⟩⟩
        have sad := (sb.trans sc).trans sd
        have E3d := E3a.same sad
        have fmd : FormAt Hd fo cols := fm8d (E5a.same sad)
        have dR : ∀ {H : Hp} {p : Addr}, H p = some (.tup (r.map kV)) → Dt H (.ref p) (.tuple (r.map dK)) := fun h => .tup h (rowDt r)
        refine neD_same (dR hp3) (dR (sad _ _ hu2)) (rowE hrk (by omega)) (by decide) ⟨_, rfl, iteF (nextK ?_)⟩
        dsimp only
        refine ⟨3, rfl, by decide, by decide, fun Z hZ => ?_⟩
        have nZ : Z ≠ b := (E3d.1.ne hZ).symm
        refine lc_range (fun i H => Eff b Hd H ∧ H Z = some (.lst ((List.range i).map fun _ => V.bl true))) ⟨E3d.1.eff (same_new hZ), upd_same⟩ ?_ ?_
        · rintro j He hj ⟨ee, hZe⟩
          have hj3 : j < 3 := hj
          refine ⟨rfl, ?_⟩
          refine ⟨_, rfl, _, rfl, _, rfl, b, fo, cols, m, rfl, ee.1, fmd.eff E3d.1 ee, hco, hm, fun Hf ef => ⟨_, ef.2 _ _ nZ hZe, by rw [List.length_map, List.length_range]; exact lt_line (by omega), (ee.trans ef).put E3d.1 hZ, ?_⟩⟩
          rw [upd_same, List.range_succ, List.map_append]
          rfl
        · rintro He ⟨ee, hZe⟩
          refine ⟨Z, (List.range 3).map fun _ => true, rfl, SqL.of (by rw [List.map_map]; exact hZe), _, rfl, ?_⟩
          rw [show ((List.range 3).map fun _ => true).all id = true from rfl]
          exact iteF (nextK ⟨_, _, _, _, _, _, _, _, _, rfl, same_eff (s2.trans s3) (s2.free hb) (E3d.trans ee)⟩)
    · rintro σ H2 ⟨v1, v2, v3, v4, v5, v6, v7, v8, v9, rfl, s2⟩
      refine ⟨by show 0 ≤ sizeLine; decide, fun p hp => ⟨p, [], rfl, ⟨[], upd_same, .nil⟩, (fun c h => nomatch h), Nat.zero_le _, fun H3 s3 => ⟨rfl, ?_⟩⟩⟩
      rw [show decide (V.str (condsS []) = V.str "-") = true from decide_eq_true rfl]
      exact k _
end
set_option maxRecDepth 100000 in
theorem all_mk {l : PySem.W.OpenLaw} {w : World} {K : PySem.W.Frag} {h : Heap} {mg : Str → Option Value} {fa : Addr} (X : K.In h) (G : h.Ns mainGlobals mg) (hfa : mg "law" = some (.ref fa))
    {t_FIGURES : Tok}
    {a_KINDS : Addr}
    {qd_KINDS : Option Addr} {qn_KINDS : Nat} {qs_KINDS : Array (Option Value)} {qt_KINDS_0 : Tok} {qt_KINDS_1 : Tok}
    {a_MOST_BY_KIND : Addr} {mn_MOST_BY_KIND : Nat}
    {kt_MOST_BY_KIND_0 vt_MOST_BY_KIND_0 : Tok} {kt_MOST_BY_KIND_1 vt_MOST_BY_KIND_1 : Tok} {kt_MOST_BY_KIND_2 vt_MOST_BY_KIND_2 : Tok}
    {t_MOST_COLUMNS : Tok}
    {t_MOST_CONDITIONS : Tok}
    {t_MOST_FIGURES : Tok}
    {t_MOST_LETTERS : Tok}
    {t_MOST_NUMBER : Tok}
    {t_NONE : Tok}
    {f0 : Addr} {od0 an0 : Option Addr} {sl0 : Array (Option Value)} {oc0 kV0 dc0 pm0 cd0 ct0 : Value}
    {f1 : Addr} {od1 an1 : Option Addr} {sl1 : Array (Option Value)} {oc1 kV1 dc1 pm1 cd1 ct1 : Value}
    {f2 : Addr} {od2 an2 : Option Addr} {sl2 : Array (Option Value)} {oc2 kV2 dc2 pm2 cd2 ct2 : Value}
    {f3 : Addr} {od3 an3 : Option Addr} {sl3 : Array (Option Value)} {oc3 kV3 dc3 pm3 cd3 ct3 : Value}
    {f4 : Addr} {od4 an4 : Option Addr} {sl4 : Array (Option Value)} {oc4 kV4 dc4 pm4 cd4 ct4 : Value}
    {f5 : Addr} {od5 an5 : Option Addr} {sl5 : Array (Option Value)} {oc5 kV5 dc5 pm5 cd5 ct5 : Value}
    {f6 : Addr} {od6 an6 : Option Addr} {sl6 : Array (Option Value)} {oc6 kV6 dc6 pm6 cd6 ct6 : Value}
    {f7 : Addr} {od7 an7 : Option Addr} {sl7 : Array (Option Value)} {oc7 kV7 dc7 pm7 cd7 ct7 : Value}
    {f8 : Addr} {od8 an8 : Option Addr} {sl8 : Array (Option Value)} {oc8 kV8 dc8 pm8 cd8 ct8 : Value}
    {f9 : Addr} {od9 an9 : Option Addr} {sl9 : Array (Option Value)} {oc9 kV9 dc9 pm9 cd9 ct9 : Value}
    {f10 : Addr} {od10 an10 : Option Addr} {sl10 : Array (Option Value)} {oc10 kV10 dc10 pm10 cd10 ct10 : Value}
    {f11 : Addr} {od11 an11 : Option Addr} {sl11 : Array (Option Value)} {oc11 kV11 dc11 pm11 cd11 ct11 : Value}
    {f12 : Addr} {od12 an12 : Option Addr} {sl12 : Array (Option Value)} {oc12 kV12 dc12 pm12 cd12 ct12 : Value}
    {f13 : Addr} {od13 an13 : Option Addr} {sl13 : Array (Option Value)} {oc13 kV13 dc13 pm13 cd13 ct13 : Value}
    {f14 : Addr} {od14 an14 : Option Addr} {sl14 : Array (Option Value)} {oc14 kV14 dc14 pm14 cd14 ct14 : Value}
    {f15 : Addr} {od15 an15 : Option Addr} {sl15 : Array (Option Value)} {oc15 kV15 dc15 pm15 cd15 ct15 : Value}
    {f16 : Addr} {od16 an16 : Option Addr} {sl16 : Array (Option Value)} {oc16 kV16 dc16 pm16 cd16 ct16 : Value}
    {f17 : Addr} {od17 an17 : Option Addr} {sl17 : Array (Option Value)} {oc17 kV17 dc17 pm17 cd17 ct17 : Value}
    {f18 : Addr} {od18 an18 : Option Addr} {sl18 : Array (Option Value)} {oc18 kV18 dc18 pm18 cd18 ct18 : Value}
    {f19 : Addr} {od19 an19 : Option Addr} {sl19 : Array (Option Value)} {oc19 kV19 dc19 pm19 cd19 ct19 : Value}
    {f20 : Addr} {od20 an20 : Option Addr} {sl20 : Array (Option Value)} {oc20 kV20 dc20 pm20 cd20 ct20 : Value}
    {f21 : Addr} {od21 an21 : Option Addr} {sl21 : Array (Option Value)} {oc21 kV21 dc21 pm21 cd21 ct21 : Value}
    {f22 : Addr} {od22 an22 : Option Addr} {sl22 : Array (Option Value)} {oc22 kV22 dc22 pm22 cd22 ct22 : Value}
    {f23 : Addr} {od23 an23 : Option Addr} {sl23 : Array (Option Value)} {oc23 kV23 dc23 pm23 cd23 ct23 : Value}
    {f24 : Addr} {od24 an24 : Option Addr} {sl24 : Array (Option Value)} {oc24 kV24 dc24 pm24 cd24 ct24 : Value}
    {f25 : Addr} {od25 an25 : Option Addr} {sl25 : Array (Option Value)} {oc25 kV25 dc25 pm25 cd25 ct25 : Value}
    {f26 : Addr} {od26 an26 : Option Addr} {sl26 : Array (Option Value)} {oc26 kV26 dc26 pm26 cd26 ct26 : Value}
    {f27 : Addr} {od27 an27 : Option Addr} {sl27 : Array (Option Value)} {oc27 kV27 dc27 pm27 cd27 ct27 : Value}
    {f28 : Addr} {od28 an28 : Option Addr} {sl28 : Array (Option Value)} {oc28 kV28 dc28 pm28 cd28 ct28 : Value}
    {f29 : Addr} {od29 an29 : Option Addr} {sl29 : Array (Option Value)} {oc29 kV29 dc29 pm29 cd29 ct29 : Value}
    {f30 : Addr} {od30 an30 : Option Addr} {sl30 : Array (Option Value)} {oc30 kV30 dc30 pm30 cd30 ct30 : Value}
    {f31 : Addr} {od31 an31 : Option Addr} {sl31 : Array (Option Value)} {oc31 kV31 dc31 pm31 cd31 ct31 : Value}
    {f32 : Addr} {od32 an32 : Option Addr} {sl32 : Array (Option Value)} {oc32 kV32 dc32 pm32 cd32 ct32 : Value}
    {f33 : Addr} {od33 an33 : Option Addr} {sl33 : Array (Option Value)} {oc33 kV33 dc33 pm33 cd33 ct33 : Value}
    {f34 : Addr} {od34 an34 : Option Addr} {sl34 : Array (Option Value)} {oc34 kV34 dc34 pm34 cd34 ct34 : Value}
    {f35 : Addr} {od35 an35 : Option Addr} {sl35 : Array (Option Value)} {oc35 kV35 dc35 pm35 cd35 ct35 : Value}
    {f36 : Addr} {od36 an36 : Option Addr} {sl36 : Array (Option Value)} {oc36 kV36 dc36 pm36 cd36 ct36 : Value}
    {f37 : Addr} {od37 an37 : Option Addr} {sl37 : Array (Option Value)} {oc37 kV37 dc37 pm37 cd37 ct37 : Value}
    {f38 : Addr} {od38 an38 : Option Addr} {sl38 : Array (Option Value)} {oc38 kV38 dc38 pm38 cd38 ct38 : Value}
    {f39 : Addr} {od39 an39 : Option Addr} {sl39 : Array (Option Value)} {oc39 kV39 dc39 pm39 cd39 ct39 : Value}
    {f40 : Addr} {od40 an40 : Option Addr} {sl40 : Array (Option Value)} {oc40 kV40 dc40 pm40 cd40 ct40 : Value}
    {f41 : Addr} {od41 an41 : Option Addr} {sl41 : Array (Option Value)} {oc41 kV41 dc41 pm41 cd41 ct41 : Value}
    {f42 : Addr} {od42 an42 : Option Addr} {sl42 : Array (Option Value)} {oc42 kV42 dc42 pm42 cd42 ct42 : Value}
    {f43 : Addr} {od43 an43 : Option Addr} {sl43 : Array (Option Value)} {oc43 kV43 dc43 pm43 cd43 ct43 : Value}
    {f44 : Addr} {od44 an44 : Option Addr} {sl44 : Array (Option Value)} {oc44 kV44 dc44 pm44 cd44 ct44 : Value}
    (g_FIGURES : PySem.W.nsIn K mainGlobals "FIGURES" = some (some (.str "0123456789" t_FIGURES)))
    (g_KINDS : PySem.W.nsIn K mainGlobals "KINDS" = some (some (.ref a_KINDS)))
    (q_KINDS : K.lookup a_KINDS = some ⟨.type "tuple", qd_KINDS, .seq #[.str "number" qt_KINDS_0, .str "word" qt_KINDS_1] qn_KINDS, qs_KINDS⟩)
    (g_MOST_BY_KIND : PySem.W.nsIn K mainGlobals "MOST_BY_KIND" = some (some (.ref a_MOST_BY_KIND)))
    (m_MOST_BY_KIND : K.lookup a_MOST_BY_KIND = some ⟨.type "dict", none, .dict #[⟨PyData.keyHash w.params "tree", .str "tree" kt_MOST_BY_KIND_0, .int 4 vt_MOST_BY_KIND_0⟩, ⟨PyData.keyHash w.params "hash", .str "hash" kt_MOST_BY_KIND_1, .int 3 vt_MOST_BY_KIND_1⟩, ⟨PyData.keyHash w.params "bits", .str "bits" kt_MOST_BY_KIND_2, .int 1 vt_MOST_BY_KIND_2⟩] mn_MOST_BY_KIND, #[]⟩)
    (ms_MOST_BY_KIND : (a_MOST_BY_KIND == sysModules) = false)
    (g_MOST_COLUMNS : PySem.W.nsIn K mainGlobals "MOST_COLUMNS" = some (some (.int 6 t_MOST_COLUMNS)))
    (g_MOST_CONDITIONS : PySem.W.nsIn K mainGlobals "MOST_CONDITIONS" = some (some (.int 6 t_MOST_CONDITIONS)))
    (g_MOST_FIGURES : PySem.W.nsIn K mainGlobals "MOST_FIGURES" = some (some (.int 3 t_MOST_FIGURES)))
    (g_MOST_LETTERS : PySem.W.nsIn K mainGlobals "MOST_LETTERS" = some (some (.int 8 t_MOST_LETTERS)))
    (g_MOST_NUMBER : PySem.W.nsIn K mainGlobals "MOST_NUMBER" = some (some (.int 999 t_MOST_NUMBER)))
    (g_NONE : PySem.W.nsIn K mainGlobals "NONE" = some (some (.str "-" t_NONE)))
    (z_abs : PySem.W.nsIn K mainGlobals "abs" = some none)
    (z_all : PySem.W.nsIn K mainGlobals "all" = some none)
    (z_bool : PySem.W.nsIn K mainGlobals "bool" = some none)
    (z_int : PySem.W.nsIn K mainGlobals "int" = some none)
    (z_isinstance : PySem.W.nsIn K mainGlobals "isinstance" = some none)
    (z_len : PySem.W.nsIn K mainGlobals "len" = some none)
    (z_list : PySem.W.nsIn K mainGlobals "list" = some none)
    (z_max : PySem.W.nsIn K mainGlobals "max" = some none)
    (z_min : PySem.W.nsIn K mainGlobals "min" = some none)
    (z_range : PySem.W.nsIn K mainGlobals "range" = some none)
    (z_set : PySem.W.nsIn K mainGlobals "set" = some none)
    (z_str : PySem.W.nsIn K mainGlobals "str" = some none)
    (z_tuple : PySem.W.nsIn K mainGlobals "tuple" = some none)
    (z_zip : PySem.W.nsIn K mainGlobals "zip" = some none)
    (a0 : PySem.W.nsIn K mainGlobals "column_names" = some (some (.ref f0)))
    (l0 : K.lookup f0 = some ⟨oc0, od0, .func (PySem.W.fnOf "column_names" "column_names" (defArgs s_column_names) (defBody s_column_names) (defScope s_column_names) .none kV0 dc0 pm0 an0 cd0 ct0), sl0⟩)
    (c0 : PySem.W.codeIn K cd0 "column_names" = true)
    (k0 : PySem.W.keepIn K (.ref f0) = true)
    (a1 : PySem.W.nsIn K mainGlobals "kind_of" = some (some (.ref f1)))
    (l1 : K.lookup f1 = some ⟨oc1, od1, .func (PySem.W.fnOf "kind_of" "kind_of" (defArgs s_kind_of) (defBody s_kind_of) (defScope s_kind_of) .none kV1 dc1 pm1 an1 cd1 ct1), sl1⟩)
    (c1 : PySem.W.codeIn K cd1 "kind_of" = true)
    (k1 : PySem.W.keepIn K (.ref f1) = true)
    (a2 : PySem.W.nsIn K mainGlobals "are_columns" = some (some (.ref f2)))
    (l2 : K.lookup f2 = some ⟨oc2, od2, .func (PySem.W.fnOf "are_columns" "are_columns" (defArgs s_are_columns) (defBody s_are_columns) (defScope s_are_columns) .none kV2 dc2 pm2 an2 cd2 ct2), sl2⟩)
    (c2 : PySem.W.codeIn K cd2 "are_columns" = true)
    (k2 : PySem.W.keepIn K (.ref f2) = true)
    (a3 : PySem.W.nsIn K mainGlobals "is_whole" = some (some (.ref f3)))
    (l3 : K.lookup f3 = some ⟨oc3, od3, .func (PySem.W.fnOf "is_whole" "is_whole" (defArgs s_is_whole) (defBody s_is_whole) (defScope s_is_whole) .none kV3 dc3 pm3 an3 cd3 ct3), sl3⟩)
    (c3 : PySem.W.codeIn K cd3 "is_whole" = true)
    (k3 : PySem.W.keepIn K (.ref f3) = true)
    (a4 : PySem.W.nsIn K mainGlobals "is_word" = some (some (.ref f4)))
    (l4 : K.lookup f4 = some ⟨oc4, od4, .func (PySem.W.fnOf "is_word" "is_word" (defArgs s_is_word) (defBody s_is_word) (defScope s_is_word) .none kV4 dc4 pm4 an4 cd4 ct4), sl4⟩)
    (c4 : PySem.W.codeIn K cd4 "is_word" = true)
    (k4 : PySem.W.keepIn K (.ref f4) = true)
    (a5 : PySem.W.nsIn K mainGlobals "is_value" = some (some (.ref f5)))
    (l5 : K.lookup f5 = some ⟨oc5, od5, .func (PySem.W.fnOf "is_value" "is_value" (defArgs s_is_value) (defBody s_is_value) (defScope s_is_value) .none kV5 dc5 pm5 an5 cd5 ct5), sl5⟩)
    (c5 : PySem.W.codeIn K cd5 "is_value" = true)
    (k5 : PySem.W.keepIn K (.ref f5) = true)
    (a6 : PySem.W.nsIn K mainGlobals "is_column" = some (some (.ref f6)))
    (l6 : K.lookup f6 = some ⟨oc6, od6, .func (PySem.W.fnOf "is_column" "is_column" (defArgs s_is_column) (defBody s_is_column) (defScope s_is_column) .none kV6 dc6 pm6 an6 cd6 ct6), sl6⟩)
    (c6 : PySem.W.codeIn K cd6 "is_column" = true)
    (k6 : PySem.W.keepIn K (.ref f6) = true)
    (a7 : PySem.W.nsIn K mainGlobals "is_form" = some (some (.ref f7)))
    (l7 : K.lookup f7 = some ⟨oc7, od7, .func (PySem.W.fnOf "is_form" "is_form" (defArgs s_is_form) (defBody s_is_form) (defScope s_is_form) .none kV7 dc7 pm7 an7 cd7 ct7), sl7⟩)
    (c7 : PySem.W.codeIn K cd7 "is_form" = true)
    (k7 : PySem.W.keepIn K (.ref f7) = true)
    (a8 : PySem.W.nsIn K mainGlobals "are_bounds" = some (some (.ref f8)))
    (l8 : K.lookup f8 = some ⟨oc8, od8, .func (PySem.W.fnOf "are_bounds" "are_bounds" (defArgs s_are_bounds) (defBody s_are_bounds) (defScope s_are_bounds) .none kV8 dc8 pm8 an8 cd8 ct8), sl8⟩)
    (c8 : PySem.W.codeIn K cd8 "are_bounds" = true)
    (k8 : PySem.W.keepIn K (.ref f8) = true)
    (a9 : PySem.W.nsIn K mainGlobals "is_condition" = some (some (.ref f9)))
    (l9 : K.lookup f9 = some ⟨oc9, od9, .func (PySem.W.fnOf "is_condition" "is_condition" (defArgs s_is_condition) (defBody s_is_condition) (defScope s_is_condition) .none kV9 dc9 pm9 an9 cd9 ct9), sl9⟩)
    (c9 : PySem.W.codeIn K cd9 "is_condition" = true)
    (k9 : PySem.W.keepIn K (.ref f9) = true)
    (a10 : PySem.W.nsIn K mainGlobals "are_conditions" = some (some (.ref f10)))
    (l10 : K.lookup f10 = some ⟨oc10, od10, .func (PySem.W.fnOf "are_conditions" "are_conditions" (defArgs s_are_conditions) (defBody s_are_conditions) (defScope s_are_conditions) .none kV10 dc10 pm10 an10 cd10 ct10), sl10⟩)
    (c10 : PySem.W.codeIn K cd10 "are_conditions" = true)
    (k10 : PySem.W.keepIn K (.ref f10) = true)
    (a11 : PySem.W.nsIn K mainGlobals "by_column" = some (some (.ref f11)))
    (l11 : K.lookup f11 = some ⟨oc11, od11, .func (PySem.W.fnOf "by_column" "by_column" (defArgs s_by_column) (defBody s_by_column) (defScope s_by_column) .none kV11 dc11 pm11 an11 cd11 ct11), sl11⟩)
    (c11 : PySem.W.codeIn K cd11 "by_column" = true)
    (k11 : PySem.W.keepIn K (.ref f11) = true)
    (a12 : PySem.W.nsIn K mainGlobals "is_design" = some (some (.ref f12)))
    (l12 : K.lookup f12 = some ⟨oc12, od12, .func (PySem.W.fnOf "is_design" "is_design" (defArgs s_is_design) (defBody s_is_design) (defScope s_is_design) .none kV12 dc12 pm12 an12 cd12 ct12), sl12⟩)
    (c12 : PySem.W.codeIn K cd12 "is_design" = true)
    (k12 : PySem.W.keepIn K (.ref f12) = true)
    (a13 : PySem.W.nsIn K mainGlobals "show_row" = some (some (.ref f13)))
    (l13 : K.lookup f13 = some ⟨oc13, od13, .func (PySem.W.fnOf "show_row" "show_row" (defArgs s_show_row) (defBody s_show_row) (defScope s_show_row) .none kV13 dc13 pm13 an13 cd13 ct13), sl13⟩)
    (c13 : PySem.W.codeIn K cd13 "show_row" = true)
    (k13 : PySem.W.keepIn K (.ref f13) = true)
    (a14 : PySem.W.nsIn K mainGlobals "show_form" = some (some (.ref f14)))
    (l14 : K.lookup f14 = some ⟨oc14, od14, .func (PySem.W.fnOf "show_form" "show_form" (defArgs s_show_form) (defBody s_show_form) (defScope s_show_form) .none kV14 dc14 pm14 an14 cd14 ct14), sl14⟩)
    (c14 : PySem.W.codeIn K cd14 "show_form" = true)
    (k14 : PySem.W.keepIn K (.ref f14) = true)
    (a15 : PySem.W.nsIn K mainGlobals "show_columns" = some (some (.ref f15)))
    (l15 : K.lookup f15 = some ⟨oc15, od15, .func (PySem.W.fnOf "show_columns" "show_columns" (defArgs s_show_columns) (defBody s_show_columns) (defScope s_show_columns) .none kV15 dc15 pm15 an15 cd15 ct15), sl15⟩)
    (c15 : PySem.W.codeIn K cd15 "show_columns" = true)
    (k15 : PySem.W.keepIn K (.ref f15) = true)
    (a16 : PySem.W.nsIn K mainGlobals "show_design" = some (some (.ref f16)))
    (l16 : K.lookup f16 = some ⟨oc16, od16, .func (PySem.W.fnOf "show_design" "show_design" (defArgs s_show_design) (defBody s_show_design) (defScope s_show_design) .none kV16 dc16 pm16 an16 cd16 ct16), sl16⟩)
    (c16 : PySem.W.codeIn K cd16 "show_design" = true)
    (k16 : PySem.W.keepIn K (.ref f16) = true)
    (a17 : PySem.W.nsIn K mainGlobals "show_bound" = some (some (.ref f17)))
    (l17 : K.lookup f17 = some ⟨oc17, od17, .func (PySem.W.fnOf "show_bound" "show_bound" (defArgs s_show_bound) (defBody s_show_bound) (defScope s_show_bound) .none kV17 dc17 pm17 an17 cd17 ct17), sl17⟩)
    (c17 : PySem.W.codeIn K cd17 "show_bound" = true)
    (k17 : PySem.W.keepIn K (.ref f17) = true)
    (a18 : PySem.W.nsIn K mainGlobals "show_condition" = some (some (.ref f18)))
    (l18 : K.lookup f18 = some ⟨oc18, od18, .func (PySem.W.fnOf "show_condition" "show_condition" (defArgs s_show_condition) (defBody s_show_condition) (defScope s_show_condition) .none kV18 dc18 pm18 an18 cd18 ct18), sl18⟩)
    (c18 : PySem.W.codeIn K cd18 "show_condition" = true)
    (k18 : PySem.W.keepIn K (.ref f18) = true)
    (a19 : PySem.W.nsIn K mainGlobals "show_conditions" = some (some (.ref f19)))
    (l19 : K.lookup f19 = some ⟨oc19, od19, .func (PySem.W.fnOf "show_conditions" "show_conditions" (defArgs s_show_conditions) (defBody s_show_conditions) (defScope s_show_conditions) .none kV19 dc19 pm19 an19 cd19 ct19), sl19⟩)
    (c19 : PySem.W.codeIn K cd19 "show_conditions" = true)
    (k19 : PySem.W.keepIn K (.ref f19) = true)
    (a20 : PySem.W.nsIn K mainGlobals "are_figures" = some (some (.ref f20)))
    (l20 : K.lookup f20 = some ⟨oc20, od20, .func (PySem.W.fnOf "are_figures" "are_figures" (defArgs s_are_figures) (defBody s_are_figures) (defScope s_are_figures) .none kV20 dc20 pm20 an20 cd20 ct20), sl20⟩)
    (c20 : PySem.W.codeIn K cd20 "are_figures" = true)
    (k20 : PySem.W.keepIn K (.ref f20) = true)
    (a21 : PySem.W.nsIn K mainGlobals "text_of" = some (some (.ref f21)))
    (l21 : K.lookup f21 = some ⟨oc21, od21, .func (PySem.W.fnOf "text_of" "text_of" (defArgs s_text_of) (defBody s_text_of) (defScope s_text_of) .none kV21 dc21 pm21 an21 cd21 ct21), sl21⟩)
    (c21 : PySem.W.codeIn K cd21 "text_of" = true)
    (k21 : PySem.W.keepIn K (.ref f21) = true)
    (a22 : PySem.W.nsIn K mainGlobals "read_number" = some (some (.ref f22)))
    (l22 : K.lookup f22 = some ⟨oc22, od22, .func (PySem.W.fnOf "read_number" "read_number" (defArgs s_read_number) (defBody s_read_number) (defScope s_read_number) .none kV22 dc22 pm22 an22 cd22 ct22), sl22⟩)
    (c22 : PySem.W.codeIn K cd22 "read_number" = true)
    (k22 : PySem.W.keepIn K (.ref f22) = true)
    (a23 : PySem.W.nsIn K mainGlobals "read_value" = some (some (.ref f23)))
    (l23 : K.lookup f23 = some ⟨oc23, od23, .func (PySem.W.fnOf "read_value" "read_value" (defArgs s_read_value) (defBody s_read_value) (defScope s_read_value) .none kV23 dc23 pm23 an23 cd23 ct23), sl23⟩)
    (c23 : PySem.W.codeIn K cd23 "read_value" = true)
    (k23 : PySem.W.keepIn K (.ref f23) = true)
    (a24 : PySem.W.nsIn K mainGlobals "read_row" = some (some (.ref f24)))
    (l24 : K.lookup f24 = some ⟨oc24, od24, .func (PySem.W.fnOf "read_row" "read_row" (defArgs s_read_row) (defBody s_read_row) (defScope s_read_row) .none kV24 dc24 pm24 an24 cd24 ct24), sl24⟩)
    (c24 : PySem.W.codeIn K cd24 "read_row" = true)
    (k24 : PySem.W.keepIn K (.ref f24) = true)
    (a25 : PySem.W.nsIn K mainGlobals "read_form" = some (some (.ref f25)))
    (l25 : K.lookup f25 = some ⟨oc25, od25, .func (PySem.W.fnOf "read_form" "read_form" (defArgs s_read_form) (defBody s_read_form) (defScope s_read_form) .none kV25 dc25 pm25 an25 cd25 ct25), sl25⟩)
    (c25 : PySem.W.codeIn K cd25 "read_form" = true)
    (k25 : PySem.W.keepIn K (.ref f25) = true)
    (a26 : PySem.W.nsIn K mainGlobals "read_design" = some (some (.ref f26)))
    (l26 : K.lookup f26 = some ⟨oc26, od26, .func (PySem.W.fnOf "read_design" "read_design" (defArgs s_read_design) (defBody s_read_design) (defScope s_read_design) .none kV26 dc26 pm26 an26 cd26 ct26), sl26⟩)
    (c26 : PySem.W.codeIn K cd26 "read_design" = true)
    (k26 : PySem.W.keepIn K (.ref f26) = true)
    (a27 : PySem.W.nsIn K mainGlobals "read_bound" = some (some (.ref f27)))
    (l27 : K.lookup f27 = some ⟨oc27, od27, .func (PySem.W.fnOf "read_bound" "read_bound" (defArgs s_read_bound) (defBody s_read_bound) (defScope s_read_bound) .none kV27 dc27 pm27 an27 cd27 ct27), sl27⟩)
    (c27 : PySem.W.codeIn K cd27 "read_bound" = true)
    (k27 : PySem.W.keepIn K (.ref f27) = true)
    (a28 : PySem.W.nsIn K mainGlobals "read_condition" = some (some (.ref f28)))
    (l28 : K.lookup f28 = some ⟨oc28, od28, .func (PySem.W.fnOf "read_condition" "read_condition" (defArgs s_read_condition) (defBody s_read_condition) (defScope s_read_condition) .none kV28 dc28 pm28 an28 cd28 ct28), sl28⟩)
    (c28 : PySem.W.codeIn K cd28 "read_condition" = true)
    (k28 : PySem.W.keepIn K (.ref f28) = true)
    (a29 : PySem.W.nsIn K mainGlobals "read_conditions" = some (some (.ref f29)))
    (l29 : K.lookup f29 = some ⟨oc29, od29, .func (PySem.W.fnOf "read_conditions" "read_conditions" (defArgs s_read_conditions) (defBody s_read_conditions) (defScope s_read_conditions) .none kV29 dc29 pm29 an29 cd29 ct29), sl29⟩)
    (c29 : PySem.W.codeIn K cd29 "read_conditions" = true)
    (k29 : PySem.W.keepIn K (.ref f29) = true)
    (a30 : PySem.W.nsIn K mainGlobals "_law_bag" = some (some (.ref f30)))
    (l30 : K.lookup f30 = some ⟨oc30, od30, .func (PySem.W.fnOf "_law_bag" "_law_bag" (defArgs s_law_bag) (defBody s_law_bag) (defScope s_law_bag) .none kV30 dc30 pm30 an30 cd30 ct30), sl30⟩)
    (c30 : PySem.W.codeIn K cd30 "_law_bag" = true)
    (k30 : PySem.W.keepIn K (.ref f30) = true)
    (a31 : PySem.W.nsIn K mainGlobals "_law_take" = some (some (.ref f31)))
    (l31 : K.lookup f31 = some ⟨oc31, od31, .func (PySem.W.fnOf "_law_take" "_law_take" (defArgs s_law_take) (defBody s_law_take) (defScope s_law_take) .none kV31 dc31 pm31 an31 cd31 ct31), sl31⟩)
    (c31 : PySem.W.codeIn K cd31 "_law_take" = true)
    (k31 : PySem.W.keepIn K (.ref f31) = true)
    (a32 : PySem.W.nsIn K mainGlobals "_law_names" = some (some (.ref f32)))
    (l32 : K.lookup f32 = some ⟨oc32, od32, .func (PySem.W.fnOf "_law_names" "_law_names" (defArgs s_law_names) (defBody s_law_names) (defScope s_law_names) .none kV32 dc32 pm32 an32 cd32 ct32), sl32⟩)
    (c32 : PySem.W.codeIn K cd32 "_law_names" = true)
    (k32 : PySem.W.keepIn K (.ref f32) = true)
    (a33 : PySem.W.nsIn K mainGlobals "_law_form" = some (some (.ref f33)))
    (l33 : K.lookup f33 = some ⟨oc33, od33, .func (PySem.W.fnOf "_law_form" "_law_form" (defArgs s_law_form) (defBody s_law_form) (defScope s_law_form) .none kV33 dc33 pm33 an33 cd33 ct33), sl33⟩)
    (c33 : PySem.W.codeIn K cd33 "_law_form" = true)
    (k33 : PySem.W.keepIn K (.ref f33) = true)
    (a34 : PySem.W.nsIn K mainGlobals "_law_value" = some (some (.ref f34)))
    (l34 : K.lookup f34 = some ⟨oc34, od34, .func (PySem.W.fnOf "_law_value" "_law_value" (defArgs s_law_value) (defBody s_law_value) (defScope s_law_value) .none kV34 dc34 pm34 an34 cd34 ct34), sl34⟩)
    (c34 : PySem.W.codeIn K cd34 "_law_value" = true)
    (k34 : PySem.W.keepIn K (.ref f34) = true)
    (a35 : PySem.W.nsIn K mainGlobals "_law_line" = some (some (.ref f35)))
    (l35 : K.lookup f35 = some ⟨oc35, od35, .func (PySem.W.fnOf "_law_line" "_law_line" (defArgs s_law_line) (defBody s_law_line) (defScope s_law_line) .none kV35 dc35 pm35 an35 cd35 ct35), sl35⟩)
    (c35 : PySem.W.codeIn K cd35 "_law_line" = true)
    (k35 : PySem.W.keepIn K (.ref f35) = true)
    (a36 : PySem.W.nsIn K mainGlobals "_law_some" = some (some (.ref f36)))
    (l36 : K.lookup f36 = some ⟨oc36, od36, .func (PySem.W.fnOf "_law_some" "_law_some" (defArgs s_law_some) (defBody s_law_some) (defScope s_law_some) .none kV36 dc36 pm36 an36 cd36 ct36), sl36⟩)
    (c36 : PySem.W.codeIn K cd36 "_law_some" = true)
    (k36 : PySem.W.keepIn K (.ref f36) = true)
    (a37 : PySem.W.nsIn K mainGlobals "_law_conditions" = some (some (.ref f37)))
    (l37 : K.lookup f37 = some ⟨oc37, od37, .func (PySem.W.fnOf "_law_conditions" "_law_conditions" (defArgs s_law_conditions) (defBody s_law_conditions) (defScope s_law_conditions) .none kV37 dc37 pm37 an37 cd37 ct37), sl37⟩)
    (c37 : PySem.W.codeIn K cd37 "_law_conditions" = true)
    (k37 : PySem.W.keepIn K (.ref f37) = true)
    (a38 : PySem.W.nsIn K mainGlobals "_law_design" = some (some (.ref f38)))
    (l38 : K.lookup f38 = some ⟨oc38, od38, .func (PySem.W.fnOf "_law_design" "_law_design" (defArgs s_law_design) (defBody s_law_design) (defScope s_law_design) .none kV38 dc38 pm38 an38 cd38 ct38), sl38⟩)
    (c38 : PySem.W.codeIn K cd38 "_law_design" = true)
    (k38 : PySem.W.keepIn K (.ref f38) = true)
    (a39 : PySem.W.nsIn K mainGlobals "_law_show_row" = some (some (.ref f39)))
    (l39 : K.lookup f39 = some ⟨oc39, od39, .func (PySem.W.fnOf "_law_show_row" "_law_show_row" (defArgs s_law_show_row) (defBody s_law_show_row) (defScope s_law_show_row) .none kV39 dc39 pm39 an39 cd39 ct39), sl39⟩)
    (c39 : PySem.W.codeIn K cd39 "_law_show_row" = true)
    (k39 : PySem.W.keepIn K (.ref f39) = true)
    (a40 : PySem.W.nsIn K mainGlobals "_law_show_form" = some (some (.ref f40)))
    (l40 : K.lookup f40 = some ⟨oc40, od40, .func (PySem.W.fnOf "_law_show_form" "_law_show_form" (defArgs s_law_show_form) (defBody s_law_show_form) (defScope s_law_show_form) .none kV40 dc40 pm40 an40 cd40 ct40), sl40⟩)
    (c40 : PySem.W.codeIn K cd40 "_law_show_form" = true)
    (k40 : PySem.W.keepIn K (.ref f40) = true)
    (a41 : PySem.W.nsIn K mainGlobals "_law_show_design" = some (some (.ref f41)))
    (l41 : K.lookup f41 = some ⟨oc41, od41, .func (PySem.W.fnOf "_law_show_design" "_law_show_design" (defArgs s_law_show_design) (defBody s_law_show_design) (defScope s_law_show_design) .none kV41 dc41 pm41 an41 cd41 ct41), sl41⟩)
    (c41 : PySem.W.codeIn K cd41 "_law_show_design" = true)
    (k41 : PySem.W.keepIn K (.ref f41) = true)
    (a42 : PySem.W.nsIn K mainGlobals "_law_show_conditions" = some (some (.ref f42)))
    (l42 : K.lookup f42 = some ⟨oc42, od42, .func (PySem.W.fnOf "_law_show_conditions" "_law_show_conditions" (defArgs s_law_show_conditions) (defBody s_law_show_conditions) (defScope s_law_show_conditions) .none kV42 dc42 pm42 an42 cd42 ct42), sl42⟩)
    (c42 : PySem.W.codeIn K cd42 "_law_show_conditions" = true)
    (k42 : PySem.W.keepIn K (.ref f42) = true)
    (a43 : PySem.W.nsIn K mainGlobals "_law_right" = some (some (.ref f43)))
    (l43 : K.lookup f43 = some ⟨oc43, od43, .func (PySem.W.fnOf "_law_right" "_law_right" (defArgs s_law_right) (defBody s_law_right) (defScope s_law_right) .none kV43 dc43 pm43 an43 cd43 ct43), sl43⟩)
    (c43 : PySem.W.codeIn K cd43 "_law_right" = true)
    (k43 : PySem.W.keepIn K (.ref f43) = true)
    (a44 : PySem.W.nsIn K mainGlobals "law" = some (some (.ref f44)))
    (l44 : K.lookup f44 = some ⟨oc44, od44, .func (PySem.W.fnOf "law" "law" (defArgs s_law) (defBody s_law) (defScope s_law) .none kV44 dc44 pm44 an44 cd44 ct44), sl44⟩)
    (c44 : PySem.W.codeIn K cd44 "law" = true)
    (k44 : PySem.W.keepIn K (.ref f44) = true) :
    ∃ fd : FuncData, (∀ (s : Shared) (v : Value), BindsTo s fd ⟨[v], []⟩ [("_law_script", v)]) ∧ ∀ base : Heap, K.In base → base.Ns mainGlobals mg → FnOk l.prog w K mg base CX0 8 fa fd ["_law_script"] (sp_law K) := by
  have e := hfa.symm.trans (PySem.W.mg_of X G a44)
  cases e
  have T : Txt K mg w t_FIGURES a_KINDS a_MOST_BY_KIND t_MOST_COLUMNS t_MOST_CONDITIONS t_MOST_FIGURES t_MOST_LETTERS t_MOST_NUMBER t_NONE := ⟨PySem.W.mg_none_of X G z_abs,
    PySem.W.mg_none_of X G z_all,
    PySem.W.mg_none_of X G z_bool,
    PySem.W.mg_none_of X G z_int,
    PySem.W.mg_none_of X G z_isinstance,
    PySem.W.mg_none_of X G z_len,
    PySem.W.mg_none_of X G z_list,
    PySem.W.mg_none_of X G z_max,
    PySem.W.mg_none_of X G z_min,
    PySem.W.mg_none_of X G z_range,
    PySem.W.mg_none_of X G z_set,
    PySem.W.mg_none_of X G z_str,
    PySem.W.mg_none_of X G z_tuple,
    PySem.W.mg_none_of X G z_zip,
    PySem.W.mg_of X G g_FIGURES,
    PySem.W.mg_of X G g_KINDS,
    ⟨_, _, _, q_KINDS, rfl, rfl, by show 2 ≤ sizeLine; decide, .cons ⟨_, rfl⟩ (.cons ⟨_, rfl⟩ (.nil))⟩,
    PySem.W.mg_of X G g_MOST_BY_KIND,
    ⟨_, _, m_MOST_BY_KIND, ⟨⟨_, _, rfl, rfl⟩, ⟨⟨_, _, rfl, rfl⟩, ⟨⟨_, _, rfl, rfl⟩, trivial⟩⟩⟩, ms_MOST_BY_KIND, .cons ⟨⟨_, rfl⟩, ⟨_, rfl⟩⟩ (.cons ⟨⟨_, rfl⟩, ⟨_, rfl⟩⟩ (.cons ⟨⟨_, rfl⟩, ⟨_, rfl⟩⟩ (.nil)))⟩,
    PySem.W.mg_of X G g_MOST_COLUMNS,
    PySem.W.mg_of X G g_MOST_CONDITIONS,
    PySem.W.mg_of X G g_MOST_FIGURES,
    PySem.W.mg_of X G g_MOST_LETTERS,
    PySem.W.mg_of X G g_MOST_NUMBER,
    PySem.W.mg_of X G g_NONE,
    ⟨_, _, PySem.W.mg_of X G a0, fun_mk (st := s_column_names) l0 c0 k0⟩,
    ⟨_, _, PySem.W.mg_of X G a1, fun_mk (st := s_kind_of) l1 c1 k1⟩,
    ⟨_, _, PySem.W.mg_of X G a2, fun_mk (st := s_are_columns) l2 c2 k2⟩,
    ⟨_, _, PySem.W.mg_of X G a3, fun_mk (st := s_is_whole) l3 c3 k3⟩,
    ⟨_, _, PySem.W.mg_of X G a4, fun_mk (st := s_is_word) l4 c4 k4⟩,
    ⟨_, _, PySem.W.mg_of X G a5, fun_mk (st := s_is_value) l5 c5 k5⟩,
    ⟨_, _, PySem.W.mg_of X G a6, fun_mk (st := s_is_column) l6 c6 k6⟩,
    ⟨_, _, PySem.W.mg_of X G a7, fun_mk (st := s_is_form) l7 c7 k7⟩,
    ⟨_, _, PySem.W.mg_of X G a8, fun_mk (st := s_are_bounds) l8 c8 k8⟩,
    ⟨_, _, PySem.W.mg_of X G a9, fun_mk (st := s_is_condition) l9 c9 k9⟩,
    ⟨_, _, PySem.W.mg_of X G a10, fun_mk (st := s_are_conditions) l10 c10 k10⟩,
    ⟨_, _, PySem.W.mg_of X G a11, fun_mk (st := s_by_column) l11 c11 k11⟩,
    ⟨_, _, PySem.W.mg_of X G a12, fun_mk (st := s_is_design) l12 c12 k12⟩,
    ⟨_, _, PySem.W.mg_of X G a13, fun_mk (st := s_show_row) l13 c13 k13⟩,
    ⟨_, _, PySem.W.mg_of X G a14, fun_mk (st := s_show_form) l14 c14 k14⟩,
    ⟨_, _, PySem.W.mg_of X G a15, fun_mk (st := s_show_columns) l15 c15 k15⟩,
    ⟨_, _, PySem.W.mg_of X G a16, fun_mk (st := s_show_design) l16 c16 k16⟩,
    ⟨_, _, PySem.W.mg_of X G a17, fun_mk (st := s_show_bound) l17 c17 k17⟩,
    ⟨_, _, PySem.W.mg_of X G a18, fun_mk (st := s_show_condition) l18 c18 k18⟩,
    ⟨_, _, PySem.W.mg_of X G a19, fun_mk (st := s_show_conditions) l19 c19 k19⟩,
    ⟨_, _, PySem.W.mg_of X G a20, fun_mk (st := s_are_figures) l20 c20 k20⟩,
    ⟨_, _, PySem.W.mg_of X G a21, fun_mk (st := s_text_of) l21 c21 k21⟩,
    ⟨_, _, PySem.W.mg_of X G a22, fun_mk (st := s_read_number) l22 c22 k22⟩,
    ⟨_, _, PySem.W.mg_of X G a23, fun_mk (st := s_read_value) l23 c23 k23⟩,
    ⟨_, _, PySem.W.mg_of X G a24, fun_mk (st := s_read_row) l24 c24 k24⟩,
    ⟨_, _, PySem.W.mg_of X G a25, fun_mk (st := s_read_form) l25 c25 k25⟩,
    ⟨_, _, PySem.W.mg_of X G a26, fun_mk (st := s_read_design) l26 c26 k26⟩,
    ⟨_, _, PySem.W.mg_of X G a27, fun_mk (st := s_read_bound) l27 c27 k27⟩,
    ⟨_, _, PySem.W.mg_of X G a28, fun_mk (st := s_read_condition) l28 c28 k28⟩,
    ⟨_, _, PySem.W.mg_of X G a29, fun_mk (st := s_read_conditions) l29 c29 k29⟩,
    ⟨_, _, PySem.W.mg_of X G a30, fun_mk (st := s_law_bag) l30 c30 k30⟩,
    ⟨_, _, PySem.W.mg_of X G a31, fun_mk (st := s_law_take) l31 c31 k31⟩,
    ⟨_, _, PySem.W.mg_of X G a32, fun_mk (st := s_law_names) l32 c32 k32⟩,
    ⟨_, _, PySem.W.mg_of X G a33, fun_mk (st := s_law_form) l33 c33 k33⟩,
    ⟨_, _, PySem.W.mg_of X G a34, fun_mk (st := s_law_value) l34 c34 k34⟩,
    ⟨_, _, PySem.W.mg_of X G a35, fun_mk (st := s_law_line) l35 c35 k35⟩,
    ⟨_, _, PySem.W.mg_of X G a36, fun_mk (st := s_law_some) l36 c36 k36⟩,
    ⟨_, _, PySem.W.mg_of X G a37, fun_mk (st := s_law_conditions) l37 c37 k37⟩,
    ⟨_, _, PySem.W.mg_of X G a38, fun_mk (st := s_law_design) l38 c38 k38⟩,
    ⟨_, _, PySem.W.mg_of X G a39, fun_mk (st := s_law_show_row) l39 c39 k39⟩,
    ⟨_, _, PySem.W.mg_of X G a40, fun_mk (st := s_law_show_form) l40 c40 k40⟩,
    ⟨_, _, PySem.W.mg_of X G a41, fun_mk (st := s_law_show_design) l41 c41 k41⟩,
    ⟨_, _, PySem.W.mg_of X G a42, fun_mk (st := s_law_show_conditions) l42 c42 k42⟩,
    ⟨_, _, PySem.W.mg_of X G a43, fun_mk (st := s_law_right) l43 c43 k43⟩⟩
  exact ⟨_, fun s v => .of_eq rfl, fun base _ _ => ok_law T ⟨PySem.W.mg_of X G a44, fun_mk (st := s_law) l44 c44 k44⟩⟩
theorem walk {l : PySem.W.OpenLaw} {q : Program} {loose : List Str} {XP : (Str → Option Value) → Heap → Prop} {YP : World → Heap → Prop} {d : DefRec} {K : Params → PySem.W.Frag} (hn : l.most = some 63) (hdf : d.params.defaults = [])
    (hY : ∀ (w : World) (h : Heap), YP w h → (K w.params).In h)
    (F : ∀ (w : World) (mg : Str → Option Value) (fa : Addr) (h : Heap), (K w.params).In h → h.Ns mainGlobals mg → mg d.name = some (.ref fa) →
      ∃ fd : FuncData, (∀ (s : Shared) (u : Value), BindsTo s fd ⟨[u], []⟩ [("_law_script", u)]) ∧ ∀ base : Heap, (K w.params).In base → base.Ns mainGlobals mg → FnOk l.prog w (K w.params) mg base CX0 8 fa fd ["_law_script"] (sp_law (K w.params))) :
    PySem.W.WalkO q loose XP YP l.row.toRowW d [] (fun f vs => PySem.call f vs) :=
  L2.walk_of (n := 63) (k := 8) (x := "_law_script") (CX := fun _ => CX0) (sp := fun w => sp_law (K w.params)) hn (by decide) hdf ⟨rfl, by decide, by decide, rfl⟩ hY F (fun _ _ a ns hl _ hS => ⟨a, ns, rfl, hS, hl, fun _ => rfl⟩) fun _ _ _ _ _ z => z
end My
def PySem.W.Fast.tw948667843964244673 : Unit := ()
def PySem.W.Fast.tw17957604548369364291 : Unit := ()
def PySem.W.Fast.tw4896968415083048329 : Unit := ()
def PySem.W.Fast.tw16224683087517564043 : Unit := ()
def PySem.W.Fast.tw3544889522504935792 : Unit := ()
def PySem.W.Fast.tw5810940216736377328 : Unit := ()
def PySem.W.Fast.tw254617768466300818 : Unit := ()
def PySem.W.Fast.tw8450823069782294103 : Unit := ()
def PySem.W.Fast.tw2832830155883271704 : Unit := ()
open PySem PySem.W PyProof.Rows
set_option maxRecDepth 100000 in
set_option maxHeartbeats 0 in
theorem PySem.Challenge.cw_whatindex_k77_rows_and_designs_written_holds : PySem.Challenge.rw_whatindex_k77_rows_and_designs_written.Holds := by
  w_on; o_law; k_head; (case hw => w_witness2)
  k_fill
  refine My.walk (l := PySem.Challenge.rw_whatindex_k77_rows_and_designs_written) rfl rfl (fun w h Y => PySem.W.kIn_of Y) ?F
  case F =>
    intro w mg fa h KX G hmg
    refine' My.all_mk KX G hmg ?g_FIGURES ?g_KINDS ?q_KINDS ?g_MOST_BY_KIND ?m_MOST_BY_KIND ?ms_MOST_BY_KIND ?g_MOST_COLUMNS ?g_MOST_CONDITIONS ?g_MOST_FIGURES ?g_MOST_LETTERS ?g_MOST_NUMBER ?g_NONE ?z_abs ?z_all ?z_bool ?z_int ?z_isinstance ?z_len ?z_list ?z_max ?z_min ?z_range ?z_set ?z_str ?z_tuple ?z_zip ?a0 ?l0 ?c0 ?k0 ?a1 ?l1 ?c1 ?k1 ?a2 ?l2 ?c2 ?k2 ?a3 ?l3 ?c3 ?k3 ?a4 ?l4 ?c4 ?k4 ?a5 ?l5 ?c5 ?k5 ?a6 ?l6 ?c6 ?k6 ?a7 ?l7 ?c7 ?k7 ?a8 ?l8 ?c8 ?k8 ?a9 ?l9 ?c9 ?k9 ?a10 ?l10 ?c10 ?k10 ?a11 ?l11 ?c11 ?k11 ?a12 ?l12 ?c12 ?k12 ?a13 ?l13 ?c13 ?k13 ?a14 ?l14 ?c14 ?k14 ?a15 ?l15 ?c15 ?k15 ?a16 ?l16 ?c16 ?k16 ?a17 ?l17 ?c17 ?k17 ?a18 ?l18 ?c18 ?k18 ?a19 ?l19 ?c19 ?k19 ?a20 ?l20 ?c20 ?k20 ?a21 ?l21 ?c21 ?k21 ?a22 ?l22 ?c22 ?k22 ?a23 ?l23 ?c23 ?k23 ?a24 ?l24 ?c24 ?k24 ?a25 ?l25 ?c25 ?k25 ?a26 ?l26 ?c26 ?k26 ?a27 ?l27 ?c27 ?k27 ?a28 ?l28 ?c28 ?k28 ?a29 ?l29 ?c29 ?k29 ?a30 ?l30 ?c30 ?k30 ?a31 ?l31 ?c31 ?k31 ?a32 ?l32 ?c32 ?k32 ?a33 ?l33 ?c33 ?k33 ?a34 ?l34 ?c34 ?k34 ?a35 ?l35 ?c35 ?k35 ?a36 ?l36 ?c36 ?k36 ?a37 ?l37 ?c37 ?k37 ?a38 ?l38 ?c38 ?k38 ?a39 ?l39 ?c39 ?k39 ?a40 ?l40 ?c40 ?k40 ?a41 ?l41 ?c41 ?k41 ?a42 ?l42 ?c42 ?k42 ?a43 ?l43 ?c43 ?k43 ?a44 ?l44 ?c44 ?k44
    (case g_FIGURES => k_is)
    (case g_KINDS => k_is)
    (case q_KINDS => k_is)
    (case g_MOST_BY_KIND => k_is)
    (case m_MOST_BY_KIND => k_is)
    (case ms_MOST_BY_KIND => decide)
    (case g_MOST_COLUMNS => k_is)
    (case g_MOST_CONDITIONS => k_is)
    (case g_MOST_FIGURES => k_is)
    (case g_MOST_LETTERS => k_is)
    (case g_MOST_NUMBER => k_is)
    (case g_NONE => k_is)
    (case z_abs => k_is)
    (case z_all => k_is)
    (case z_bool => k_is)
    (case z_int => k_is)
    (case z_isinstance => k_is)
    (case z_len => k_is)
    (case z_list => k_is)
    (case z_max => k_is)
    (case z_min => k_is)
    (case z_range => k_is)
    (case z_set => k_is)
    (case z_str => k_is)
    (case z_tuple => k_is)
    (case z_zip => k_is)
    (case a0 => k_is)
    (case l0 => k_is)
    (case c0 => k_is)
    (case k0 => k_is)
    (case a1 => k_is)
    (case l1 => k_is)
    (case c1 => k_is)
    (case k1 => k_is)
    (case a2 => k_is)
    (case l2 => k_is)
    (case c2 => k_is)
    (case k2 => k_is)
    (case a3 => k_is)
    (case l3 => k_is)
    (case c3 => k_is)
    (case k3 => k_is)
    (case a4 => k_is)
    (case l4 => k_is)
    (case c4 => k_is)
    (case k4 => k_is)
    (case a5 => k_is)
    (case l5 => k_is)
    (case c5 => k_is)
    (case k5 => k_is)
    (case a6 => k_is)
    (case l6 => k_is)
    (case c6 => k_is)
    (case k6 => k_is)
    (case a7 => k_is)
    (case l7 => k_is)
    (case c7 => k_is)
    (case k7 => k_is)
    (case a8 => k_is)
    (case l8 => k_is)
    (case c8 => k_is)
    (case k8 => k_is)
    (case a9 => k_is)
    (case l9 => k_is)
    (case c9 => k_is)
    (case k9 => k_is)
    (case a10 => k_is)
    (case l10 => k_is)
    (case c10 => k_is)
    (case k10 => k_is)
    (case a11 => k_is)
    (case l11 => k_is)
    (case c11 => k_is)
    (case k11 => k_is)
    (case a12 => k_is)
    (case l12 => k_is)
    (case c12 => k_is)
    (case k12 => k_is)
    (case a13 => k_is)
    (case l13 => k_is)
    (case c13 => k_is)
    (case k13 => k_is)
    (case a14 => k_is)
    (case l14 => k_is)
    (case c14 => k_is)
    (case k14 => k_is)
    (case a15 => k_is)
    (case l15 => k_is)
    (case c15 => k_is)
    (case k15 => k_is)
    (case a16 => k_is)
    (case l16 => k_is)
    (case c16 => k_is)
    (case k16 => k_is)
    (case a17 => k_is)
    (case l17 => k_is)
    (case c17 => k_is)
    (case k17 => k_is)
    (case a18 => k_is)
    (case l18 => k_is)
    (case c18 => k_is)
    (case k18 => k_is)
    (case a19 => k_is)
    (case l19 => k_is)
    (case c19 => k_is)
    (case k19 => k_is)
    (case a20 => k_is)
    (case l20 => k_is)
    (case c20 => k_is)
    (case k20 => k_is)
    (case a21 => k_is)
    (case l21 => k_is)
    (case c21 => k_is)
    (case k21 => k_is)
    (case a22 => k_is)
    (case l22 => k_is)
    (case c22 => k_is)
    (case k22 => k_is)
    (case a23 => k_is)
    (case l23 => k_is)
    (case c23 => k_is)
    (case k23 => k_is)
    (case a24 => k_is)
    (case l24 => k_is)
    (case c24 => k_is)
    (case k24 => k_is)
    (case a25 => k_is)
    (case l25 => k_is)
    (case c25 => k_is)
    (case k25 => k_is)
    (case a26 => k_is)
    (case l26 => k_is)
    (case c26 => k_is)
    (case k26 => k_is)
    (case a27 => k_is)
    (case l27 => k_is)
    (case c27 => k_is)
    (case k27 => k_is)
    (case a28 => k_is)
    (case l28 => k_is)
    (case c28 => k_is)
    (case k28 => k_is)
    (case a29 => k_is)
    (case l29 => k_is)
    (case c29 => k_is)
    (case k29 => k_is)
    (case a30 => k_is)
    (case l30 => k_is)
    (case c30 => k_is)
    (case k30 => k_is)
    (case a31 => k_is)
    (case l31 => k_is)
    (case c31 => k_is)
    (case k31 => k_is)
    (case a32 => k_is)
    (case l32 => k_is)
    (case c32 => k_is)
    (case k32 => k_is)
    (case a33 => k_is)
    (case l33 => k_is)
    (case c33 => k_is)
    (case k33 => k_is)
    (case a34 => k_is)
    (case l34 => k_is)
    (case c34 => k_is)
    (case k34 => k_is)
    (case a35 => k_is)
    (case l35 => k_is)
    (case c35 => k_is)
    (case k35 => k_is)
    (case a36 => k_is)
    (case l36 => k_is)
    (case c36 => k_is)
    (case k36 => k_is)
    (case a37 => k_is)
    (case l37 => k_is)
    (case c37 => k_is)
    (case k37 => k_is)
    (case a38 => k_is)
    (case l38 => k_is)
    (case c38 => k_is)
    (case k38 => k_is)
    (case a39 => k_is)
    (case l39 => k_is)
    (case c39 => k_is)
    (case k39 => k_is)
    (case a40 => k_is)
    (case l40 => k_is)
    (case c40 => k_is)
    (case k40 => k_is)
    (case a41 => k_is)
    (case l41 => k_is)
    (case c41 => k_is)
    (case k41 => k_is)
    (case a42 => k_is)
    (case l42 => k_is)
    (case c42 => k_is)
    (case k42 => k_is)
    (case a43 => k_is)
    (case l43 => k_is)
    (case c43 => k_is)
    (case k43 => k_is)
    (case a44 => k_is)
    (case l44 => k_is)
    (case c44 => k_is)
    (case k44 => k_is)

