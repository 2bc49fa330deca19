import PyProof.Rows.All
import Wide.All
import OpenK.AllK
import Wide.FinOn
import PyProof.EqAt
import PyProof.EqKinds
import PyProof.TupleCall
import KE.BitLaws
import KE.KSortTupG
import KE.KSortKey
import KE.KDictSum
import PyProof.Rows.SortStr
import PyProof.Rows.SortKeyStr
import PyProof.Rows.SetFrom
import PyProof.WalksMore
import OpenK.KTop
import KE.KEqDict
import KE.KUnpackStar
import KE.KTryMore
import KE.KIsAll
import PyProof.ListMulRoad
import PyProof.FactsAll.tuple
import PyProof.FactsAll.list
import PyProof.FactsAll.str
import PyProof.FactsAll.int
import PyProof.InstEq
import PyProof.FactsAll.NoneType_1
import PySem.Challenge.RW_whatindex_k05_shapes
set_option genSizeOf false
-- CHANGE: your row's module here, as the last of these rows
set_option Elab.async false
set_option linter.all false
set_option maxRecDepth 100000

namespace L2
open PySem PySem.Spec PyProof.Rows


noncomputable abbrev Key := Sum Int Str
noncomputable def keyIs : Key → Value → Bool
  | .inl k, v => Value.isInt k v
  | .inr x, v => Value.isStrOf x v
noncomputable def keyH (w : World) : Key → Int
  | .inl k => hashInt k
  | .inr x => hashStr w x
theorem keyIs_shape : ∀ {k : Key} {v : Value}, keyIs k v = true → (∃ i t, k = Sum.inl i ∧ v = Value.int i t) ∨ (∃ x t, k = Sum.inr x ∧ v = Value.str x t)
  | .inl i, v, h => by
    obtain ⟨t, e⟩ := Value.isInt_shape (k := i) (v := v) h
    exact .inl ⟨i, t, rfl, e⟩
  | .inr x, v, h => by
    obtain ⟨t, e⟩ := Value.isStrOf_shape (x := x) (v := v) h
    exact .inr ⟨x, t, rfl, e⟩
theorem key_ll (a b : Int) : decide ((Sum.inl a : Key) = Sum.inl b) = (a == b) := by
  by_cases e : a = b
  · subst e; simp
  · have h : ¬ (Sum.inl a : Key) = Sum.inl b := fun q => e (Sum.inl.inj q)
    rw [decide_eq_false h]
    exact (beq_eq_false_iff_ne.mpr e).symm
theorem key_rr (a b : Str) : decide ((Sum.inr a : Key) = Sum.inr b) = decide (a = b) := by
  by_cases e : a = b
  · subst e; simp
  · have h : ¬ (Sum.inr a : Key) = Sum.inr b := fun q => e (Sum.inr.inj q)
    rw [decide_eq_false h, decide_eq_false e]
theorem key_lr (a : Int) (b : Str) : decide ((Sum.inl a : Key) = Sum.inr b) = false := decide_eq_false (fun q => nomatch q)
theorem key_rl (a : Str) (b : Int) : decide ((Sum.inr a : Key) = Sum.inl b) = false := decide_eq_false (fun q => nomatch q)

noncomputable def mixKind (prog : Program) (w : World) : PySem.KeyKind prog w Key where
  is := keyIs
  hash := keyH w
  inj := fun v a b ha hb => by
    rcases keyIs_shape ha with ⟨i, t, rfl, rfl⟩ | ⟨x, t, rfl, rfl⟩
    · rcases keyIs_shape hb with ⟨j, u, rfl, e⟩ | ⟨y, u, rfl, e⟩
      · injection e with e1 _; rw [e1]
      · exact nomatch e
    · rcases keyIs_shape hb with ⟨j, u, rfl, e⟩ | ⟨y, u, rfl, e⟩
      · exact nomatch e
      · injection e with e1 _; rw [e1]
  byValue := fun k v h => by
    rcases keyIs_shape h with ⟨i, t, rfl, rfl⟩ | ⟨x, t, rfl, rfl⟩ <;> rfl
  pyHash := fun hv h => by
    rcases keyIs_shape hv with ⟨i, t, rfl, rfl⟩ | ⟨x, t, rfl, rfl⟩
    · exact wpAny_pyHash_int h
    · exact wpAny_pyHash_str h
  eqBool := fun hu hv h => by
    rcases keyIs_shape hu with ⟨i, t, rfl, rfl⟩ | ⟨x, t, rfl, rfl⟩
    · rcases keyIs_shape hv with ⟨j, u, rfl, rfl⟩ | ⟨y, u, rfl, rfl⟩
      · rw [key_ll] at h; exact wpAny_eqBool_int h
      · rw [key_lr] at h; exact SeqAt.EqAt.int_str i t y u _ _ _ _ h
    · rcases keyIs_shape hv with ⟨j, u, rfl, rfl⟩ | ⟨y, u, rfl, rfl⟩
      · rw [key_rl] at h; exact SeqAt.EqAt.str_int x t j u _ _ _ _ h
      · rw [key_rr] at h; exact wpAny_eqBool_str h
  «strs» := fun k x t v h => by
    rcases keyIs_shape h with ⟨i, u, rfl, e⟩ | ⟨y, u, rfl, e⟩
    · exact nomatch e
    · injection e with e1 _
      subst e1
      cases v <;> rfl

end L2

namespace L2
open PySem PySem.Spec PyProof.Rows


inductive V where
  | non | bl (b : Bool) | int (i : Int) | str (x : Str) | byt (b : Array UInt8) | flt (b : UInt64) | ref (a : Addr) | ty (n : String)
  deriving DecidableEq

noncomputable def RelV : V → Value → Prop
  | .non, u => u = Value.none
  | .bl b, u => u = Value.bool b
  | .int i, u => ∃ t, u = Value.int i t
  | .str x, u => ∃ t, u = Value.str x t
  | .byt b, u => ∃ t, u = Value.bytes b t
  | .flt b, u => ∃ t, u = Value.float b t
  | .ref a, u => u = Value.ref a
  | .ty n, u => u = Value.type n

noncomputable abbrev Vals : List V → List Value → Prop := Paired RelV
theorem Vals.length {xs : List V} {us : List Value} (r : Vals xs us) : xs.length = us.length := Paired.length r
theorem Vals.get : ∀ {xs : List V} {us : List Value} {i : Nat} {x : V}, Vals xs us → xs[i]? = some x → ∃ u, us[i]? = some u ∧ RelV x u
  | _, _, _, _, .nil, e => by simp at e
  | _, _, 0, _, .cons r _, e => by simp at e; subst e; exact ⟨_, rfl, r⟩
  | _, _, i + 1, x, .cons _ t, e => by
    obtain ⟨u, h1, h2⟩ := Vals.get (i := i) (x := x) t (by simpa using e)
    exact ⟨u, by simpa using h1, h2⟩
theorem Vals.set {x : V} {u : Value} (r : RelV x u) : ∀ {xs : List V} {us : List Value} (i : Nat), Vals xs us → Vals (xs.set i x) (us.set i u)
  | _, _, _, .nil => .nil
  | _, _, 0, .cons _ t => .cons r t
  | _, _, i + 1, .cons q t => .cons q (Vals.set r i t)
theorem Vals.append : ∀ {xs ys : List V} {us ws : List Value}, Vals xs us → Vals ys ws → Vals (xs ++ ys) (us ++ ws)
  | _, _, _, _, .nil, s => s
  | _, _, _, _, .cons r t, s => .cons r (Vals.append t s)
noncomputable def RelO : Option V → Option Value → Prop
  | some v, some u => RelV v u
  | none, none => True
  | _, _ => False
noncomputable def KV {κ : Type} : List (κ × V) → List (κ × Value) → Prop := Paired fun (p : κ × V) (q : κ × Value) => p.1 = q.1 ∧ RelV p.2 q.2


noncomputable def kV : Key → V
  | .inl i => .int i
  | .inr x => .str x


inductive HO where
  
  | lst (xs : List V)
  
  | tup (xs : List V)
  
  | dK (kvs : List (Key × V)) | dT (kvs : List (List Key × V))
  
  | set (S : Int → Bool) (n : Nat)
  
  | ins (C dx : Addr) (fs : List (Str × V))
  
  | own (x : Addr)
  
  | xd (fs : List (Str × V))
  
  | met (f x : Addr)
  
  | rng (lo hi : Int)
  
  | frz (o : Obj) (u : HO)
  
  | tbl (ps : Array Value)
  
  | ext (φ : Heap → Prop)

set_option genInjectivity false
noncomputable abbrev Hp := Addr → Option HO
noncomputable def upd (H : Hp) (a : Addr) (o : HO) : Hp := fun b => if b = a then some o else H b
theorem upd_same {H : Hp} {a : Addr} {o : HO} : upd H a o a = some o := by unfold upd; rw [if_pos rfl]
theorem upd_ne {H : Hp} {a b : Addr} {o : HO} (h : b ≠ a) : upd H a o b = H b := by unfold upd; rw [if_neg h]
theorem ne_of_none {H : Hp} {a b : Addr} {o : HO} (h : H a = some o) (h' : H b = none) : a ≠ b := by
  intro e; subst e; rw [h] at h'; cases h'


noncomputable def TupN (h : Heap) (a : Addr) (items : Array Value) : Prop := ∃ o, h.get? a = some o ∧ o.cls = .type "tuple" ∧ (∃ n, o.data = .seq items n) ∧ o.dict = none
theorem TupN.is {h : Heap} {a : Addr} {items : Array Value} (x : TupN h a items) : IsTup h a items := let ⟨o, h1, h2, h3, _⟩ := x; ⟨o, h1, h2, h3⟩
theorem TupN.new (h : Heap) (items : Array Value) : TupN (h.push { cls := .type "tuple", data := .seq items }) h.objs.size items := ⟨_, Heap.get?_push_size _ rfl, rfl, ⟨_, rfl⟩, rfl⟩
section
variable (P : Program) (w : World)
noncomputable def ObjOk (H : Hp) (h : Heap) (a : Addr) : HO → Prop
  | .lst xs => xs.length ≤ sizeLine ∧ ∃ (its : List Value) (n : Nat), Vals xs its ∧ h.get? a = some { cls := .type "list", data := .seq its.toArray n }
  | .tup xs => xs.length ≤ sizeLine ∧ ∃ its : List Value, Vals xs its ∧ TupN h a its.toArray
  | .dK kvs => kvs.length ≤ sizeLine ∧ (a == sysModules) = false ∧ ∃ vs, KV kvs vs ∧ h.DictOf (mixKind P w) a vs
  | .dT kvs => kvs.length ≤ sizeLine ∧ (a == sysModules) = false ∧ ∃ xs : List (List Key × Addr × Value),
      Paired (fun (p : List Key × V) (q : List Key × Addr × Value) => p.1 = q.1 ∧ H q.2.1 = some (.tup (p.1.map kV)) ∧ RelV p.2 q.2.2) kvs xs ∧
      ∃ o es ep, h.get? a = some o ∧ o.ExactDict ∧ o.data = .dict es ep ∧ es.toList = xs.map (entryOfKey (tupleKind (mixKind P w))) ∧ (xs.map (·.1)).Nodup
  | .set S n => h.SetOf (intKind P w) a S n
  | .ins C dx fs => H dx = some (.own a) ∧ fs.length ≤ 1000 ∧ dx ≠ a ∧ h.get? a = some (PySem.W.instObj C dx) ∧
      ∃ mA, h.Ns1 dx mA ∧ (∀ f, RelO (fs.lookup f) (mA f)) ∧ PySem.Within mA (fs.map (·.1))
  | .own _ => ∃ o, h.get? a = some o
  | .xd fs => ∃ mA, h.Ns1 a mA ∧ ∀ f, RelO (fs.lookup f) (mA f)
  | .rng lo hi => ∃ t u v, h.get? a = some { cls := .type "range", data := .fields #[.int lo t, .int hi u, .int 1 v] }
  | .frz o u => h.get? a = some o ∧ ObjOk H h a u
  | .tbl ps => h.get? a = some { cls := .none, data := .fields ps }
  | .met f x => h.get? a = some (PySem.W.methodObj (.ref f) (.ref x))
  | .ext φ => φ h ∧ (∃ o, h.get? a = some o) ∧ ∀ h1 h2 : Heap, φ h1 → (∀ o, h1.get? a = some o → h2.get? a = some o) → φ h2

noncomputable def HOk (H : Hp) (h : Heap) : Prop := ∀ a o, H a = some o → ObjOk P w H h a o
end

section
variable {P : Program} {w : World} {H H' : Hp} {h h' : Heap} {a : Addr} {o : HO}
theorem ObjOk.lt (x : ObjOk P w H h a o) : a < h.objs.size := by
  cases o with
  | lst xs => obtain ⟨_, _, _, _, e⟩ := x; exact Heap.lt_size e
  | tup xs => obtain ⟨_, _, _, p⟩ := x; exact p.is.lt
  | dK kvs => obtain ⟨_, _, _, _, o, _, _, e, _⟩ := x; exact Heap.lt_size e
  | dT kvs => obtain ⟨_, _, _, _, o, _, _, e, _⟩ := x; exact Heap.lt_size e
  | set S n => obtain ⟨o, _, _, _, e, _⟩ := x; exact Heap.lt_size e
  | ins C dx fs => obtain ⟨_, _, _, e, _⟩ := x; exact Heap.lt_size e
  | own y => obtain ⟨_, e⟩ := x; exact Heap.lt_size e
  | xd fs => obtain ⟨_, ⟨_, _, _, e, _⟩, _⟩ := x; exact Heap.lt_size e
  | rng lo hi => obtain ⟨_, _, _, e⟩ := x; exact Heap.lt_size e
  | frz ob u => obtain ⟨e, _⟩ := x; exact Heap.lt_size e
  | tbl ps => exact Heap.lt_size (show h.get? a = some _ from x)
  | met f y => exact Heap.lt_size (show h.get? a = some _ from x)
  | ext φ => obtain ⟨_, ⟨_, e⟩, _⟩ := x; exact Heap.lt_size e
theorem Paired.mapP {α β : Type} {F G : α → β → Prop} : ∀ {l₁ : List α} {l₂ : List β}, Paired F l₁ l₂ → (∀ a b, F a b → G a b) → Paired G l₁ l₂
  | _, _, .nil, _ => .nil
  | _, _, .cons r t, f => .cons (f _ _ r) (Paired.mapP t f)
theorem ObjOk.stay (x : ObjOk P w H h a o) (k : ∀ b u, (b = a ∨ H b = some (.own a)) → h.get? b = some u → h'.get? b = some u)
    (ho : ∀ b, H b = some (.own a) → H' b = some (.own a)) (ht : ∀ b xs, H b = some (.tup xs) → H' b = some (.tup xs)) : ObjOk P w H' h' a o := by
  induction o with
  | lst xs => obtain ⟨z, its, n, r, e⟩ := x; exact ⟨z, its, n, r, k _ _ (.inl rfl) e⟩
  | tup xs => obtain ⟨z, its, r, ob, e, c⟩ := x; exact ⟨z, its, r, ob, k _ _ (.inl rfl) e, c⟩
  | dK kvs => obtain ⟨z, y, vs, r, ob, es, ep, e, c⟩ := x; exact ⟨z, y, vs, r, ob, es, ep, k _ _ (.inl rfl) e, c⟩
  | dT kvs =>
    obtain ⟨z, y, xs, r, ob, es, ep, e, c⟩ := x
    exact ⟨z, y, xs, Paired.mapP r fun p q z => ⟨z.1, ht _ _ z.2.1, z.2.2⟩, ob, es, ep, k _ _ (.inl rfl) e, c⟩
  | set S n => obtain ⟨ob, es, ep, t, e, c⟩ := x; exact ⟨ob, es, ep, t, k _ _ (.inl rfl) e, c⟩
  | ins C dx fs =>
    obtain ⟨d, z, ne, e, mA, ⟨od, es, ep, e2, c⟩, r⟩ := x
    exact ⟨ho _ d, z, ne, k _ _ (.inl rfl) e, mA, ⟨od, es, ep, k _ _ (.inr d) e2, c⟩, r⟩
  | own y => obtain ⟨ob, e⟩ := x; exact ⟨ob, k _ _ (.inl rfl) e⟩
  | xd fs => obtain ⟨mA, ⟨od, es, ep, e, c⟩, r⟩ := x; exact ⟨mA, ⟨od, es, ep, k _ _ (.inl rfl) e, c⟩, r⟩
  | rng lo hi => obtain ⟨t, u, v, e⟩ := x; exact ⟨t, u, v, k _ _ (.inl rfl) e⟩
  | frz ob u ih => obtain ⟨e, q⟩ := x; exact ⟨k _ _ (.inl rfl) e, ih q⟩
  | tbl ps =>
    have e : h.get? a = some { cls := .none, data := .fields ps } := x
    show h'.get? a = some { cls := .none, data := .fields ps }
    exact k a _ (.inl rfl) e
  | met f y =>
    have e : h.get? a = some (PySem.W.methodObj (.ref f) (.ref y)) := x
    show h'.get? a = some (PySem.W.methodObj (.ref f) (.ref y))
    exact k a _ (.inl rfl) e
  | ext φ => obtain ⟨p, ⟨o, e⟩, st⟩ := x; exact ⟨st _ _ p fun o q => k _ _ (.inl rfl) q, ⟨o, k _ _ (.inl rfl) e⟩, st⟩
theorem HOk.lt (x : HOk P w H h) (e : H a = some o) : a < h.objs.size := (x a o e).lt
theorem HOk.fresh (x : HOk P w H h) (e : h.objs.size ≤ a) : H a = none := by
  cases q : H a with
  | none => rfl
  | some u => exact absurd (Nat.lt_of_lt_of_le (x.lt q) e) (Nat.lt_irrefl _)

theorem HOk.kept (x : HOk P w H h) (k : ∀ b u, h.get? b = some u → h'.get? b = some u) : HOk P w H h' := fun a o e =>
  (x a o e).stay (fun b u _ q => k b u q) (fun _ q => q) fun _ _ q => q

theorem HOk.laid (x : HOk P w H h) (k : ∀ b u, h.get? b = some u → h'.get? b = some u) (hp : h.objs.size ≤ a) (new : ObjOk P w (upd H a o) h' a o) : HOk P w (upd H a o) h' := fun b u e => by
  have hn := x.fresh hp
  by_cases hb : b = a
  · subst hb; rw [upd_same] at e; cases e; exact new
  · rw [upd_ne hb] at e
    exact (x b u e).stay (fun c v _ q => k c v q) (fun c q => by rw [upd_ne (ne_of_none q hn)]; exact q) fun c xs q => by rw [upd_ne (ne_of_none q hn)]; exact q
end


noncomputable def Rd (H : Hp) (a : Addr) (u : HO) : Prop := H a = some u ∨ ∃ o, H a = some (.frz o u)
theorem Rd.ok {P : Program} {w : World} {H : Hp} {h : Heap} {a : Addr} {u : HO} (r : Rd H a u) (x : HOk P w H h) : ObjOk P w H h a u := by
  rcases r with r | ⟨o, r⟩
  · exact x a u r
  · obtain ⟨_, q⟩ := x a _ r
    exact q

noncomputable def Mut : Option HO → Prop
  | some (.lst _) => True
  | some (.dK _) => True
  | some (.dT _) => True
  | some (.set _ _) => True
  | some (.ins _ _ _) => True
  | some (.ext _) => True
  | _ => False
section
variable {P : Program} {w : World} {H : Hp} {h h' : Heap} {x e : Addr} {o' : HO}

theorem HOk.write (ok : HOk P w H h) (mu : Mut (H x)) (he : e = x ∨ H e = some (.own x)) (k : ∀ b u, b ≠ e → h.get? b = some u → h'.get? b = some u) (heo : ∃ u, h'.get? e = some u)
    (new : ObjOk P w (upd H x o') h' x o') : HOk P w (upd H x o') h' := fun b u q => by
  have nown : ∀ c y, H c = some (.own y) → c ≠ x := fun c y r z => by subst z; rw [r] at mu; exact mu
  have ntup : ∀ c xs, H c = some (.tup xs) → c ≠ x := fun c xs r z => by subst z; rw [r] at mu; exact mu
  by_cases hb : b = x
  · subst hb; rw [upd_same] at q; cases q; exact new
  · rw [upd_ne hb] at q
    by_cases hbe : b = e
    · have q' : H b = some (.own x) := by
        rcases he with z | z
        · exact absurd (hbe.trans z) hb
        · rw [hbe]; exact z
      rw [q] at q'; cases q'
      obtain ⟨v, hv⟩ := heo
      exact ⟨v, by rw [hbe]; exact hv⟩
    · refine (ok b u q).stay (fun c v hc r => k c v ?_ r) (fun c r => by rw [upd_ne (nown c b r)]; exact r) fun c xs r => by rw [upd_ne (ntup c xs r)]; exact r
      rcases hc with rfl | hc
      · exact hbe
      · rintro rfl
        rcases he with z | z
        · exact nown c b hc z
        · rw [hc] at z; cases z; exact hb rfl
end


structure Un (fs ex : List Addr) (H H' : Hp) (h h' : Heap) : Prop where
  keep : ∀ b o, h.get? b = some o → H b = none → b ∉ fs → b ∉ ex → h'.get? b = some o
  slot : ∀ b o, h.get? b = some o → H b = none → b ∈ fs → b ∉ ex → ∃ sl, h'.get? b = some { o with slots := sl }
  free : ∀ b o, h.get? b = some o → H b = none → b ∉ ex → H' b = none
  there : ∀ b o, h.get? b = some o → b ∉ ex → ∃ o', h'.get? b = some o'
  tups : ∀ b xs, H b = some (.tup xs) → H' b = some (.tup xs)
  frzs : ∀ b o u, H b = some (.frz o u) → H' b = some (.frz o u)
  tbls : ∀ b ps, H b = some (.tbl ps) → ∃ more, H' b = some (.tbl (ps ++ more))
section
variable {fs fs' ex ex' : List Addr} {H H1 H2 : Hp} {h h1 h2 h' : Heap} {a x e : Addr} {o : HO}
theorem Un.any (u : Un fs ex H H1 h h1) {b : Addr} {ob : Obj} (q : h.get? b = some ob) (n : H b = none) (hx : b ∉ ex) : ∃ sl, h1.get? b = some { ob with slots := sl } := by
  by_cases hb : b ∈ fs
  · exact u.slot b ob q n hb hx
  · exact ⟨ob.slots, u.keep b ob q n hb hx⟩
theorem Un.kept (k : ∀ b u, h.get? b = some u → h'.get? b = some u) : Un fs ex H H h h' :=
  ⟨fun b ob q _ _ _ => k b ob q, fun b ob q _ _ _ => ⟨ob.slots, k b ob q⟩, fun _ _ _ n _ => n, fun b ob q _ => ⟨ob, k b ob q⟩, fun _ _ q => q, fun _ _ _ q => q, fun _ ps q => ⟨#[], by rw [q]; simp⟩⟩
theorem Un.refl : Un fs ex H H h h := Un.kept fun _ _ q => q
theorem Un.laid (k : ∀ b u, h.get? b = some u → h'.get? b = some u) (hp : h.objs.size ≤ a) (hn : H a = none) : Un fs ex H (upd H a o) h h' where
  keep := fun b u q _ _ _ => k b u q
  slot := fun b u q _ _ _ => ⟨u.slots, k b u q⟩
  free := fun b u q n _ => by rw [upd_ne (Nat.ne_of_lt (Nat.lt_of_lt_of_le (Heap.lt_size q) hp))]; exact n
  there := fun b u q _ => ⟨u, k b u q⟩
  tups := fun b xs q => by rw [upd_ne (ne_of_none q hn)]; exact q
  frzs := fun b u xs q => by rw [upd_ne (ne_of_none q hn)]; exact q
  tbls := fun b ps q => ⟨#[], by rw [upd_ne (ne_of_none q hn), q]; simp⟩
theorem Un.write (mu : Mut (H x)) (he : e = x ∨ H e = some (.own x)) (k : ∀ b u, b ≠ e → h.get? b = some u → h'.get? b = some u) (heo : ∃ u, h'.get? e = some u) : Un fs ex H (upd H x o) h h' := by
  have hx : ∀ b, H b = none → b ≠ x := fun b n z => by subst z; rw [n] at mu; exact mu
  have hb : ∀ b, H b = none → b ≠ e := fun b n z => by
    subst z
    rcases he with r | r
    · exact hx b n r
    · rw [n] at r; cases r
  have hm : ∀ b u, H b = some u → ¬ Mut (some u) → b ≠ x := fun b u q nm z => by subst z; rw [q] at mu; exact nm mu
  refine ⟨fun b u q n _ _ => k b u (hb b n) q, fun b u q n _ _ => ⟨u.slots, k b u (hb b n) q⟩, fun b u q n _ => by rw [upd_ne (hx b n)]; exact n, fun b u q _ => ?_,
    fun b xs q => by rw [upd_ne (hm b _ q fun z => z)]; exact q, fun b u xs q => by rw [upd_ne (hm b _ q fun z => z)]; exact q, fun b ps q => ⟨#[], by rw [upd_ne (hm b _ q fun z => z), q]; simp⟩⟩
  by_cases hbe : b = e
  · subst hbe; exact heo
  · exact ⟨u, k b u hbe q⟩
end


noncomputable def trk (h : Heap) (H : Hp) : List Addr := (List.range h.objs.size).filter fun a => (H a).isSome
noncomputable def hidT (h : Heap) (H : Hp) : Heap := PySem.W.hideAll h (trk h H)
theorem hidT_size (h : Heap) (H : Hp) : (hidT h H).objs.size = h.objs.size := PySem.W.hideAll_size _ _
theorem hidT_get {h : Heap} {H : Hp} {b : Addr} {o : Obj} (e : h.get? b = some o) (n : H b = none) : (hidT h H).get? b = some o :=
  PySem.W.hideAll_get _ e fun hm => by
    have q : (H b).isSome = true := (List.mem_filter.mp hm).2
    rw [n] at q; simp at q
theorem of_hidT {h : Heap} {H : Hp} {b : Addr} {o : Obj} (e : (hidT h H).get? b = some o) : h.get? b = some o ∧ H b = none := by
  have e' : h.get? b = some o := PySem.W.of_hideAll (trk h H) e
  refine ⟨e', ?_⟩
  cases q : H b with
  | none => rfl
  | some x =>
    have hm : b ∈ trk h H := List.mem_filter.mpr ⟨List.mem_range.mpr (Heap.lt_size e'), by simp [q]⟩
    have z : (hidT h H).get? b = none := PySem.W.hideAll_none (trk h H) hm
    rw [z] at e; cases e


noncomputable def allNews (g h : Heap) (L : Addr) : List (Addr × Obj) := (List.range h.objs.size).filterMap fun a => if a = L ∨ (g.get? a).isSome = true then none else (h.get? a).map fun o => (a, o)
noncomputable def rest (g h : Heap) (L d : Addr) : List (Addr × Obj) := (allNews g h L).filter fun p => decide (p.1 ≠ d)
end L2

namespace L2
open PySem PySem.Spec PyProof.Rows


structure Mod (K : PySem.W.Frag) (mg : Str → Option Value) (base : Heap) : Prop where
  kin : K.In base
  glob : base.Ns mainGlobals mg
  blt : ∃ mb, base.Ns builtinsNs mb ∧ ∀ x : Str, x ≠ "__name__" → mb x = bootBuiltins x
  nolimit : base.NoLimit


structure Cx where
  prog : Program
  w : World
  K : PySem.W.Frag
  mg : Str → Option Value
  base : Heap
  A : Around
  N : List Str
  s_0 : Shared
  H_0 : Hp
  env : Env
  outer : List Env
  stack : List Env
  ex : List Addr
  fn : Str → Bool
  calm : Bool
  pn : List (Addr × Obj)
  xe : Value → Shared → Prop

noncomputable def frs (l : List Env) : List Addr := l.filterMap (·.frame)
noncomputable abbrev Cx.fs (X : Cx) : List Addr := frs X.outer

noncomputable def Vis (sc : Scope) (x : Str) : Prop := sc.names.lookup x = some .local ∨ sc.names.lookup x = some .cell ∨ sc.names.lookup x = some .free
noncomputable def Loc (sc : Scope) (x : Str) : Prop := sc.names.lookup x = some .local ∨ sc.names.lookup x = some .cell
noncomputable def Look (env : Env) (h : Heap) (m : Str → Option Value) (x : Str) (u : Value) : Prop :=
  (env.kindOf x = some .local ∧ m x = some u) ∨ ((env.kindOf x = some .cell ∨ env.kindOf x = some .free) ∧ ∃ c, env.cells.lookup x = some c ∧ h.IsCell c (some u))

structure Cx.Ok (X : Cx) : Prop where
  mod : Mod X.K X.mg X.base
  kind : X.env.scope.kind = .function
  glob : X.env.globals = mainGlobals
  blt : X.env.builtins = builtinsNs
  above : X.s_0.heap.objs.size ≤ X.env.locals
  inj : ∀ x y c, X.env.cells.lookup x = some c → X.env.cells.lookup y = some c → x = y
  has : ∀ x, (X.env.kindOf x = some .cell ∨ X.env.kindOf x = some .free) → ∃ c, X.env.cells.lookup x = some c
  cab : ∀ x c, X.fn x = true → X.env.cells.lookup x = some c → X.s_0.heap.objs.size ≤ c
  hd : X.calm = true → X.A.handled = none
  frames : X.A.frames = some X.stack
  stk : X.stack = X.outer ∨ (X.stack = X.env :: X.outer ∧ X.env.frame = some X.env.locals)
  exf : ∀ b ∈ X.ex, b ≠ X.env.locals ∧ ∀ x c, X.env.cells.lookup x = some c → c ≠ b
  bs : ∀ b o, X.base.get? b = some o → X.s_0.heap.get? b = some o ∧ X.H_0 b = none
  bsz : X.base.objs.size ≤ X.s_0.heap.objs.size
  noex : ∀ b o, X.base.get? b = some o → b ∉ X.ex
  exfs : ∀ b ∈ X.ex, b ∉ X.fs
  funs : X.s_0.heap.FunFrames X.base X.outer
  frf : ∀ b ∈ X.fs, X.H_0 b = none

structure Inv (X : Cx) (pins : List (Addr × Obj)) (σ : List (Option V)) (H : Hp) (s : Shared) : Prop where
  ok : X.Ok
  os : s.os = X.s_0.os
  bare : AllBare s.gens
  base : Un X.fs X.ex X.H_0 H X.s_0.heap s.heap
  loc : ∃ m, s.heap.Ns X.env.locals m ∧ ∀ (i : Nat) (x : Str) (v : V), X.N[i]? = some x → σ[i]? = some (some v) → Vis X.env.scope x → ∃ u, RelV v u ∧ Look X.env s.heap m x u
  cell : ∀ x c, X.env.cells.lookup x = some c → ∃ v, s.heap.IsCell c v
  free : H X.env.locals = none
  freeC : ∀ x c, X.env.cells.lookup x = some c → H c = none
  pin : ∀ p ∈ X.pn ++ pins, s.heap.get? p.1 = some p.2 ∧ H p.1 = none ∧ p.1 ≠ X.env.locals ∧ p.1 ∉ X.fs ∧ ∀ v, p.2.data ≠ .cell v
  hok : HOk X.prog X.w H s.heap
  len : σ.length = X.N.length

section
variable {X : Cx} {pins : List (Addr × Obj)} {σ : List (Option V)} {H H' : Hp} {s : Shared} {h' : Heap}

theorem Cx.Ok.nofr (ok : X.Ok) {b : Addr} {o : Obj} (e : X.base.get? b = some o) : b ∉ X.fs := fun hb => by
  have := (ok.funs.mem hb).1
  rw [e] at this; cases this
theorem Inv.bs (I : Inv X pins σ H s) : ∀ b o, X.base.get? b = some o → s.heap.get? b = some o ∧ H b = none := fun b o e =>
  ⟨I.base.keep b o (I.ok.bs b o e).1 (I.ok.bs b o e).2 (I.ok.nofr e) (I.ok.noex b o e), I.base.free b o (I.ok.bs b o e).1 (I.ok.bs b o e).2 (I.ok.noex b o e)⟩
theorem Inv.bk (I : Inv X pins σ H s) : ∀ b o, X.base.get? b = some o → s.heap.get? b = some o := fun b o e => (I.bs b o e).1
theorem Inv.mod (I : Inv X pins σ H s) : Mod X.K X.mg X.base := I.ok.mod
theorem Inv.kIn (I : Inv X pins σ H s) : X.K.In s.heap := I.ok.mod.kin.keeps I.bk
theorem Inv.lt (I : Inv X pins σ H s) : X.env.locals < s.heap.objs.size := let ⟨_, hn, _⟩ := I.loc; hn.lt
theorem Inv.sz (I : Inv X pins σ H s) : X.s_0.heap.objs.size ≤ s.heap.objs.size := Nat.le_trans I.ok.above (Nat.le_of_lt I.lt)
theorem Inv.nofs (I : Inv X pins σ H s) {a : Addr} (h : s.heap.objs.size ≤ a) : a ∉ X.fs := fun hb => by
  obtain ⟨_, o, ho, _⟩ := I.ok.funs.mem hb
  exact absurd (Nat.lt_of_lt_of_le (Heap.lt_size ho) (Nat.le_trans I.sz h)) (Nat.lt_irrefl _)
theorem Inv.cne (I : Inv X pins σ H s) : ∀ x c, X.env.cells.lookup x = some c → c ≠ X.env.locals := fun x c e z => by
  obtain ⟨v, o, ho, hd⟩ := I.cell x c e
  obtain ⟨m, ⟨o', es, ep, ho', hd', _⟩, _⟩ := I.loc
  rw [z, ho'] at ho; cases ho; rw [hd'] at hd; cases hd
theorem Inv.funs (I : Inv X pins σ H s) : s.heap.FunFrames X.base X.outer := by
  have all : ∀ (l : List Env), (∀ b ∈ frs l, b ∈ X.fs) → X.s_0.heap.FunFrames X.base l → s.heap.FunFrames X.base l := by
    intro l
    induction l with
    | nil => intro _ _; trivial
    | cons env r ih =>
      intro hs hl
      obtain ⟨hk, ⟨L, o, hf, hn, ho, hd⟩, hr⟩ := hl
      have hL : L ∈ X.fs := hs L (by unfold frs; rw [List.filterMap_cons, hf]; exact List.mem_cons_self)
      obtain ⟨sl, e⟩ := I.base.slot L o ho (I.ok.frf L hL) hL fun z => I.ok.exfs L z hL
      exact ⟨hk, ⟨L, _, hf, hn, e, hd⟩, ih (fun b hb => hs b (by unfold frs; rw [List.filterMap_cons, hf]; exact List.mem_cons_of_mem _ hb)) hr⟩
  exact all X.outer (fun _ hb => hb) I.ok.funs


theorem Inv.stack (I : Inv X pins σ H s) : s.heap.FunFrames X.base X.stack := by
  rcases I.ok.stk with e | ⟨e, hf⟩
  · rw [e]; exact I.funs
  · rw [e]
    obtain ⟨m, hn, _⟩ := I.loc
    refine .cons (by rw [I.ok.kind]; decide) hf hn ?_ I.funs
    exact Heap.get?_none_of_le (Nat.le_trans I.ok.bsz I.ok.above)
theorem Inv.stkSub (I : Inv X pins σ H s) : ∀ b ∈ frs X.stack, b ∈ X.env.locals :: X.fs := fun b hb => by
  rcases I.ok.stk with e | ⟨e, hf⟩
  · rw [e] at hb; exact List.mem_cons_of_mem _ hb
  · rw [e] at hb
    unfold frs at hb
    rw [List.filterMap_cons, hf] at hb
    exact hb
theorem Inv.stkFree (I : Inv X pins σ H s) : ∀ b ∈ frs X.stack, H b = none := fun b hb => by
  rcases List.mem_cons.mp (I.stkSub b hb) with e | hb
  · rw [e]; exact I.free
  · obtain ⟨_, o, ho, _⟩ := I.ok.funs.mem hb
    exact I.base.free b o ho (I.ok.frf b hb) fun z => I.ok.exfs b z hb


theorem Inv.step {g' : Array GenState} {t' : Nat} {d' : Drawn} {ch : List Addr} (I : Inv X pins σ H s)
    (hch : ∀ b ∈ ch, (b ∈ X.ex ∨ X.s_0.heap.objs.size ≤ b) ∧ b ≠ X.env.locals ∧ (∀ x c, X.env.cells.lookup x = some c → c ≠ b) ∧ ∀ p ∈ X.pn ++ pins, p.1 ≠ b)
    (keep : ∀ b o, b ≠ X.env.locals → b ∉ X.fs → b ∉ ch → s.heap.get? b = some o → H b = none → h'.get? b = some o)
    (slot : ∀ b o, b ≠ X.env.locals → b ∈ X.fs → b ∉ ch → s.heap.get? b = some o → H b = none → ∃ sl, h'.get? b = some { o with slots := sl }) (free : ∀ b o, b ∉ ch → s.heap.get? b = some o → H b = none → H' b = none)
    (there : ∀ b o, b ∉ ch → s.heap.get? b = some o → ∃ o', h'.get? b = some o')
    (tups : ∀ b xs, H b = some (.tup xs) → H' b = some (.tup xs)) (frzs : ∀ b o u, H b = some (.frz o u) → H' b = some (.frz o u)) (tbls : ∀ b ps, H b = some (.tbl ps) → ∃ more, H' b = some (.tbl (ps ++ more)))
    (ns : ∀ m, s.heap.Ns X.env.locals m → h'.Ns X.env.locals m) (hok : HOk X.prog X.w H' h') (hg : AllBare g') :
    Inv X pins σ H' { s with heap := h', gens := g', drawn := d', toks := t' } := by
  have neL : ∀ b o, X.s_0.heap.get? b = some o → b ≠ X.env.locals := fun b o e => Nat.ne_of_lt (Nat.lt_of_lt_of_le (Heap.lt_size e) I.ok.above)
  have neC : ∀ b o, X.s_0.heap.get? b = some o → b ∉ X.ex → b ∉ ch := fun b o e hx hb => by
    rcases (hch b hb).1 with z | z
    · exact hx z
    · exact absurd (Nat.lt_of_lt_of_le (Heap.lt_size e) z) (Nat.lt_irrefl _)
  have cellK : ∀ x c, X.env.cells.lookup x = some c → ∀ v, s.heap.IsCell c v → h'.IsCell c v := fun x c e v ⟨o, ho, hd⟩ => by
    have nch : c ∉ ch := fun z => (hch c z).2.2.1 x c e rfl
    by_cases hc : c ∈ X.fs
    · obtain ⟨sl, q⟩ := slot c o (I.cne x c e) hc nch ho (I.freeC x c e)
      exact ⟨_, q, hd⟩
    · exact ⟨o, keep c o (I.cne x c e) hc nch ho (I.freeC x c e), hd⟩
  refine ⟨I.ok, I.os, hg, ⟨fun b o e n hb hx => ?_, fun b o e n hb hx => ?_, fun b o e n hx => ?_, fun b o e hx => ?_, fun b xs e => tups b xs (I.base.tups b xs e), fun b o xs e => frzs b o xs (I.base.frzs b o xs e), fun b ps e => ?_⟩, ?_, fun x c e => ?_, ?_, fun x c e => ?_, fun p hp => ?_, hok, I.len⟩
  · exact keep b o (neL b o e) hb (neC b o e hx) (I.base.keep b o e n hb hx) (I.base.free b o e n hx)
  · obtain ⟨sl, e1⟩ := I.base.slot b o e n hb hx
    obtain ⟨sl', e2⟩ := slot b _ (neL b o e) hb (neC b o e hx) e1 (I.base.free b o e n hx)
    exact ⟨sl', e2⟩
  · obtain ⟨o', e1⟩ := I.base.there b o e hx
    exact free b o' (neC b o e hx) e1 (I.base.free b o e n hx)
  · obtain ⟨o', e1⟩ := I.base.there b o e hx
    exact there b o' (neC b o e hx) e1
  · obtain ⟨m1, e1⟩ := I.base.tbls b ps e
    obtain ⟨m2, e2⟩ := tbls b _ e1
    exact ⟨m1 ++ m2, by rw [e2, Array.append_assoc]⟩
  · obtain ⟨m, hn, hl⟩ := I.loc
    refine ⟨m, ns m hn, fun i x v e1 e2 e3 => ?_⟩
    obtain ⟨u, r, l⟩ := hl i x v e1 e2 e3
    refine ⟨u, r, ?_⟩
    rcases l with l | ⟨k, c, e, z⟩
    · exact .inl l
    · exact .inr ⟨k, c, e, cellK x c e _ z⟩
  · obtain ⟨v, z⟩ := I.cell x c e
    exact ⟨v, cellK x c e v z⟩
  · obtain ⟨m, ⟨o, _, _, ho, _⟩, _⟩ := I.loc
    exact free _ o (fun z => (hch _ z).2.1 rfl) ho I.free
  · obtain ⟨v, o, ho, hd⟩ := I.cell x c e
    exact free c o (fun z => (hch c z).2.2.1 x c e rfl) ho (I.freeC x c e)
  · obtain ⟨e, n, ne, nf, d⟩ := I.pin p hp
    have nch : p.1 ∉ ch := fun z => (hch p.1 z).2.2.2 p hp rfl
    exact ⟨keep p.1 p.2 ne nf nch e n, free p.1 p.2 nch e n, ne, nf, d⟩

theorem Inv.un {t' : Nat} (I : Inv X pins σ H s) (u : Un X.fs [] H H' s.heap h') (hok : HOk X.prog X.w H' h') : Inv X pins σ H' { s with heap := h', toks := t' } := by
  obtain ⟨m, ⟨o, es, ep, ho, r⟩, _⟩ := id I.loc
  obtain ⟨sl, hL⟩ := u.any ho I.free (by simp)
  exact I.step (g' := s.gens) (d' := s.drawn) (ch := []) (fun _ z => nomatch z) (fun b o _ hb _ e n => u.keep b o e n hb (by simp)) (fun b o _ hb _ e n => u.slot b o e n hb (by simp)) (fun b o _ e n => u.free b o e n (by simp)) (fun b o _ e => u.there b o e (by simp)) u.tups u.frzs u.tbls (fun m' hm => by
    obtain ⟨o', es', ep', ho', r'⟩ := hm
    rw [ho] at ho'; cases ho'
    exact ⟨_, es', ep', hL, r'⟩) hok I.bare

theorem Inv.call {g' : Array GenState} {t' : Nat} {d' : Drawn} {ch : List Addr} (I : Inv X pins σ H s) (u : Un (frs X.stack) ch H H' s.heap h') (hok : HOk X.prog X.w H' h') (hg : AllBare g')
    (hch : ∀ b ∈ ch, (b ∈ X.ex ∨ X.s_0.heap.objs.size ≤ b) ∧ b ≠ X.env.locals ∧ (∀ x c, X.env.cells.lookup x = some c → c ≠ b) ∧ ∀ p ∈ X.pn ++ pins, p.1 ≠ b) :
    Inv X pins σ H' { s with heap := h', gens := g', drawn := d', toks := t' } := by
  obtain ⟨m, ⟨o, es, ep, ho, r⟩, _⟩ := id I.loc
  obtain ⟨sl, hL⟩ := u.any ho I.free fun z => (hch _ z).2.1 rfl
  exact I.step (ch := ch) hch (fun b o hL hb hc e n => u.keep b o e n (fun z => (List.mem_cons.mp (I.stkSub b z)).elim hL hb) hc) (fun b o _ _ hc e n => u.any e n hc) (fun b o hc e n => u.free b o e n hc) (fun b o hc e => u.there b o e hc) u.tups u.frzs u.tbls (fun m' hm => by
    obtain ⟨o', es', ep', ho', r'⟩ := hm
    rw [ho] at ho'; cases ho'
    exact ⟨_, es', ep', hL, r'⟩) hok hg

theorem Inv.turned {t' : Nat} {it : Addr} (I : Inv X pins σ H s) (k : ∀ b o, b ≠ it → s.heap.get? b = some o → h'.get? b = some o) (hn : H it = none) (hL : it ≠ X.env.locals)
    (h1 : it ∈ X.ex ∨ X.s_0.heap.objs.size ≤ it) (h2 : ∀ x c, X.env.cells.lookup x = some c → c ≠ it) (h3 : ∀ p ∈ X.pn ++ pins, p.1 ≠ it) : Inv X pins σ H { s with heap := h', toks := t' } := by
  have nit : ∀ b u, H b = some u → b ≠ it := fun b u e z => by rw [z, hn] at e; cases e
  refine I.step (g' := s.gens) (d' := s.drawn) (ch := [it]) (fun b hb => ?_) (fun b o _ _ hc e _ => k b o (fun z => hc (by simp [z])) e) (fun b o _ _ hc e _ => ⟨o.slots, k b o (fun z => hc (by simp [z])) e⟩) (fun _ _ _ _ n => n)
    (fun b o hc e => ⟨o, k b o (fun z => hc (by simp [z])) e⟩) (fun _ _ e => e) (fun _ _ _ e => e) (fun b ps e => ⟨#[], by rw [e]; simp⟩) (fun m hm => ?_) (fun b u e => ?_) I.bare
  · have e : b = it := by simpa using hb
    subst e
    exact ⟨h1, hL, h2, h3⟩
  · obtain ⟨o, es, ep, ho, r⟩ := hm
    exact ⟨o, es, ep, k _ o (Ne.symm hL) ho, r⟩
  · refine (I.hok b u e).stay (fun c v hc q => k c v ?_ q) (fun _ q => q) fun _ _ q => q
    rcases hc with z | z
    · rw [z]; exact nit b u e
    · exact nit c _ z
theorem Inv.tok (I : Inv X pins σ H s) (t : Nat) : Inv X pins σ H { s with toks := t } := I.un (h' := s.heap) (t' := t) Un.refl I.hok

theorem Inv.kept {t' : Nat} (I : Inv X pins σ H s) (k : ∀ b u, s.heap.get? b = some u → h'.get? b = some u) : Inv X pins σ H { s with heap := h', toks := t' } := I.un (Un.kept k) (I.hok.kept k)

theorem Inv.laid {a : Addr} {o : HO} {t' : Nat} (I : Inv X pins σ H s) (k : ∀ b u, s.heap.get? b = some u → h'.get? b = some u) (hp : s.heap.objs.size ≤ a) (new : ObjOk X.prog X.w (upd H a o) h' a o) :
    Inv X pins σ (upd H a o) { s with heap := h', toks := t' } := I.un (Un.laid k hp (I.hok.fresh hp)) (I.hok.laid k hp new)

theorem Inv.write {x e : Addr} {o : HO} {t' : Nat} (I : Inv X pins σ H s) (mu : Mut (H x)) (he : e = x ∨ H e = some (.own x)) (k : ∀ b u, b ≠ e → s.heap.get? b = some u → h'.get? b = some u) (heo : ∃ u, h'.get? e = some u)
    (new : ObjOk X.prog X.w (upd H x o) h' x o) : Inv X pins σ (upd H x o) { s with heap := h', toks := t' } := I.un (Un.write mu he k heo) (I.hok.write mu he k heo new)

theorem Inv.weak {σ' : List (Option V)} (I : Inv X pins σ H s) (hl : σ'.length = σ.length) (w : ∀ (i : Nat) v, σ'[i]? = some (some v) → σ[i]? = some (some v)) : Inv X pins σ' H s :=
  ⟨I.ok, I.os, I.bare, I.base, let ⟨m, hn, hl'⟩ := I.loc; ⟨m, hn, fun i x v e1 e2 e3 => hl' i x v e1 (w i v e2) e3⟩, I.cell, I.free, I.freeC, I.pin, I.hok, hl.trans I.len⟩
theorem Inv.pins_of {pins' : List (Addr × Obj)} (I : Inv X pins σ H s) (h : ∀ p ∈ pins', s.heap.get? p.1 = some p.2 ∧ H p.1 = none ∧ p.1 ≠ X.env.locals ∧ p.1 ∉ X.fs ∧ ∀ v, p.2.data ≠ .cell v) : Inv X pins' σ H s :=
  ⟨I.ok, I.os, I.bare, I.base, I.loc, I.cell, I.free, I.freeC, fun p hp => (List.mem_append.mp hp).elim (fun z => I.pin p (List.mem_append_left _ z)) (h p), I.hok, I.len⟩

theorem nodup_ix {N : List Str} (hN : N.Nodup) {i j : Nat} {x : Str} (a : N[i]? = some x) (b : N[j]? = some x) : i = j := by
  obtain ⟨h1, e1⟩ := List.getElem?_eq_some_iff.mp a
  obtain ⟨h2, e2⟩ := List.getElem?_eq_some_iff.mp b
  exact (List.getElem_inj hN).mp (e1.trans e2.symm)


theorem store_ok2 {M : Model} {A : Around} {E : Value → Shared → Prop} {i : Nat} {x : Str} {v : V} {u : Value} {Q : Unit → Shared → Prop} (I : Inv X pins σ H s) (hN : X.N.Nodup) (hi : X.N[i]? = some x) (hx : Loc X.env.scope x) (r : RelV v u)
    (h : ∀ s', Inv X pins (σ.set i (some v)) H s' → (∃ a, Heap.SameBut a s.heap s'.heap ∧ (a = X.env.locals ∨ X.env.cells.lookup x = some a)) → Q () s') (hf : X.fn x = true ∨ X.env.scope.names.lookup x = some .local := by first | exact .inl rfl | exact .inr rfl | assumption) : wpAny M A (storeName X.env x u) Q E s := by
  obtain ⟨m, hn, hl⟩ := id I.loc
  have hcls : (X.env.scope.kind == .class || (X.env.scope.kind == .module && X.env.locals != X.env.globals)) = false := by rw [I.ok.kind]; rfl
  have hiσ : i < σ.length := by rw [I.len]; exact (List.getElem?_eq_some_iff.mp hi).1
  have cne := I.cne
  have tracked : ∀ {a : Addr} {h' : Heap}, (∃ o, s.heap.get? a = some o ∧ H a = none) → Heap.SameBut a s.heap h' → HOk X.prog X.w H h' := fun {a h'} ha hs b ob e => by
    obtain ⟨_, _, hfree⟩ := ha
    refine (I.hok b ob e).stay (fun c w' hc q => (hs.2 c ?_).trans q) (fun _ q => q) fun _ _ q => q
    rintro rfl
    rcases hc with rfl | hc
    · rw [hfree] at e; cases e
    · rw [hfree] at hc; cases hc
  rcases hx with hk | hk
  · refine wpAny_storeName_local hk hn (fun h' hn' hs => ?_) hcls
    obtain ⟨oL, _, _, hoL, _⟩ := id hn
    refine h _ ⟨I.ok, I.os, I.bare, ⟨fun b o e n hb hx => ?_, fun b o e n hb hx => ?_, I.base.free, fun b o e hx => ?_, I.base.tups, I.base.frzs, I.base.tbls⟩, ⟨_, hn', fun j y v' e1 e2 e3 => ?_⟩, fun y c e => ?_, I.free, I.freeC, fun p hp => ?_, tracked ⟨oL, hoL, I.free⟩ hs, by simpa using I.len⟩ ⟨_, hs, .inl rfl⟩
    · exact (hs.2 b (Nat.ne_of_lt (Nat.lt_of_lt_of_le (Heap.lt_size e) I.ok.above))).trans (I.base.keep b o e n hb hx)
    · obtain ⟨sl, e1⟩ := I.base.slot b o e n hb hx
      exact ⟨sl, (hs.2 b (Nat.ne_of_lt (Nat.lt_of_lt_of_le (Heap.lt_size e) I.ok.above))).trans e1⟩
    · obtain ⟨o', e1⟩ := I.base.there b o e hx
      exact ⟨o', (hs.2 b (Nat.ne_of_lt (Nat.lt_of_lt_of_le (Heap.lt_size e) I.ok.above))).trans e1⟩
    · by_cases hj : j = i
      · subst hj
        rw [hi] at e1; cases e1
        rw [List.getElem?_set_self hiσ] at e2
        cases e2
        exact ⟨u, r, .inl ⟨hk, by simp⟩⟩
      · rw [List.getElem?_set_ne (Ne.symm hj)] at e2
        obtain ⟨u', r', q⟩ := hl j y v' e1 e2 e3
        refine ⟨u', r', ?_⟩
        rcases q with ⟨k, e⟩ | ⟨k, c, e, z⟩
        · refine .inl ⟨k, ?_⟩
          have : y ≠ x := fun e => hj (nodup_ix hN e1 (e ▸ hi))
          simp [this, e]
        · exact .inr ⟨k, c, e, z.sameBut hs (cne y c e)⟩
    · obtain ⟨w', z⟩ := I.cell y c e
      exact ⟨w', z.sameBut hs (cne y c e)⟩
    · obtain ⟨e, n, ne, nf, d⟩ := I.pin p hp
      exact ⟨(hs.2 p.1 ne).trans e, n, ne, nf, d⟩
  · have hfn : X.fn x = true := by
      rcases hf with z | z
      · exact z
      · rw [z] at hk; cases hk
    obtain ⟨c, hc⟩ := I.ok.has x (.inl hk)
    obtain ⟨w', z⟩ := I.cell x c hc
    refine wpAny_storeName_cell I.ok.kind hk hc z (fun h' hc' hs => ?_)
    obtain ⟨oc, hoc, hocd⟩ := id z
    refine h { s with heap := h' } ⟨I.ok, I.os, I.bare, ⟨fun b o e n hb hx => ?_, fun b o e n hb hx => ?_, I.base.free, fun b o e hx => ?_, I.base.tups, I.base.frzs, I.base.tbls⟩, ⟨m, hn.sameBut hs (Ne.symm (cne x c hc)), fun j y v' e1 e2 e3 => ?_⟩, fun y c' e => ?_, I.free, I.freeC, fun p hp => ?_, tracked ⟨oc, hoc, I.freeC x c hc⟩ hs, by simpa using I.len⟩ ⟨c, hs, .inr hc⟩
    · exact (hs.2 b (Nat.ne_of_lt (Nat.lt_of_lt_of_le (Heap.lt_size e) (I.ok.cab x c hfn hc)))).trans (I.base.keep b o e n hb hx)
    · obtain ⟨sl, e1⟩ := I.base.slot b o e n hb hx
      exact ⟨sl, (hs.2 b (Nat.ne_of_lt (Nat.lt_of_lt_of_le (Heap.lt_size e) (I.ok.cab x c hfn hc)))).trans e1⟩
    · obtain ⟨o', e1⟩ := I.base.there b o e hx
      exact ⟨o', (hs.2 b (Nat.ne_of_lt (Nat.lt_of_lt_of_le (Heap.lt_size e) (I.ok.cab x c hfn hc)))).trans e1⟩
    · by_cases hj : j = i
      · subst hj
        rw [hi] at e1; cases e1
        rw [List.getElem?_set_self hiσ] at e2
        cases e2
        exact ⟨u, r, .inr ⟨.inl hk, c, hc, hc'⟩⟩
      · rw [List.getElem?_set_ne (Ne.symm hj)] at e2
        obtain ⟨u', r', q⟩ := hl j y v' e1 e2 e3
        refine ⟨u', r', ?_⟩
        rcases q with q | ⟨k, c', e, z'⟩
        · exact .inl q
        · refine .inr ⟨k, c', e, z'.sameBut hs ?_⟩
          rintro rfl
          exact hj (nodup_ix hN e1 (I.ok.inj _ _ _ e hc ▸ hi))
    · by_cases hcc : c' = c
      · subst hcc; exact ⟨_, hc'⟩
      · obtain ⟨w2, z2⟩ := I.cell y c' e
        exact ⟨w2, z2.sameBut hs hcc⟩
    · obtain ⟨e, n, ne, nf, d⟩ := I.pin p hp
      refine ⟨(hs.2 p.1 ?_).trans e, n, ne, nf, d⟩
      intro q
      rw [q, hoc] at e
      have q' : oc = p.2 := Option.some.inj e
      exact d w' (by rw [← q']; exact hocd)
theorem store_ok {M : Model} {A : Around} {E : Value → Shared → Prop} {i : Nat} {x : Str} {v : V} {u : Value} {Q : Unit → Shared → Prop} (I : Inv X pins σ H s) (hN : X.N.Nodup) (hi : X.N[i]? = some x) (hx : Loc X.env.scope x) (r : RelV v u)
    (h : ∀ s', Inv X pins (σ.set i (some v)) H s' → Q () s') (hf : X.fn x = true ∨ X.env.scope.names.lookup x = some .local := by first | exact .inl rfl | exact .inr rfl | assumption) : wpAny M A (storeName X.env x u) Q E s :=
  store_ok2 I hN hi hx r (fun s' I' _ => h s' I') hf

theorem Inv.call' {s' : Shared} {ch : List Addr} (I : Inv X pins σ H s) (ho : s'.os = s.os) (u : Un (frs X.stack) ch H H' s.heap s'.heap) (hok : HOk X.prog X.w H' s'.heap) (hg : AllBare s'.gens)
    (hch : ∀ b ∈ ch, (b ∈ X.ex ∨ X.s_0.heap.objs.size ≤ b) ∧ b ≠ X.env.locals ∧ (∀ x c, X.env.cells.lookup x = some c → c ≠ b) ∧ ∀ p ∈ X.pn ++ pins, p.1 ≠ b) : Inv X pins σ H' s' := by
  obtain ⟨h', g', d', t', o'⟩ := s'
  have e : o' = s.os := ho
  subst e
  exact I.call (g' := g') (t' := t') (d' := d') u hok hg hch
end



noncomputable abbrev XK := Value → Option Addr → Hp → Prop
noncomputable abbrev St := List (Option V)
noncomputable abbrev VK := V → Hp → Prop

noncomputable abbrev TE := St → Hp → VK → Prop
noncomputable abbrev TT := St → Hp → (Bool → Hp → Prop) → Prop
noncomputable abbrev TA := St → Hp → (List V → Hp → Prop) → Prop

structure Ends where
  nx : St → Hp → Prop
  rt : VK
  bk : St → Hp → Prop := fun _ _ => False
  ct : St → Hp → Prop := fun _ _ => False
noncomputable abbrev TS := Ends → St → Hp → Prop

noncomputable def EP (X : Cx) (pins : List (Addr × Obj)) (σ : St) (Q : VK) (u : Value) (s' : Shared) : Prop := ∃ v H', Inv X pins σ H' s' ∧ RelV v u ∧ Q v H'
noncomputable def TP (X : Cx) (pins : List (Addr × Obj)) (σ : St) (Q : Bool → Hp → Prop) (b : Bool) (s' : Shared) : Prop := ∃ H', Inv X pins σ H' s' ∧ Q b H'
noncomputable def AP (X : Cx) (pins : List (Addr × Obj)) (σ : St) (Q : List V → Hp → Prop) (us : List Value) (s' : Shared) : Prop := ∃ vs H', Inv X pins σ H' s' ∧ Vals vs us ∧ Q vs H'
noncomputable def SP (X : Cx) (pins : List (Addr × Obj)) (D : Ends) (f : Flow) (s' : Shared) : Prop :=
  match f with
  | .next => ∃ σ' H', Inv X pins σ' H' s' ∧ D.nx σ' H'
  | .brk => ∃ σ' H', Inv X pins σ' H' s' ∧ D.bk σ' H'
  | .cont => ∃ σ' H', Inv X pins σ' H' s' ∧ D.ct σ' H'
  | .ret u => ∃ v σ' H', Inv X pins σ' H' s' ∧ RelV v u ∧ D.rt v H'

structure PE (X : Cx) (e : Expr) (t : TE) : Prop where
  run :
    ∀ (pins : List (Addr × Obj)) (s : Shared) (σ : St) (H : Hp) (Q : VK), Inv X pins σ H s → t σ H Q → wpAny (model X.prog X.w) X.A (eval e X.env) (EP X pins σ Q) X.xe s
instance {X : Cx} {e : Expr} {t : TE} : CoeFun (PE X e t) (fun _ =>
  ∀ (pins : List (Addr × Obj)) (s : Shared) (σ : St) (H : Hp) (Q : VK), Inv X pins σ H s → t σ H Q → wpAny (model X.prog X.w) X.A (eval e X.env) (EP X pins σ Q) X.xe s) := ⟨PE.run⟩
structure PT (X : Cx) (e : Expr) (t : TT) : Prop where
  run :
    ∀ (pins : List (Addr × Obj)) (s : Shared) (σ : St) (H : Hp) (Q : Bool → Hp → Prop), Inv X pins σ H s → t σ H Q → wpAny (model X.prog X.w) X.A (isTrue e X.env (eval e X.env)) (TP X pins σ Q) X.xe s
instance {X : Cx} {e : Expr} {t : TT} : CoeFun (PT X e t) (fun _ =>
  ∀ (pins : List (Addr × Obj)) (s : Shared) (σ : St) (H : Hp) (Q : Bool → Hp → Prop), Inv X pins σ H s → t σ H Q → wpAny (model X.prog X.w) X.A (isTrue e X.env (eval e X.env)) (TP X pins σ Q) X.xe s) := ⟨PT.run⟩

structure PW (X : Cx) (e : Expr) (t : TT) : Prop where
  run :
    ∀ (whole : Sem Value) (pins : List (Addr × Obj)) (s : Shared) (σ : St) (H : Hp) (Q : Bool → Hp → Prop), Inv X pins σ H s → t σ H Q → wpAny (model X.prog X.w) X.A (isTrue e X.env whole) (TP X pins σ Q) X.xe s
instance {X : Cx} {e : Expr} {t : TT} : CoeFun (PW X e t) (fun _ =>
  ∀ (whole : Sem Value) (pins : List (Addr × Obj)) (s : Shared) (σ : St) (H : Hp) (Q : Bool → Hp → Prop), Inv X pins σ H s → t σ H Q → wpAny (model X.prog X.w) X.A (isTrue e X.env whole) (TP X pins σ Q) X.xe s) := ⟨PW.run⟩
theorem PW.pt {X : Cx} {e : Expr} {t : TT} (h : PW X e t) : PT X e t := ⟨h.run _⟩

structure PA (X : Cx) (es : List Expr) (t : TA) : Prop where
  run :
    ∀ (pos : Pos) (pins : List (Addr × Obj)) (s : Shared) (σ : St) (H : Hp) (Q : List V → Hp → Prop), Inv X pins σ H s → t σ H Q → wpAny (model X.prog X.w) X.A (spliced (backTo pos (starEach es X.env))) (AP X pins σ Q) X.xe s
instance {X : Cx} {es : List Expr} {t : TA} : CoeFun (PA X es t) (fun _ =>
  ∀ (pos : Pos) (pins : List (Addr × Obj)) (s : Shared) (σ : St) (H : Hp) (Q : List V → Hp → Prop), Inv X pins σ H s → t σ H Q → wpAny (model X.prog X.w) X.A (spliced (backTo pos (starEach es X.env))) (AP X pins σ Q) X.xe s) := ⟨PA.run⟩
structure PS (X : Cx) (st : Stmt) (t : TS) : Prop where
  run :
    ∀ (pins : List (Addr × Obj)) (s : Shared) (σ : St) (H : Hp) (D : Ends), Inv X pins σ H s → t D σ H → wpAny (model X.prog X.w) X.A (exec st X.env) (SP X pins D) X.xe s
instance {X : Cx} {st : Stmt} {t : TS} : CoeFun (PS X st t) (fun _ =>
  ∀ (pins : List (Addr × Obj)) (s : Shared) (σ : St) (H : Hp) (D : Ends), Inv X pins σ H s → t D σ H → wpAny (model X.prog X.w) X.A (exec st X.env) (SP X pins D) X.xe s) := ⟨PS.run⟩
structure PSs (X : Cx) (st : List Stmt) (t : TS) : Prop where
  run :
    ∀ (pins : List (Addr × Obj)) (s : Shared) (σ : St) (H : Hp) (D : Ends), Inv X pins σ H s → t D σ H → wpAny (model X.prog X.w) X.A (execs st X.env) (SP X pins D) X.xe s
instance {X : Cx} {st : List Stmt} {t : TS} : CoeFun (PSs X st t) (fun _ =>
  ∀ (pins : List (Addr × Obj)) (s : Shared) (σ : St) (H : Hp) (D : Ends), Inv X pins σ H s → t D σ H → wpAny (model X.prog X.w) X.A (execs st X.env) (SP X pins D) X.xe s) := ⟨PSs.run⟩

theorem thn {α : Type} {t : Sem α} {Q Q' : α → Shared → Prop} {M : Model} {A : Around} {E : Value → Shared → Prop} {s : Shared} (h : wpAny M A t Q E s) (hQ : ∀ a s, Q a s → Q' a s) : wpAny M A t Q' E s := wpAny_mono h hQ fun _ _ x => x
end L2

namespace L2
open PySem PySem.Spec PyProof.Rows
section
variable {X : Cx}


noncomputable def tVar (i : Nat) : TE := fun σ H Q => ∃ v, σ[i]? = some (some v) ∧ Q v H
noncomputable def tC (v : V) : TE := fun _ H Q => Q v H
theorem pe_var {i : Nat} {x : Str} {pos : Pos} (hN : X.N[i]? = some x) (hv : Vis X.env.scope x) (hd : (x == ("__debug__" : Str)) = false := by decide) (hcd : (x == ("__classdict__" : Str)) = false := by decide) : PE X (.Name x pos) (tVar i) := by
  constructor
  intro pins s σ H Q I h
  obtain ⟨v, e, h⟩ := h
  obtain ⟨m, hn, hl⟩ := I.loc
  obtain ⟨u, r, l⟩ := hl i x v hN e hv
  have fin : EP X pins σ Q u s := ⟨v, H, I, r, h⟩
  rcases l with ⟨hk, hm⟩ | ⟨hk, c, hc, hcell⟩
  · exact wpAny_Name (wpAny_loadName_local I.ok.kind hk hn hm fin) hd
  · rcases hk with hk | hk
    · exact wpAny_Name (wpAny_loadName_cell I.ok.kind hk hc hcell fin) hd
    · exact wpAny_Name (wpAny_loadName_free I.ok.kind hk hc hcell fin hcd) hd
theorem pe_int {i j pos} : PE X (.Constant (.int i) j pos) (tC (.int i)) := ⟨fun _ _ _ H _ I h => wpAny_Constant_int ⟨.int i, H, I.tok _, ⟨_, rfl⟩, h⟩⟩
theorem pe_bl {b j pos} : PE X (.Constant (.bool b) j pos) (tC (.bl b)) := ⟨fun _ _ _ H _ I h => Constant_bool ⟨.bl b, H, I, rfl, h⟩⟩
theorem pe_non {j pos} : PE X (.Constant .none j pos) (tC .non) := ⟨fun _ _ _ H _ I h => Constant_none ⟨.non, H, I, rfl, h⟩⟩
theorem pe_str {x j pos} : PE X (.Constant (.str x) j pos) (tC (.str x)) := ⟨fun _ _ _ H _ I h => Calls.Constant_str ⟨.str x, H, I.tok _, ⟨_, rfl⟩, h⟩⟩


noncomputable def Gl (X : Cx) (x : Str) : Prop := X.env.kindOf x = some .globalImplicit
theorem ld_glob {E : Value → Shared → Prop} {pins : List (Addr × Obj)} {s : Shared} {σ : St} {H : Hp} {x : Str} {u : Value} {pos : Pos} {Q : Value → Shared → Prop} (I : Inv X pins σ H s) (hg : Gl X x) (hm : X.mg x = some u) (h : Q u s)
    (hd : (x == ("__debug__" : Str)) = false := by decide) : wpAny (model X.prog X.w) X.A (eval (.Name x pos) X.env) Q E s :=
  Calls.Name_function_global I.ok.kind hg (Calls.loadGlobal_global (by rw [I.ok.glob]; exact I.mod.glob.keeps I.bk) hm h) hd
theorem ld_blt {E : Value → Shared → Prop} {pins : List (Addr × Obj)} {s : Shared} {σ : St} {H : Hp} {x : Str} {u : Value} {pos : Pos} {Q : Value → Shared → Prop} (I : Inv X pins σ H s) (hg : Gl X x) (hm : X.mg x = none) (hv : bootBuiltins x = some u) (h : Q u s)
    (hn : x ≠ "__name__" := by decide) (hd : (x == ("__debug__" : Str)) = false := by decide) : wpAny (model X.prog X.w) X.A (eval (.Name x pos) X.env) Q E s := by
  obtain ⟨mb, h1, h2⟩ := I.mod.blt
  exact Calls.Name_function_global I.ok.kind hg (Calls.loadGlobal_builtin (by rw [I.ok.glob]; exact I.mod.glob.keeps I.bk) hm (by rw [I.ok.blt]; exact h1.keeps I.bk) ((h2 x hn).trans hv) h) hd

theorem pe_glob {x : Str} {v : V} {u : Value} {pos : Pos} (hg : Gl X x) (hm : X.mg x = some u) (r : RelV v u) (hd : (x == ("__debug__" : Str)) = false := by decide) : PE X (.Name x pos) (tC v) :=
  ⟨fun _ _ _ H _ I h => ld_glob I hg hm ⟨v, H, I, r, h⟩ hd⟩
theorem pe_bltn {x : Str} {v : V} {u : Value} {pos : Pos} (hg : Gl X x) (hm : X.mg x = none) (hv : bootBuiltins x = some u) (r : RelV v u) (hn : x ≠ "__name__" := by decide) (hd : (x == ("__debug__" : Str)) = false := by decide) : PE X (.Name x pos) (tC v) :=
  ⟨fun _ _ _ H _ I h => ld_blt I hg hm hv ⟨v, H, I, r, h⟩ hn hd⟩



variable {a b : Expr} {ta tb : TE} {pos : Pos}
structure PC (X : Cx) (op : CmpOp) (a b : Expr) (t : TE) : Prop where
  run :
    ∀ (pins : List (Addr × Obj)) (s : Shared) (σ : St) (H : Hp) (Q : VK), Inv X pins σ H s → t σ H Q →
      wpAny (model X.prog X.w) X.A (eval a X.env) (fun v s₁ => wpAny (model X.prog X.w) X.A (eval b X.env) (fun u s₂ => wpAny (model X.prog X.w) X.A (compareOp op v u) (EP X pins σ Q) X.xe s₂) X.xe s₁) X.xe s
instance {X : Cx} {op : CmpOp} {a b : Expr} {t : TE} : CoeFun (PC X op a b t) (fun _ =>
  ∀ (pins : List (Addr × Obj)) (s : Shared) (σ : St) (H : Hp) (Q : VK), Inv X pins σ H s → t σ H Q →
    wpAny (model X.prog X.w) X.A (eval a X.env) (fun v s₁ => wpAny (model X.prog X.w) X.A (eval b X.env) (fun u s₂ => wpAny (model X.prog X.w) X.A (compareOp op v u) (EP X pins σ Q) X.xe s₂) X.xe s₁) X.xe s) := ⟨PC.run⟩
noncomputable def tB (t : TE) : TT := fun σ H Q => t σ H fun x H1 => ∃ c, x = .bl c ∧ Q c H1
theorem pt_val {e : Expr} {t : TE} (h : PE X e t) (he : ∀ whole, isTrue e X.env whole = (do let v ← whole; standAt e.pos; holding [v] (truthy v)) := by intro _; rfl) : PT X e (tB t) := by
  constructor
  intro pins s σ H Q I hw
  refine isTrue_plain (thn (h pins s σ H _ I hw) fun v s1 ⟨x, H1, I1, r1, q1⟩ => ?_) (he _)
  obtain ⟨d, rfl, q⟩ := q1
  cases r1
  exact wpAny_truthy_bool ⟨H1, I1, q⟩


variable {tA tB' : TT} {rest : List Expr}
noncomputable def tAnd (t u : TT) : TT := fun σ H Q => t σ H fun c H1 => if c = true then u σ H1 Q else Q false H1
noncomputable def tOr (t u : TT) : TT := fun σ H Q => t σ H fun c H1 => if c = true then Q true H1 else u σ H1 Q
noncomputable def tNot (t : TT) : TT := fun σ H Q => t σ H fun c H1 => Q (!c) H1
theorem pw_and1 (ha : PT X a tA) : PW X (.BoolOp .And [a] pos) tA := by
  constructor
  intro wh pins s σ H Q I h
  refine isTrue_and (thn (ha pins s σ H Q I h) fun c s1 e => ?_)
  cases c with
  | true => exact isTrue_and_nil e
  | false => exact e
theorem pw_or1 (ha : PT X a tA) : PW X (.BoolOp .Or [a] pos) tA := by
  constructor
  intro wh pins s σ H Q I h
  refine isTrue_or (thn (ha pins s σ H Q I h) fun c s1 e => ?_)
  cases c with
  | false => exact isTrue_or_nil e
  | true => exact e
theorem pw_and (ha : PT X a tA) (hb : PW X (.BoolOp .And (b :: rest) pos) tB') : PW X (.BoolOp .And (a :: b :: rest) pos) (tAnd tA tB') := by
  constructor
  intro wh pins s σ H Q I h
  refine isTrue_and (thn (ha pins s σ H _ I h) fun c s1 ⟨H1, I1, q1⟩ => ?_)
  cases c with
  | true => exact hb wh pins s1 σ H1 Q I1 q1
  | false => exact ⟨H1, I1, q1⟩
theorem pw_or (ha : PT X a tA) (hb : PW X (.BoolOp .Or (b :: rest) pos) tB') : PW X (.BoolOp .Or (a :: b :: rest) pos) (tOr tA tB') := by
  constructor
  intro wh pins s σ H Q I h
  refine isTrue_or (thn (ha pins s σ H _ I h) fun c s1 ⟨H1, I1, q1⟩ => ?_)
  cases c with
  | true => exact ⟨H1, I1, q1⟩
  | false => exact hb wh pins s1 σ H1 Q I1 q1
theorem pt_not (ha : PT X a tA) : PT X (.UnaryOp .Not a pos) (tNot tA) := by
  constructor
  intro pins s σ H Q I h
  exact isTrue_not (ha pins s σ H (fun c H1 => Q (!c) H1) I h)

noncomputable def tAndV (ta tb : TE) : TE := fun σ H Q => ta σ H fun x H1 => ∃ c, x = .bl c ∧ if c = true then tb σ H1 Q else Q (.bl false) H1
noncomputable def tOrV (ta tb : TE) : TE := fun σ H Q => ta σ H fun x H1 => ∃ c, x = .bl c ∧ if c = true then Q (.bl true) H1 else tb σ H1 Q
noncomputable def tNotV (ta : TE) : TE := fun σ H Q => ta σ H fun x H1 => ∃ c, x = .bl c ∧ Q (.bl (!c)) H1
theorem pe_one {op} {t : TE} (h : PE X a t) : PE X (.BoolOp op [a] pos) t := ⟨fun pins s σ H Q I hw => BoolOp_one (h pins s σ H Q I hw)⟩
theorem pe_and (ha : PE X a ta) (hb : PE X (.BoolOp .And (b :: rest) pos) tb) : PE X (.BoolOp .And (a :: b :: rest) pos) (tAndV ta tb) := by
  constructor
  intro pins s σ H Q I h
  refine BoolOp_and (thn (ha pins s σ H _ I h) fun v s1 ⟨x, H1, I1, r1, q1⟩ => ?_)
  obtain ⟨c, rfl, q1⟩ := q1
  cases r1
  refine wpAny_truthy_bool ?_
  cases c with
  | true => exact hb pins s1 σ H1 Q I1 q1
  | false => exact ⟨.bl false, H1, I1, rfl, q1⟩
theorem pe_or (ha : PE X a ta) (hb : PE X (.BoolOp .Or (b :: rest) pos) tb) : PE X (.BoolOp .Or (a :: b :: rest) pos) (tOrV ta tb) := by
  constructor
  intro pins s σ H Q I h
  refine BoolOp_or (thn (ha pins s σ H _ I h) fun v s1 ⟨x, H1, I1, r1, q1⟩ => ?_)
  obtain ⟨c, rfl, q1⟩ := q1
  cases r1
  refine wpAny_truthy_bool ?_
  cases c with
  | false => exact hb pins s1 σ H1 Q I1 q1
  | true => exact ⟨.bl true, H1, I1, rfl, q1⟩
theorem pe_not (ha : PE X a ta) : PE X (.UnaryOp .Not a pos) (tNotV ta) := by
  constructor
  intro pins s σ H Q I h
  refine UnaryOp_ (thn (ha pins s σ H _ I h) fun v s1 ⟨x, H1, I1, r1, q1⟩ => ?_)
  obtain ⟨c, rfl, q1⟩ := q1
  cases r1
  exact not_of (wpAny_truthy_bool ⟨.bl (!c), H1, I1, rfl, q1⟩)

end
end L2

namespace L2
open PySem PySem.Spec PyProof.Rows


noncomputable def SqL (K : PySem.W.Frag) (H : Hp) (a : Addr) (xs : List V) : Prop :=
  Rd H a (.lst xs) ∨
    ∃ (o : Obj) (its : Array Value) (n : Nat), K.lookup a = some o ∧ o.cls = .type "list" ∧ o.dict = none ∧ o.data = .seq its n ∧ its.size ≤ sizeLine ∧ Vals xs its.toList
noncomputable def SqT (K : PySem.W.Frag) (H : Hp) (a : Addr) (xs : List V) : Prop :=
  Rd H a (.tup xs) ∨
    ∃ (o : Obj) (its : Array Value) (n : Nat), K.lookup a = some o ∧ o.cls = .type "tuple" ∧ o.data = .seq its n ∧ its.size ≤ sizeLine ∧ Vals xs its.toList
noncomputable def absV : Value → Option V
  | .none => some .non
  | .bool b => some (.bl b)
  | .int i _ => some (.int i)
  | .str x _ => some (.str x)
  | .bytes b _ => some (.byt b)
  | .float b _ => some (.flt b)
  | .ref a => some (.ref a)
  | .type n => some (.ty n)
  | _ => none
theorem RelV.abs {x : V} {u : Value} (r : RelV x u) : absV u = some x := by
  cases x with
  | non => cases r; rfl
  | bl _ => cases r; rfl
  | int _ => obtain ⟨t, rfl⟩ := r; rfl
  | str _ => obtain ⟨t, rfl⟩ := r; rfl
  | byt _ => obtain ⟨t, rfl⟩ := r; rfl
  | flt _ => obtain ⟨t, rfl⟩ := r; rfl
  | ref _ => cases r; rfl
  | ty _ => cases r; rfl
theorem RelV.inj {x y : V} {u : Value} (r : RelV x u) (q : RelV y u) : x = y := Option.some.inj (r.abs.symm.trans q.abs)
theorem Vals.inj : ∀ {xs ys : List V} {us : List Value}, Vals xs us → Vals ys us → xs = ys
  | _, _, _, .nil, .nil => rfl
  | _, _, _, .cons r t, .cons r' t' => by rw [r.inj r', Vals.inj t t']
section
variable {X : Cx} {pins : List (Addr × Obj)} {σ : St} {H : Hp} {s : Shared} {a : Addr} {xs ys : List V}
theorem SqL.of {K : PySem.W.Frag} (h : H a = some (.lst xs)) : SqL K H a xs := .inl (.inl h)
theorem SqT.of {K : PySem.W.Frag} (h : H a = some (.tup xs)) : SqT K H a xs := .inl (.inl h)
theorem Inv.list (I : Inv X pins σ H s) (h : SqL X.K H a xs) : ∃ its : List Value, Vals xs its ∧ PlainL s.heap a its.toArray ∧ xs.length ≤ sizeLine := by
  rcases h with h | ⟨o, its, n, hk, hc, hd, hs, hz, r⟩
  · obtain ⟨z, its, n, r, e⟩ := h.ok I.hok
    exact ⟨its, r, ⟨_, n, e, rfl, rfl, rfl⟩, z⟩
  · refine ⟨its.toList, r, ⟨o, n, I.kIn a o hk, hc, hd, by simpa using hs⟩, ?_⟩
    have e := r.length
    simp only [Array.length_toList] at e
    omega
theorem Inv.tuple (I : Inv X pins σ H s) (h : SqT X.K H a xs) : ∃ its : List Value, Vals xs its ∧ IsTup s.heap a its.toArray ∧ xs.length ≤ sizeLine := by
  rcases h with h | ⟨o, its, n, hk, hc, hs, hz, r⟩
  · obtain ⟨z, its, r, p⟩ := h.ok I.hok
    exact ⟨its, r, p.is, z⟩
  · refine ⟨its.toList, r, ⟨o, I.kIn a o hk, hc, n, by simpa using hs⟩, ?_⟩
    have e := r.length
    simp only [Array.length_toList] at e
    omega
theorem Inv.list_inj (I : Inv X pins σ H s) (h : SqL X.K H a xs) (h' : SqL X.K H a ys) : xs = ys := by
  obtain ⟨its, r, ⟨o, n, e, _, _, d⟩, _⟩ := I.list h
  obtain ⟨its', r', ⟨o', n', e', _, _, d'⟩, _⟩ := I.list h'
  rw [e] at e'; cases e'
  rw [d] at d'
  injection d' with d1 _
  have : its = its' := by simpa using congrArg Array.toList d1
  subst this
  exact r.inj r'
theorem Inv.tuple_inj (I : Inv X pins σ H s) (h : SqT X.K H a xs) (h' : SqT X.K H a ys) : xs = ys := by
  obtain ⟨its, r, ⟨o, e, _, n, d⟩, _⟩ := I.tuple h
  obtain ⟨its', r', ⟨o', e', _, n', d'⟩, _⟩ := I.tuple h'
  rw [e] at e'; cases e'
  rw [d] at d'
  injection d' with d1 _
  have : its = its' := by simpa using congrArg Array.toList d1
  subst this
  exact r.inj r'
end


noncomputable abbrev Cx.wish (X : Cx) (E : Value → Shared → Prop) : Cx := { X with xe := E }

noncomputable abbrev Cx.nox (X : Cx) : Cx := X.wish fun _ _ => False
theorem Cx.Ok.wish {X : Cx} (ok : X.Ok) (E : Value → Shared → Prop) : (X.wish E).Ok :=
  ⟨ok.mod, ok.kind, ok.glob, ok.blt, ok.above, ok.inj, ok.has, ok.cab, ok.hd, ok.frames, ok.stk, ok.exf, ok.bs, ok.bsz, ok.noex, ok.exfs, ok.funs, ok.frf⟩
theorem Cx.Ok.unwish {X : Cx} {E : Value → Shared → Prop} (ok : (X.wish E).Ok) : X.Ok :=
  ⟨ok.mod, ok.kind, ok.glob, ok.blt, ok.above, ok.inj, ok.has, ok.cab, ok.hd, ok.frames, ok.stk, ok.exf, ok.bs, ok.bsz, ok.noex, ok.exfs, ok.funs, ok.frf⟩
section
variable {X : Cx} {pins : List (Addr × Obj)} {σ : St} {H : Hp} {s : Shared} {E : Value → Shared → Prop}
theorem Inv.wish (I : Inv X pins σ H s) (E : Value → Shared → Prop) : Inv (X.wish E) pins σ H s := ⟨I.ok.wish E, I.os, I.bare, I.base, I.loc, I.cell, I.free, I.freeC, I.pin, I.hok, I.len⟩
theorem Inv.unwish (I : Inv (X.wish E) pins σ H s) : Inv X pins σ H s := ⟨I.ok.unwish, I.os, I.bare, I.base, I.loc, I.cell, I.free, I.freeC, I.pin, I.hok, I.len⟩
theorem SP.unwish {D : Ends} {f : Flow} {s' : Shared} (h : SP (X.wish E) pins D f s') : SP X pins D f s' := by
  cases f with
  | next => obtain ⟨σ', H', I, q⟩ := h; exact ⟨σ', H', I.unwish, q⟩
  | brk => obtain ⟨σ', H', I, q⟩ := h; exact ⟨σ', H', I.unwish, q⟩
  | cont => obtain ⟨σ', H', I, q⟩ := h; exact ⟨σ', H', I.unwish, q⟩
  | ret u => obtain ⟨v, σ', H', I, r, q⟩ := h; exact ⟨v, σ', H', I.unwish, r, q⟩
theorem PSs.nox {st : List Stmt} {t : TS} (h : PSs X.nox st t) : PSs X st t := ⟨fun pins s σ H D I hw =>
  wpAny_mono (h pins s σ H D (I.wish _) hw) (fun _ _ q => q.unwish) fun _ _ z => False.elim z⟩
end


section
variable {X : Cx} {st : Stmt} {rest : List Stmt} {t u : TS} {e : Expr} {te : TE} {pos : Pos}
noncomputable def tNext : TS := fun D σ H => D.nx σ H
noncomputable def tSeq (t u : TS) : TS := fun D σ H => t { D with nx := u D } σ H
theorem pss_nil : PSs X [] tNext := ⟨fun _ _ σ H _ I h => wpAny_execs_nil ⟨σ, H, I, h⟩⟩
theorem pss_cons (h1 : PS X st t) (h2 : PSs X rest u) : PSs X (st :: rest) (tSeq t u) := by
  constructor
  intro pins s σ H D I h
  refine wpAny_execs_cons (thn (h1 pins s σ H { D with nx := u D } I h) fun f s1 q => ?_)
  cases f with
  | next =>
    obtain ⟨σ', H', I', q⟩ := q
    exact h2 pins s1 σ' H' D I' q
  | ret v => exact q
  | brk => exact q
  | cont => exact q
theorem pss_one (h1 : PS X st t) : PSs X [st] t := by
  constructor
  intro pins s σ H D I h
  refine wpAny_execs_cons (thn (h1 pins s σ H D I h) fun f s1 q => ?_)
  cases f with
  | next => exact wpAny_execs_nil q
  | ret v => exact q
  | brk => exact q
  | cont => exact q
theorem Inv.quiet {pins : List (Addr × Obj)} {σ : St} {H : Hp} {s : Shared} (I : Inv X pins σ H s) : interactive X.env = false := by simp [interactive, I.ok.kind]

noncomputable def tDrop (te : TE) : TS := fun D σ H => te σ H fun _ H1 => D.nx σ H1
theorem ps_expr (he : PE X e te) (hs : swapsWith e none pos.line X.env = pure false := by rfl) : PS X (.Expr e pos) (tDrop te) := by
  constructor
  intro pins s σ H D I h
  exact wpAny_Expr_any (thn (he pins s σ H _ I h) fun v s1 ⟨x, H1, I1, r1, q1⟩ => ⟨σ, H1, I1, q1⟩) I.quiet hs
noncomputable def tRet (te : TE) : TS := fun D σ H => te σ H D.rt
theorem ps_ret (he : PE X e te) : PS X (.Return (some e) pos) (tRet te) := by
  constructor
  intro pins s σ H D I h
  exact wpAny_Return_some (thn (he pins s σ H _ I h) fun v s1 ⟨x, H1, I1, r1, q1⟩ => ⟨x, σ, H1, I1, r1, q1⟩)
noncomputable def tIfS (c : TT) (t u : TS) : TS := fun D σ H => c σ H fun b H1 => if b = true then t D σ H1 else u D σ H1
theorem ps_if {c : Expr} {a b : List Stmt} {tc : TT} (hc : PT X c tc) (ha : PSs X a t) (hb : PSs X b u) : PS X (.If c a b pos) (tIfS tc t u) := by
  constructor
  intro pins s σ H D I h
  refine wpAny_If (thn (hc pins s σ H _ I h) fun d s1 ⟨H1, I1, q1⟩ => ?_)
  cases d with
  | true => exact ha pins s1 σ H1 D I1 q1
  | false => exact hb pins s1 σ H1 D I1 q1

noncomputable def tNever : TS := fun _ _ _ => False
theorem ps_never : PS X st tNever := ⟨fun _ _ _ _ _ _ h => h.elim⟩
end


noncomputable abbrev TG := V → St → Hp → (St → Hp → Prop) → Prop
noncomputable abbrev TGs := List V → St → Hp → (St → Hp → Prop) → Prop
structure PG (X : Cx) (target : Expr) (t : TG) : Prop where
  run :
    ∀ (pins : List (Addr × Obj)) (s : Shared) (σ : St) (H : Hp) (v : V) (u : Value) (Q : St → Hp → Prop), Inv X pins σ H s → RelV v u → t v σ H Q →
      wpAny (model X.prog X.w) X.A (assign target X.env u) (fun _ s' => ∃ σ' H', Inv X pins σ' H' s' ∧ Q σ' H') X.xe s
instance {X : Cx} {target : Expr} {t : TG} : CoeFun (PG X target t) (fun _ =>
  ∀ (pins : List (Addr × Obj)) (s : Shared) (σ : St) (H : Hp) (v : V) (u : Value) (Q : St → Hp → Prop), Inv X pins σ H s → RelV v u → t v σ H Q →
    wpAny (model X.prog X.w) X.A (assign target X.env u) (fun _ s' => ∃ σ' H', Inv X pins σ' H' s' ∧ Q σ' H') X.xe s) := ⟨PG.run⟩

structure PGs (X : Cx) (ts : List Expr) (t : TGs) : Prop where
  run :
    ∀ (pins : List (Addr × Obj)) (s : Shared) (σ : St) (H : Hp) (vs : List V) (us : List Value) (Q : St → Hp → Prop), Inv X pins σ H s → Vals vs us → t vs σ H Q →
      wpAny (model X.prog X.w) X.A (assignInOrder ((assignEach ts X.env).map (·.2)) us) (fun _ s' => ∃ σ' H', Inv X pins σ' H' s' ∧ Q σ' H') X.xe s
instance {X : Cx} {ts : List Expr} {t : TGs} : CoeFun (PGs X ts t) (fun _ =>
  ∀ (pins : List (Addr × Obj)) (s : Shared) (σ : St) (H : Hp) (vs : List V) (us : List Value) (Q : St → Hp → Prop), Inv X pins σ H s → Vals vs us → t vs σ H Q →
    wpAny (model X.prog X.w) X.A (assignInOrder ((assignEach ts X.env).map (·.2)) us) (fun _ s' => ∃ σ' H', Inv X pins σ' H' s' ∧ Q σ' H') X.xe s) := ⟨PGs.run⟩

noncomputable abbrev TSet := V → V → V → Hp → (Hp → Prop) → Prop
structure PSet (X : Cx) (t : TSet) : Prop where
  run :
    ∀ (pins : List (Addr × Obj)) (s : Shared) (σ : St) (H : Hp) (o i v : V) (ov iv u : Value) (Q : Hp → Prop), Inv X pins σ H s → RelV o ov → RelV i iv → RelV v u → t o i v H Q →
      wpAny (model X.prog X.w) X.A (setItem ov iv u) (fun _ s' => ∃ H', Inv X pins σ H' s' ∧ Q H') X.xe s
instance {X : Cx} {t : TSet} : CoeFun (PSet X t) (fun _ =>
  ∀ (pins : List (Addr × Obj)) (s : Shared) (σ : St) (H : Hp) (o i v : V) (ov iv u : Value) (Q : Hp → Prop), Inv X pins σ H s → RelV o ov → RelV i iv → RelV v u → t o i v H Q →
    wpAny (model X.prog X.w) X.A (setItem ov iv u) (fun _ s' => ∃ H', Inv X pins σ H' s' ∧ Q H') X.xe s) := ⟨PSet.run⟩

noncomputable abbrev TIp := V → V → Hp → VK → Prop
structure PIp (X : Cx) (op : Operator) (t : TIp) : Prop where
  run :
    ∀ (pins : List (Addr × Obj)) (s : Shared) (σ : St) (H : Hp) (x y : V) (v u : Value) (Q : VK), Inv X pins σ H s → RelV x v → RelV y u → t x y H Q →
      wpAny (model X.prog X.w) X.A (inplaceOp op v u) (EP X pins σ Q) X.xe s
instance {X : Cx} {op : Operator} {t : TIp} : CoeFun (PIp X op t) (fun _ =>
  ∀ (pins : List (Addr × Obj)) (s : Shared) (σ : St) (H : Hp) (x y : V) (v u : Value) (Q : VK), Inv X pins σ H s → RelV x v → RelV y u → t x y H Q →
    wpAny (model X.prog X.w) X.A (inplaceOp op v u) (EP X pins σ Q) X.xe s) := ⟨PIp.run⟩
section
variable {X : Cx} {pos : Pos}
noncomputable def gName (i : Nat) : TG := fun v σ H Q => Q (σ.set i (some v)) H
theorem pg_name {i : Nat} {x : Str} (hN : X.N.Nodup) (hi : X.N[i]? = some x) (hx : Loc X.env.scope x) (hf : X.fn x = true ∨ X.env.scope.names.lookup x = some .local := by first | exact .inl rfl | exact .inr rfl | assumption) : PG X (.Name x pos) (gName i) := by
  constructor
  intro pins s σ H v u Q I r h
  exact wpAny_assign_Name (store_ok I hN hi hx r (fun s' I' => ⟨_, H, I', h⟩) hf)
noncomputable def gNil : TGs := fun vs σ H Q => vs = [] ∧ Q σ H
noncomputable def gCons (t : TG) (u : TGs) : TGs := fun vs σ H Q => ∃ v r, vs = v :: r ∧ t v σ H fun σ' H' => u r σ' H' Q
theorem pgs_nil : PGs X [] gNil := by
  constructor
  intro pins s σ H vs us Q I r h
  obtain ⟨e, h⟩ := h
  subst e
  cases r
  exact assignInOrder_nil ⟨σ, H, I, h⟩
theorem pgs_cons {e : Expr} {es : List Expr} {t : TG} {u : TGs} (h1 : PG X e t) (h2 : PGs X es u)
    (hs : (assignEach (e :: es) X.env).map (·.2) = assign e X.env :: (assignEach es X.env).map (·.2) := by rfl) : PGs X (e :: es) (gCons t u) := by
  constructor
  intro pins s σ H vs us Q I r h
  obtain ⟨v, vr, e1, h⟩ := h
  subst e1
  cases r with
  | cons r rr =>
    rw [hs]
    refine assignInOrder_cons (thn (h1 pins s σ H _ _ _ I r h) fun _ s1 ⟨σ1, H1, I1, q1⟩ => ?_)
    exact h2 pins s1 σ1 H1 _ _ Q I1 rr q1

noncomputable def gTup (K : PySem.W.Frag) (n : Nat) (t : TGs) : TG := fun v σ H Q => ∃ a xs, v = .ref a ∧ SqT K H a xs ∧ xs.length = n ∧ t xs σ H Q
theorem pg_tup {es : List Expr} {k : Nat} {t : TGs} {n : Nat} (hc : X.calm = true) (h : PGs X es t)
    (hn : (assignEach es X.env).length = n := by rfl) (hst : (assignEach es X.env).findIdx? (·.1) = none := by rfl) : PG X (.Tuple es k pos) (gTup X.K n t) := by
  constructor
  intro pins s σ H v u Q I r hw
  obtain ⟨a, xs, e1, hq, hl, hw⟩ := hw
  subst e1
  cases r
  obtain ⟨its, rv, ht, hz⟩ := I.tuple hq
  refine assign_Tuple_tuple (I.ok.hd hc) ht (by simp [hn, ← hl, rv.length]) hst fun h' hx => ?_
  have I1 : Inv X pins σ H { s with heap := h' } := I.kept (t' := s.toks) fun b o e => hx b o (Nat.ne_of_lt (Heap.lt_size e)) e
  exact h pins _ σ H xs _ Q I1 (by simpa using rv) hw

noncomputable def gSub (to ti : TE) (t : TSet) : TG := fun v σ H Q => to σ H fun o H1 => ti σ H1 fun i H2 => t o i v H2 fun H3 => Q σ H3
theorem pg_sub {o i : Expr} {to ti : TE} {t : TSet} (ho : PE X o to) (hi : PE X i ti) (hs : PSet X t)
    (ha : ∀ v, assign (.Subscript o i pos) X.env v = (do
      let ov ← holding [v] (eval o X.env)
      let iv ← holding [v, ov] (eval i X.env)
      standAt pos
      holding [v, ov, iv] (setItem ov iv v)
      release [v, ov, iv] []) := by intro _; rfl) : PG X (.Subscript o i pos) (gSub to ti t) := by
  constructor
  intro pins s σ H v u Q I r h
  rw [ha]
  refine wpAny_bind (wpAny_holding (thn (ho pins s σ H _ I h) fun ov s1 ⟨x, H1, I1, r1, q1⟩ => ?_))
  refine wpAny_bind (wpAny_holding (thn (hi pins s1 σ H1 _ I1 q1) fun iv s2 ⟨y, H2, I2, r2, q2⟩ => ?_))
  refine wpAny_bind (wpAny_standAt (wpAny_bind (wpAny_holding (thn (hs pins s2 σ H2 x y v ov iv u _ I2 r1 r2 r q2) fun _ s3 ⟨H3, I3, q3⟩ => ?_))))
  exact wpAny_release ⟨σ, H3, I3, q3⟩

noncomputable def tAsg (te : TE) (g : TG) : TS := fun D σ H => te σ H fun x H1 => g x σ H1 D.nx
theorem ps_asg {tg e : Expr} {te : TE} {g : TG} (he : PE X e te) (hg : PG X tg g) (hs : swapsWithSole [tg] e pos.line X.env = pure false := by rfl) (hw : swappedStores [tg] e X.env = pure none := by rfl)
    (h1 : (assignEach [tg] X.env).map (·.2) = [assign tg X.env] := by rfl) : PS X (.Assign [tg] e pos) (tAsg te g) := by
  constructor
  intro pins s σ H D I h
  refine wpAny_Assign_stores (thn (he pins s σ H _ I h) fun v s1 ⟨x, H1, I1, r1, q1⟩ => ?_) hs hw
  rw [h1]
  exact thn (hg pins s1 σ H1 x v _ I1 r1 q1) fun _ s2 q => q

noncomputable def tPar (i j : Nat) (ta : TA) : TS := fun D σ H => ta σ H fun vs H1 => ∃ v w, vs = [v, w] ∧ D.nx ((σ.set i (some v)).set j (some w)) H1
theorem ps_par {i j : Nat} {x y : Str} {a b : Expr} {ta : TA} {px py pt : Pos} {kt k2 pt2} (hc : X.calm = true) (hN : X.N.Nodup) (hi : X.N[i]? = some x) (hj : X.N[j]? = some y) (hij : i ≠ j)
    (hx : X.env.scope.names.lookup x = some .local) (hy : X.env.scope.names.lookup y = some .local) (ha : PA X [a, b] ta)
    (hw : swappedStores [.Tuple [.Name x px, .Name y py] kt pt] (.Tuple [a, b] k2 pt2) X.env = pure (some [x, y]))
    (hs : swapsWithSole [.Tuple [.Name x px, .Name y py] kt pt] (.Tuple [a, b] k2 pt2) pos.line X.env = pure false := by rfl) :
    PS X (.Assign [.Tuple [.Name x px, .Name y py] kt pt] (.Tuple [a, b] k2 pt2) pos) (tPar i j ta) := by
  constructor
  intro pins s σ H D I h
  rw [exec_Assign_arm]
  refine wpAny_bind (wpAny_standAt ?_)
  rw [hs]
  refine wpAny_bind (wpAny_pure ?_)
  rw [if_neg (by decide)]
  refine wpAny_bind (Tuple_ (thn (ha _ pins s σ H _ I h) fun us s1 ⟨vs, H1, I1, r1, q1⟩ => ?_))
  obtain ⟨v, w, e1, q1⟩ := q1
  subst e1
  obtain ⟨u1, u2, rfl, rv, rw'⟩ : ∃ u1 u2, us = [u1, u2] ∧ RelV v u1 ∧ RelV w u2 := by
    cases r1 with
    | cons p q =>
      cases q with
      | cons p' q' =>
        cases q'
        exact ⟨_, _, rfl, p, p'⟩
  refine wpAny_newObj_type ?_ (by show 2 ≤ sizeLine; decide)
  have I2 : Inv X pins σ H1 { s1 with heap := s1.heap.push { cls := .type "tuple", data := .seq [u1, u2].toArray } } := I1.kept (t' := s1.toks) fun b o e => Heap.get?_push_of_some _ e
  rw [hw]
  refine wpAny_bind (wpAny_pure ?_)
  show wpAny (model X.prog X.w) X.A (do rule "assign.swapped-stores"; let items ← unpackItems (.ref s1.heap.objs.size) 2 none; assignInOrder [fun v => bindName X.env y v, fun v => bindName X.env x v] items.reverse; pure Flow.next) _ _ _
  refine wpAny_bind (wpAny_rule (wpAny_bind (unpackItems_tuple (items := #[u1, u2]) (I.ok.hd hc) (IsTup.new s1.heap _) fun h' hx' => ?_)))
  have I3 := I2.kept (h' := h') (t' := s1.toks) fun b o e => hx' b o (Nat.ne_of_lt (Heap.lt_size e)) e
  show wpAny _ _ (assignInOrder [fun v => bindName X.env y v, fun v => bindName X.env x v] [u2, u1] >>= fun _ => pure Flow.next) _ _ _
  refine wpAny_bind (assignInOrder_cons (wpAny_bindName (store_ok I3 hN hj (.inl hy) rw' (fun s2 I4 => ?_) (.inr hy))))
  refine assignInOrder_cons (wpAny_bindName (store_ok I4 hN hi (.inl hx) rv (fun s3 I5 => assignInOrder_nil (wpAny_pure ?_)) (.inr hx)))
  rw [List.set_comm _ _ (Ne.symm hij)] at I5
  exact ⟨_, H1, I5, q1⟩

structure PGet (X : Cx) (t : V → V → Hp → VK → Prop) : Prop where
  run :
    ∀ (pins : List (Addr × Obj)) (s : Shared) (σ : St) (H : Hp) (o i : V) (ov iv : Value) (Q : VK), Inv X pins σ H s → RelV o ov → RelV i iv → t o i H Q →
      wpAny (model X.prog X.w) X.A (getItem ov iv) (EP X pins σ Q) X.xe s
instance {X : Cx} {t : V → V → Hp → VK → Prop} : CoeFun (PGet X t) (fun _ =>
  ∀ (pins : List (Addr × Obj)) (s : Shared) (σ : St) (H : Hp) (o i : V) (ov iv : Value) (Q : VK), Inv X pins σ H s → RelV o ov → RelV i iv → t o i H Q →
    wpAny (model X.prog X.w) X.A (getItem ov iv) (EP X pins σ Q) X.xe s) := ⟨PGet.run⟩
end


section
variable {X : Cx} {pos : Pos}

end



structure It where
  go : Nat → Hp → Prop
  yld : Nat → Hp → V → Hp → Prop
  stop : Nat → Hp → Prop

noncomputable def FpOk (X : Cx) (pins : List (Addr × Obj)) (H : Hp) (b : Addr) : Prop :=
  H b = none ∧ b ≠ X.env.locals ∧ b ∉ X.fs ∧ (b ∈ X.ex ∨ X.s_0.heap.objs.size ≤ b) ∧ (∀ x c, X.env.cells.lookup x = some c → c ≠ b) ∧ ∀ p ∈ X.pn ++ pins, p.1 ≠ b
theorem Inv.fpOk {X : Cx} {pins : List (Addr × Obj)} {σ : St} {H H' : Hp} {s : Shared} {b : Addr} (I : Inv X pins σ H s) (hb : s.heap.objs.size ≤ b) (hn : H' b = none) : FpOk X pins H' b := by
  refine ⟨hn, Nat.ne_of_gt (Nat.lt_of_lt_of_le I.lt hb), I.nofs hb, .inr (Nat.le_trans I.sz hb), fun x c e z => ?_, fun p hp z => ?_⟩
  · obtain ⟨v, q⟩ := I.cell x c e
    exact absurd (Nat.lt_of_lt_of_le q.lt (by rw [z]; exact hb)) (Nat.lt_irrefl _)
  · exact absurd (Nat.lt_of_lt_of_le (Heap.lt_size (I.pin p hp).1) (by rw [z]; exact hb)) (Nat.lt_irrefl _)
structure Turn (P : Program) (w : World) (K : PySem.W.Frag) (tg : Expr) (J : It) (fp : List Addr) (it : Addr) (tn : Nat → Heap → Prop) : Prop where
  mem : it ∈ fp
  obj : ∀ i h, tn i h → ∀ b ∈ fp, ∃ o, h.get? b = some o ∧ ∀ v, o.data ≠ .cell v
  keep : ∀ i h h', tn i h → (∀ b ∈ fp, ∀ o, h.get? b = some o → h'.get? b = some o) → tn i h'
  item : ∀ (X : Cx), X.prog = P → X.w = w → X.K = K → X.calm = true → ∀ (i : Nat) (pins : List (Addr × Obj)) (s : Shared) (σ : St) (H : Hp) (E : Value → Shared → Prop), Inv X pins σ H s → (∀ b ∈ fp, FpOk X pins H b) → tn i s.heap → J.go i H →
    wpAny (model P w) X.A (pyNext (.ref it)) (fun r s1 => ∃ u, r = some u ∧
      wpAny (model P w) X.A (letOwnedTupleGo tg (.ref it) u) (fun _ s2 => ∃ x H', Inv X pins σ H' s2 ∧ RelV x u ∧ J.yld i H x H' ∧ tn (i + 1) s2.heap ∧ ∀ b ∈ fp, H' b = none) E s1) E s
  done : ∀ (X : Cx), X.prog = P → X.w = w → X.K = K → X.calm = true → ∀ (i : Nat) (pins : List (Addr × Obj)) (s : Shared) (σ : St) (H : Hp) (E : Value → Shared → Prop), Inv X pins σ H s → (∀ b ∈ fp, FpOk X pins H b) → tn i s.heap → J.stop i H →
    wpAny (model P w) X.A (pyNext (.ref it)) (fun r s1 => r = none ∧ Inv X pins σ H s1) E s
  self : ∀ (A : Around) (i : Nat) (s : Shared) (Q : Value → Shared → Prop) (E : Value → Shared → Prop), tn i s.heap → Q (.ref it) s → wpAny (model P w) A (pyIter (.ref it)) Q E s
noncomputable abbrev TI := St → Hp → (It → Hp → Prop) → Prop

noncomputable def PIE (X : Cx) (pins : List (Addr × Obj)) (σ : St) (tg : Expr) (R : It → Hp → Prop) (itv : Value) (s2 : Shared) : Prop :=
  ∃ (it : Addr) (fp : List Addr) (tn : Nat → Heap → Prop) (J : It) (H' : Hp), itv = .ref it ∧ Inv X pins σ H' s2 ∧ Turn X.prog X.w X.K tg J fp it tn ∧ tn 0 s2.heap ∧ (∀ b ∈ fp, FpOk X pins H' b) ∧ R J H'
structure PI (X : Cx) (tg iter : Expr) (wi : TI) : Prop where
  run :
    ∀ (pins : List (Addr × Obj)) (s : Shared) (σ : St) (H : Hp) (R : It → Hp → Prop), Inv X pins σ H s → wi σ H R →
      wpAny (model X.prog X.w) X.A (eval iter X.env) (fun v s1 => wpAny (model X.prog X.w) X.A (pyIter v) (PIE X pins σ tg R) X.xe s1) X.xe s
instance {X : Cx} {tg iter : Expr} {wi : TI} : CoeFun (PI X tg iter wi) (fun _ =>
  ∀ (pins : List (Addr × Obj)) (s : Shared) (σ : St) (H : Hp) (R : It → Hp → Prop), Inv X pins σ H s → wi σ H R →
    wpAny (model X.prog X.w) X.A (eval iter X.env) (fun v s1 => wpAny (model X.prog X.w) X.A (pyIter v) (PIE X pins σ tg R) X.xe s1) X.xe s) := ⟨PI.run⟩


theorem go_of {M : Model} {A : Around} {E : Value → Shared → Prop} {s : Shared} {tg : Expr} {it : Addr} {u : Value} {o : Obj} {n : String} {vs : Array Value} {Q : Unit → Shared → Prop} (ho : s.heap.get? it = some o) (hc : o.cls = .type n) (hd : o.data = .fields vs)
    (hn : ["enumerate", "zip", "dict_itemiterator", "dict_reverseitemiterator", "odict_iterator", "itertools.zip_longest", "itertools.pairwise"].contains n = false) (hQ : Q () s) : wpAny M A (letOwnedTupleGo tg (.ref it) u) Q E s := by
  unfold letOwnedTupleGo
  cases tg <;> first
    | exact wpAny_pure hQ
    | (cases u <;> first
        | exact wpAny_pure hQ
        | (refine wpAny_bind (wpAny_load ho ?_)
           rw [hc, hd]
           show wpAny M A (if (["enumerate", "zip", "dict_itemiterator", "dict_reverseitemiterator", "odict_iterator", "itertools.zip_longest", "itertools.pairwise"].contains n && vs[0]? == some (rawInt _)) = true then _ else _) Q E s
           rw [if_neg (by intro h; rw [hn, Bool.false_and] at h; cases h)]
           exact wpAny_pure hQ))


noncomputable def Itl (K : PySem.W.Frag) (a : Addr) : It :=
  ⟨fun i H => ∃ xs x, SqL K H a xs ∧ xs[i]? = some x, fun i H x H' => H' = H ∧ ∀ xs, SqL K H a xs → xs[i]? = some x, fun i H => ∃ xs, SqL K H a xs ∧ xs.length ≤ i⟩
noncomputable def Itt (K : PySem.W.Frag) (a : Addr) : It :=
  ⟨fun i H => ∃ xs x, SqT K H a xs ∧ xs[i]? = some x, fun i H x H' => H' = H ∧ ∀ xs, SqT K H a xs → xs[i]? = some x, fun i H => ∃ xs, SqT K H a xs ∧ xs.length ≤ i⟩

noncomputable def Itr (lo : Int) (n : Nat) : It := ⟨fun i _ => i < n, fun i H x H' => H' = H ∧ x = .int (lo + i), fun i _ => n ≤ i⟩
theorem turn_list {P : Program} {w : World} {K : PySem.W.Frag} {tg : Expr} (a it : Addr) : Turn P w K tg (Itl K a) [it] it (fun i h => h.IsListIter it a i) where
  mem := by simp
  obj := fun i h st b hb => by
    have e : b = it := by simpa using hb
    subst e
    obtain ⟨o, e, c, d⟩ := st
    exact ⟨o, e, fun v z => by rw [d] at z; cases z⟩
  keep := fun i h h' st k => st.at fun o e => k it (by simp) o e
  item := by
    intro X hP hw hK hc i pins s σ H E I hf st hg
    subst hP hw hK
    obtain ⟨xs, x, hq, hx⟩ := hg
    obtain ⟨its, rv, p, hz⟩ := I.list hq
    obtain ⟨u, hu, ru⟩ := rv.get hx
    obtain ⟨f0, f1, f2, f3, f4, f5⟩ := hf it (by simp)
    refine wpAny_pyNext_list_item st p.isList (x := u) (by simpa using hu) fun h' st' sb => ?_
    have I1 : Inv X pins σ H { s with heap := h' } := I.turned (t' := s.toks) (fun b o hb e => (sb.2 b hb).trans e) f0 f1 f3 f4 f5
    obtain ⟨o, e, c, d⟩ := id st'
    exact ⟨u, rfl, go_of (s := { s with heap := h' }) e c d (by decide) ⟨x, H, I1, ru, ⟨rfl, fun ys hy => by rw [I.list_inj hy hq]; exact hx⟩, st', fun b hb => (hf b hb).1⟩⟩
  done := by
    intro X hP hw hK hc i pins s σ H E I hf st hg
    subst hP hw hK
    obtain ⟨xs, hq, hx⟩ := hg
    obtain ⟨its, rv, p, hz⟩ := I.list hq
    obtain ⟨f0, f1, f2, f3, f4, f5⟩ := hf it (by simp)
    have hl := rv.length
    exact wpAny_pyNext_list_end (I.ok.hd hc) st p.isList (by simp; omega) fun h' eb => ⟨rfl, I.turned (t' := s.toks) (fun b o hb e => eb b o hb e) f0 f1 f3 f4 f5⟩
  self := fun _ _ _ _ _ st h => wpAny_pyIter_listiter st h
theorem turn_tuple {P : Program} {w : World} {K : PySem.W.Frag} {tg : Expr} (a it : Addr) : Turn P w K tg (Itt K a) [it] it (fun i h => h.IsTupleIter it a i) where
  mem := by simp
  obj := fun i h st b hb => by
    have e : b = it := by simpa using hb
    subst e
    obtain ⟨o, e, c, d⟩ := st
    exact ⟨o, e, fun v z => by rw [d] at z; cases z⟩
  keep := fun i h h' st k => st.at fun o e => k it (by simp) o e
  item := by
    intro X hP hw hK hc i pins s σ H E I hf st hg
    subst hP hw hK
    obtain ⟨xs, x, hq, hx⟩ := hg
    obtain ⟨its, rv, p, hz⟩ := I.tuple hq
    obtain ⟨u, hu, ru⟩ := rv.get hx
    obtain ⟨f0, f1, f2, f3, f4, f5⟩ := hf it (by simp)
    refine wpAny_pyNext_tuple_item st (show s.heap.IsTuple a its.toArray from p) (x := u) (by simpa using hu) fun h' st' sb => ?_
    have I1 : Inv X pins σ H { s with heap := h' } := I.turned (t' := s.toks) (fun b o hb e => (sb.2 b hb).trans e) f0 f1 f3 f4 f5
    obtain ⟨o, e, c, d⟩ := id st'
    exact ⟨u, rfl, go_of (s := { s with heap := h' }) e c d (by decide) ⟨x, H, I1, ru, ⟨rfl, fun ys hy => by rw [I.tuple_inj hy hq]; exact hx⟩, st', fun b hb => (hf b hb).1⟩⟩
  done := by
    intro X hP hw hK hc i pins s σ H E I hf st hg
    subst hP hw hK
    obtain ⟨xs, hq, hx⟩ := hg
    obtain ⟨its, rv, p, hz⟩ := I.tuple hq
    obtain ⟨f0, f1, f2, f3, f4, f5⟩ := hf it (by simp)
    have hl := rv.length
    exact wpAny_pyNext_tuple_end (I.ok.hd hc) st (show s.heap.IsTuple a its.toArray from p) (by simp; omega) fun h' eb => ⟨rfl, I.turned (t' := s.toks) (fun b o hb e => eb b o hb e) f0 f1 f3 f4 f5⟩
  self := fun _ _ _ _ _ st h => wpAny_pyIter_tupleiter st h
theorem turn_range {P : Program} {w : World} {K : PySem.W.Frag} {tg : Expr} (it : Addr) (lo : Int) (n : Nat) : Turn P w K tg (Itr lo n) [it] it (fun i h => IsRangeIter h it (lo + (i : Nat) * 1) ((n : Int) - (i : Nat)) 1) where
  mem := by simp
  obj := fun i h st b hb => by
    have e : b = it := by simpa using hb
    subst e
    exact ⟨_, st, fun v z => by
      have z' : Data.fields _ = Data.cell v := z
      cases z'⟩
  keep := fun i h h' st k => k it (by simp) _ st
  item := by
    intro X hP hw hK hc i pins s σ H E I hf st hg
    subst hP hw hK
    obtain ⟨f0, f1, f2, f3, f4, f5⟩ := hf it (by simp)
    have W := Walks.range (prog := X.prog) (w := X.w) (I.ok.hd hc) it lo 1 n
    refine W.item i s _ _ hg st fun v h' tk hv st' kk => ?_
    obtain ⟨t, rfl⟩ := hv
    have I1 : Inv X pins σ H { s with heap := h', toks := tk } := I.turned (fun b o hb e => kk b o (by simpa using hb) e) f0 f1 f3 f4 f5
    refine ⟨_, rfl, go_of (s := { s with heap := h', toks := tk }) (n := "range_iterator") st' rfl rfl (by decide) ⟨.int (lo + i), H, I1, ⟨t, ?_⟩, ⟨rfl, rfl⟩, st', fun b hb => (hf b hb).1⟩⟩
    rw [Int.mul_one]
  done := by
    intro X hP hw hK hc i pins s σ H E I hf st hg
    subst hP hw hK
    obtain ⟨f0, f1, f2, f3, f4, f5⟩ := hf it (by simp)
    exact wpAny_pyNext_range_end (I.ok.hd hc) st (by have : n ≤ i := hg; omega) fun h' eb => ⟨rfl, I.turned (t' := s.toks) (fun b o hb e => eb b o hb e) f0 f1 f3 f4 f5⟩
  self := fun _ _ _ _ _ st h => wpAny_pyIter_rangeiter st h
end L2

namespace L2
open PySem PySem.Spec PyProof.Rows
section
variable {X : Cx} {tg : Expr}
noncomputable def iList (K : PySem.W.Frag) (tl : TE) : TI := fun σ H R => tl σ H fun x H1 => ∃ a, x = .ref a ∧ (∃ xs, SqL K H1 a xs) ∧ R (Itl K a) H1
noncomputable def iTup (K : PySem.W.Frag) (tl : TE) : TI := fun σ H R => tl σ H fun x H1 => ∃ a, x = .ref a ∧ (∃ xs, SqT K H1 a xs) ∧ R (Itt K a) H1
theorem pi_list {l : Expr} {tl : TE} (hl : PE X l tl) : PI X tg l (iList X.K tl) := by
  constructor
  intro pins s σ H R I h
  refine thn (hl pins s σ H _ I h) fun v s1 ⟨x, H1, I1, r1, q1⟩ => ?_
  obtain ⟨a, e, ⟨xs, hq⟩, q⟩ := q1
  subst e
  cases r1
  obtain ⟨its, rv, p, hz⟩ := I1.list hq
  refine wpAny_pyIter_list p.isList ?_
  refine ⟨s1.heap.objs.size, [s1.heap.objs.size], _, _, H1, rfl, I1.kept (t' := s1.toks) fun b o e => Heap.get?_push_of_some _ e, turn_list a _, ⟨_, Heap.get?_push_size _ rfl, rfl, rfl⟩, fun b hb => ?_, q⟩
  have e : b = s1.heap.objs.size := by simpa using hb
  subst e
  exact I1.fpOk (Nat.le_refl _) (I1.hok.fresh (Nat.le_refl _))
theorem pi_tup {l : Expr} {tl : TE} (hl : PE X l tl) : PI X tg l (iTup X.K tl) := by
  constructor
  intro pins s σ H R I h
  refine thn (hl pins s σ H _ I h) fun v s1 ⟨x, H1, I1, r1, q1⟩ => ?_
  obtain ⟨a, e, ⟨xs, hq⟩, q⟩ := q1
  subst e
  cases r1
  obtain ⟨its, rv, p, hz⟩ := I1.tuple hq
  refine wpAny_pyIter_tuple (show s1.heap.IsTuple a its.toArray from p) ?_
  refine ⟨s1.heap.objs.size, [s1.heap.objs.size], _, _, H1, rfl, I1.kept (t' := s1.toks) fun b o e => Heap.get?_push_of_some _ e, turn_tuple a _, ⟨_, Heap.get?_push_size _ rfl, rfl, rfl⟩, fun b hb => ?_, q⟩
  have e : b = s1.heap.objs.size := by simpa using hb
  subst e
  exact I1.fpOk (Nat.le_refl _) (I1.hok.fresh (Nat.le_refl _))

theorem range_it {pins : List (Addr × Obj)} {σ : St} {H : Hp} {s : Shared} {R : It → Hp → Prop} {E : Value → Shared → Prop} {lo hi : Int} {t u v : Tok} {tk : Nat} (I : Inv X pins σ H s) (h1 : -(2 ^ 62) ≤ lo) (h2 : lo < 2 ^ 62) (h3 : -(2 ^ 62) ≤ hi) (h4 : hi < 2 ^ 62)
    (q : R (Itr lo (hi - lo).toNat) H) : wpAny (model X.prog X.w) X.A (pyIter (.ref s.heap.objs.size)) (PIE X pins σ tg R) E { s with heap := s.heap.push { cls := .type "range", data := .fields #[.int lo t, .int hi u, .int 1 v] }, toks := tk } := by
  refine wpAny_pyIter_range (IsRange.new ..) (small_one h1 h2 h3 h4) ?_
  have I1 : Inv X pins σ H { s with heap := s.heap.push { cls := .type "range", data := .fields #[.int lo t, .int hi u, .int 1 v] }, toks := tk } := I.kept fun b o e => Heap.get?_push_of_some _ e
  refine ⟨(s.heap.push { cls := .type "range", data := .fields #[.int lo t, .int hi u, .int 1 v] }).objs.size, [(s.heap.push { cls := .type "range", data := .fields #[.int lo t, .int hi u, .int 1 v] }).objs.size], _, _, H, rfl,
    I1.kept (t' := tk) fun b o e => Heap.get?_push_of_some _ e, turn_range _ lo (hi - lo).toNat, ?_, fun b hb => ?_, q⟩
  · have e1 : lo + ((0 : Nat) : Int) * 1 = lo := by simp
    have e2 : (((hi - lo).toNat : Nat) : Int) - ((0 : Nat) : Int) = Builtin.Range.rangeSize lo hi 1 := by rw [rangeSize_one]; split <;> omega
    show IsRangeIter _ _ (lo + ((0 : Nat) : Int) * 1) ((((hi - lo).toNat : Nat) : Int) - ((0 : Nat) : Int)) 1
    rw [e1, e2]
    exact Heap.get?_push_size _ rfl
  · have e : b = (s.heap.push { cls := .type "range", data := .fields #[.int lo t, .int hi u, .int 1 v] }).objs.size := by simpa using hb
    subst e
    exact I1.fpOk (Nat.le_refl _) (I1.hok.fresh (Nat.le_refl _))
noncomputable def iRng1 (ta : TA) : TI := fun σ H R => ta σ H fun vs H1 => ∃ j : Int, vs = [.int j] ∧ -(2 ^ 62) ≤ j ∧ j < 2 ^ 62 ∧ R (Itr 0 j.toNat) H1
theorem pi_range1 {a : Expr} {ta : TA} {p pos : Pos} (hg : Gl X "range") (hm : X.mg "range" = none) (ha : PA X [a] ta) (hs : starEach [a] X.env = [(false, eval a X.env)] := by rfl) : PI X tg (.Call (.Name "range" p) [a] [] pos) (iRng1 ta) := by
  constructor
  intro pins s σ H R I h
  refine Call_ (ld_blt I hg hm boot_range (PyProof.Rows.callWith_type1 (thn (ha pos pins s σ H _ I h) fun us s1 ⟨vs, H1, I1, r1, q1⟩ => ?_) hs rfl))
  obtain ⟨j, e, q1, q2, q⟩ := q1
  subst e
  cases r1 with
  | cons r rr =>
    cases rr
    obtain ⟨t, rfl⟩ := r
    exact call_range_1 (range_it I1 (by omega) (by omega) q1 q2 (by simpa using q))
noncomputable def tFor (wi : TI) (g : TG) (tb : TS) : TS := fun D σ H => wi σ H fun J H1 => ∃ W : Nat → Nat → St → Hp → Prop, (∃ m, W 0 m σ H1) ∧ ∀ i m σ H, W i m σ H →
  (J.stop i H ∧ D.nx σ H) ∨ (J.go i H ∧ ∃ N : St → Hp → Prop, (∀ σ' H', N σ' H' → ∃ m', m' < m ∧ W (i + 1) m' σ' H') ∧ ∀ x H', J.yld i H x H' → g x σ H' fun σ2 H2 => tb { D with nx := N, ct := N, bk := D.nx } σ2 H2)

noncomputable def pinsAt (fp : List Addr) (h : Heap) : List (Addr × Obj) := fp.filterMap fun b => (h.get? b).map fun o => (b, o)
theorem mem_pinsAt {fp : List Addr} {h : Heap} {b : Addr} {o : Obj} (hb : b ∈ fp) (e : h.get? b = some o) : (b, o) ∈ pinsAt fp h := List.mem_filterMap.mpr ⟨b, hb, by rw [e]; rfl⟩
theorem of_pinsAt {fp : List Addr} {h : Heap} {p : Addr × Obj} (hp : p ∈ pinsAt fp h) : p.1 ∈ fp ∧ h.get? p.1 = some p.2 := by
  obtain ⟨b, hb, e⟩ := List.mem_filterMap.mp hp
  cases q : h.get? b with
  | none => rw [q] at e; cases e
  | some o =>
    rw [q] at e
    have e' : (b, o) = p := Option.some.inj e
    subst e'
    exact ⟨hb, q⟩
theorem Inv.pinned {pins : List (Addr × Obj)} {σ : St} {H : Hp} {s : Shared} {fp : List Addr} (I : Inv X pins σ H s) (hf : ∀ b ∈ fp, FpOk X pins H b) (ho : ∀ b ∈ fp, ∃ o, s.heap.get? b = some o ∧ ∀ v, o.data ≠ .cell v) : Inv X (pins ++ pinsAt fp s.heap) σ H s :=
  I.pins_of fun p hp => (List.mem_append.mp hp).elim (fun z => I.pin p (List.mem_append_right _ z)) fun z => by
    obtain ⟨hb, e⟩ := of_pinsAt z
    obtain ⟨f0, f1, f2, _⟩ := hf p.1 hb
    obtain ⟨o, e', d⟩ := ho p.1 hb
    rw [e] at e'; cases e'
    exact ⟨e, f0, f1, f2, d⟩
theorem Inv.unpinned {pins pl : List (Addr × Obj)} {σ : St} {H : Hp} {s : Shared} (I : Inv X (pins ++ pl) σ H s) : Inv X pins σ H s := I.pins_of fun p hp => I.pin p (List.mem_append_right _ (List.mem_append_left _ hp))
theorem ps_for {iter : Expr} {body : List Stmt} {wi : TI} {g : TG} {tb : TS} {pos : Pos} (hp : PassesOwn (model X.prog X.w) X.A X.env X.xe) (hc : X.calm = true) (hi : PI X tg iter wi) (hg : PG X tg g) (hb : PSs X body tb)
    (hs : ∀ x, foldedSetIterable iter X.env x = pure x := by intro _; rfl) : PS X (.For tg iter body [] pos) (tFor wi g tb) := by
  constructor
  intro pins s σ H D I h
  refine wpAny_For (thn (hi pins s σ H _ I h) fun v s1 h1 => thn h1 fun itv s2 h2 => ?_) hs
  obtain ⟨it, fp, tn, J, H2, e, I2, T, st2, f2, W, ⟨m0, w0⟩, turn⟩ := h2
  subst e
  -- what stays true of the iterator's objects through the loop
  have stat : ∀ {H' : Hp}, (∀ b ∈ fp, H' b = none) → ∀ b ∈ fp, FpOk X pins H' b := fun hn b hb => ⟨hn b hb, (f2 b hb).2⟩
  refine codeAny_forLoop_any (fun n s' => ∃ i σ' H', Inv X pins σ' H' s' ∧ tn i s'.heap ∧ (∀ b ∈ fp, H' b = none) ∧ W i n σ' H') ?_ m0 ⟨0, σ, H2, I2, st2, fun b hb => (f2 b hb).1, w0⟩
  rintro n s3 ⟨i, σ3, H3, I3, st3, fr3, w3⟩
  rcases turn i n σ3 H3 w3 with ⟨stop, qn⟩ | ⟨go, N, hN, step⟩
  · refine wpAny_passesOwn hp (thn (T.done X rfl rfl rfl hc i pins s3 σ3 H3 X.xe I3 (stat fr3) st3 stop) fun r s4 ⟨hr, I4⟩ => ?_)
    subst hr
    exact wpAny_execs_nil ⟨σ3, H3, I4, qn⟩
  · refine wpAny_passesOwn hp (thn (T.item X rfl rfl rfl hc i pins s3 σ3 H3 X.xe I3 (stat fr3) st3 go) fun r s4 ⟨u, hr, h4⟩ => ?_)
    subst hr
    refine wpAny_passesOwn hp (thn h4 fun _ s5 ⟨x, H5, I5, r5, y5, st5, fr5⟩ => ?_)
    have I5' := I5.pinned (stat fr5) (T.obj _ _ st5)
    refine wpAny_passesOwn hp (thn (hg _ s5 σ3 H5 x u _ I5' r5 (step x H5 y5)) fun _ s6 ⟨σ6, H6, I6, q6⟩ => ?_)
    refine wpAny_passesOwn hp (thn (hb _ s6 σ6 H6 _ I6 q6) fun f s7 q7 => ?_)
    have again : ∀ {σ7 : St} {H7 : Hp}, Inv X (pins ++ pinsAt fp s5.heap) σ7 H7 s7 → N σ7 H7 → ∃ m, m < n ∧ ∃ i σ' H', Inv X pins σ' H' s7 ∧ tn i s7.heap ∧ (∀ b ∈ fp, H' b = none) ∧ W i m σ' H' := fun {σ7 H7} I7 n7 => by
      obtain ⟨m', hm, w7⟩ := hN σ7 H7 n7
      refine ⟨m', hm, i + 1, σ7, H7, I7.unpinned, T.keep _ _ _ st5 fun b hb o e => (I7.pin (b, o) (List.mem_append_right _ (List.mem_append_right _ (mem_pinsAt hb e)))).1, fun b hb => ?_, w7⟩
      obtain ⟨o, e, d⟩ := T.obj _ _ st5 b hb
      exact (I7.pin (b, o) (List.mem_append_right _ (List.mem_append_right _ (mem_pinsAt hb e)))).2.1
    cases f with
    | next => obtain ⟨σ7, H7, I7, n7⟩ := q7; exact again I7 n7
    | cont => obtain ⟨σ7, H7, I7, n7⟩ := q7; exact again I7 n7
    | brk => obtain ⟨σ7, H7, I7, q7⟩ := q7; exact ⟨σ7, H7, I7.unpinned, q7⟩
    | ret v => obtain ⟨x7, σ7, H7, I7, r7, q7⟩ := q7; exact ⟨x7, σ7, H7, I7.unpinned, r7, q7⟩
end



theorem for_tup {K : PySem.W.Frag} {a : Addr} {xs : List V} {g : TG} {tb : TS} {D : Ends} {σ : St} {H : Hp} (Pv : Nat → St → Hp → Prop) (h0 : Pv 0 σ H) (hl : ∀ i σ H, i ≤ xs.length → Pv i σ H → SqT K H a xs)
    (hs : ∀ i x σ H, xs[i]? = some x → Pv i σ H → g x σ H fun σ2 H2 => tb { D with nx := Pv (i + 1), ct := Pv (i + 1), bk := D.nx } σ2 H2) (hd : ∀ σ H, Pv xs.length σ H → D.nx σ H) :
    ∃ W : Nat → Nat → St → Hp → Prop, (∃ m, W 0 m σ H) ∧ ∀ i m σ H, W i m σ H →
      ((Itt K a).stop i H ∧ D.nx σ H) ∨ ((Itt K a).go i H ∧ ∃ N : St → Hp → Prop, (∀ σ' H', N σ' H' → ∃ m', m' < m ∧ W (i + 1) m' σ' H') ∧ ∀ x H', (Itt K a).yld i H x H' → g x σ H' fun σ2 H2 => tb { D with nx := N, ct := N, bk := D.nx } σ2 H2) := by
  refine ⟨fun i m σ H => m = xs.length - i ∧ i ≤ xs.length ∧ Pv i σ H, ⟨xs.length, by simp, Nat.zero_le _, h0⟩, ?_⟩
  rintro i m σ H ⟨rfl, hi, p⟩
  have q := hl i σ H hi p
  by_cases hlt : i < xs.length
  · refine .inr ⟨⟨xs, xs[i], q, by simp [hlt]⟩, Pv (i + 1), fun σ' H' p' => ⟨xs.length - (i + 1), by omega, rfl, hlt, p'⟩, fun x H' y => ?_⟩
    obtain ⟨e, y⟩ := y
    subst e
    exact hs i x σ _ (y xs q) p
  · have e : i = xs.length := by omega
    subst e
    exact .inl ⟨⟨xs, q, Nat.le_refl _⟩, hd σ H p⟩
theorem for_range {lo : Int} {n : Nat} {g : TG} {tb : TS} {D : Ends} {σ : St} {H : Hp} (Pv : Nat → St → Hp → Prop) (h0 : Pv 0 σ H)
    (hs : ∀ i σ H, i < n → Pv i σ H → g (.int (lo + i)) σ H fun σ2 H2 => tb { D with nx := Pv (i + 1), ct := Pv (i + 1), bk := D.nx } σ2 H2) (hd : ∀ σ H, Pv n σ H → D.nx σ H) :
    ∃ W : Nat → Nat → St → Hp → Prop, (∃ m, W 0 m σ H) ∧ ∀ i m σ H, W i m σ H →
      ((Itr lo n).stop i H ∧ D.nx σ H) ∨ ((Itr lo n).go i H ∧ ∃ N : St → Hp → Prop, (∀ σ' H', N σ' H' → ∃ m', m' < m ∧ W (i + 1) m' σ' H') ∧ ∀ x H', (Itr lo n).yld i H x H' → g x σ H' fun σ2 H2 => tb { D with nx := N, ct := N, bk := D.nx } σ2 H2) := by
  refine ⟨fun i m σ H => m = n - i ∧ i ≤ n ∧ Pv i σ H, ⟨n, by simp, Nat.zero_le _, h0⟩, ?_⟩
  rintro i m σ H ⟨rfl, hi, p⟩
  by_cases hlt : i < n
  · refine .inr ⟨hlt, Pv (i + 1), fun σ' H' p' => ⟨n - (i + 1), by omega, rfl, hlt, p'⟩, fun x H' y => ?_⟩
    obtain ⟨e, y⟩ := y
    subst e y
    exact hs i σ _ hlt p
  · have e : i = n := by omega
    subst e
    exact .inl ⟨Nat.le_refl _, hd σ H p⟩

end L2

namespace L2
open PySem PySem.Spec PyProof.Rows

noncomputable abbrev R2 := V → V → Hp → VK → Prop

structure OpR (X : Cx) (f : Value → Value → Sem Value) (r : R2) : Prop where
  run :
    ∀ (pins : List (Addr × Obj)) (s : Shared) (σ : St) (H : Hp) (x y : V) (v u : Value) (Q : VK), Inv X pins σ H s → RelV x v → RelV y u → r x y H Q →
      wpAny (model X.prog X.w) X.A (f v u) (EP X pins σ Q) X.xe s
instance {X : Cx} {f : Value → Value → Sem Value} {r : R2} : CoeFun (OpR X f r) (fun _ =>
  ∀ (pins : List (Addr × Obj)) (s : Shared) (σ : St) (H : Hp) (x y : V) (v u : Value) (Q : VK), Inv X pins σ H s → RelV x v → RelV y u → r x y H Q →
    wpAny (model X.prog X.w) X.A (f v u) (EP X pins σ Q) X.xe s) := ⟨OpR.run⟩

structure UnR (X : Cx) (f : Value → Sem Value) (r : V → Hp → VK → Prop) : Prop where
  run :
    ∀ (pins : List (Addr × Obj)) (s : Shared) (σ : St) (H : Hp) (x : V) (v : Value) (Q : VK), Inv X pins σ H s → RelV x v → r x H Q →
      wpAny (model X.prog X.w) X.A (f v) (EP X pins σ Q) X.xe s
instance {X : Cx} {f : Value → Sem Value} {r : V → Hp → VK → Prop} : CoeFun (UnR X f r) (fun _ =>
  ∀ (pins : List (Addr × Obj)) (s : Shared) (σ : St) (H : Hp) (x : V) (v : Value) (Q : VK), Inv X pins σ H s → RelV x v → r x H Q →
    wpAny (model X.prog X.w) X.A (f v) (EP X pins σ Q) X.xe s) := ⟨UnR.run⟩

structure CallR (X : Cx) (f : Value) (r : List V → Hp → VK → Prop) : Prop where
  run :
    ∀ (pins : List (Addr × Obj)) (s : Shared) (σ : St) (H : Hp) (xs : List V) (us : List Value) (Q : VK), Inv X pins σ H s → Vals xs us → r xs H Q →
      wpAny (model X.prog X.w) X.A (call f us) (EP X pins σ Q) X.xe s
instance {X : Cx} {f : Value} {r : List V → Hp → VK → Prop} : CoeFun (CallR X f r) (fun _ =>
  ∀ (pins : List (Addr × Obj)) (s : Shared) (σ : St) (H : Hp) (xs : List V) (us : List Value) (Q : VK), Inv X pins σ H s → Vals xs us → r xs H Q →
    wpAny (model X.prog X.w) X.A (call f us) (EP X pins σ Q) X.xe s) := ⟨CallR.run⟩

noncomputable def tOp (r : R2) (ta tb : TE) : TE := fun σ H Q => ta σ H fun x H1 => tb σ H1 fun y H2 => r x y H2 Q
noncomputable def tUn (r : V → Hp → VK → Prop) (ta : TE) : TE := fun σ H Q => ta σ H fun x H1 => r x H1 Q

noncomputable def rI (C : Int → Int → Prop) (g : Int → Int → V) : R2 := fun x y H Q => ∃ i j, x = .int i ∧ y = .int j ∧ C i j ∧ Q (g i j) H
noncomputable def rI0 (g : Int → Int → V) : R2 := fun x y H Q => ∃ i j, x = .int i ∧ y = .int j ∧ Q (g i j) H
noncomputable def rU (g : Int → V) : V → Hp → VK → Prop := fun x H Q => ∃ i, x = .int i ∧ Q (g i) H

section
variable {X : Cx} {a b c : Expr} {ta tb tc : TE} {pos : Pos}

theorem binT (ha : PE X a ta) (hb : PE X b tb) {pins : List (Addr × Obj)} {s : Shared} {σ : St} {H : Hp} {R : V → V → Hp → Prop} (I : Inv X pins σ H s)
    (h : ta σ H fun x H1 => tb σ H1 fun y H2 => R x y H2) {Q : Value → Shared → Prop} {f : Value → Value → Sem Value}
    (hf : ∀ v u s2 x y H2, Inv X pins σ H2 s2 → RelV x v → RelV y u → R x y H2 → wpAny (model X.prog X.w) X.A (f v u) Q X.xe s2) :
    wpAny (model X.prog X.w) X.A (eval a X.env) (fun v s₁ => wpAny (model X.prog X.w) X.A (eval b X.env) (fun u s₂ => wpAny (model X.prog X.w) X.A (f v u) Q X.xe s₂) X.xe s₁) X.xe s := by
  refine thn (ha pins s σ H _ I h) fun v s1 ⟨x, H1, I1, r1, q1⟩ => ?_
  refine thn (hb pins s1 σ H1 _ I1 q1) fun u s2 ⟨y, H2, I2, r2, q2⟩ => ?_
  exact hf v u s2 x y H2 I2 r1 r2 q2

theorem pe_op {op : Operator} {r : R2} (ho : OpR X (binaryOp op) r) (ha : PE X a ta) (hb : PE X b tb) : PE X (.BinOp a op b pos) (tOp r ta tb) := by
  constructor
  intro pins s σ H Q I h
  exact wpAny_BinOp (binT ha hb I h fun v u s2 x y H2 I2 rx ry q => ho pins s2 σ H2 x y v u Q I2 rx ry q)
theorem pe_un {op : UnaryOp} {r : V → Hp → VK → Prop} (ho : UnR X (unaryOp op) r) (ha : PE X a ta) : PE X (.UnaryOp op a pos) (tUn r ta) := by
  constructor
  intro pins s σ H Q I h
  exact UnaryOp_ (thn (ha pins s σ H _ I h) fun v s1 ⟨x, H1, I1, r1, q1⟩ => ho pins s1 σ H1 x v Q I1 r1 q1)

theorem opI {f : Value → Value → Sem Value} {C : Int → Int → Prop} {g : Int → Int → Int}
    (rule : ∀ (i j : Int) (t u : Tok) (s : Shared) (Q : Value → Shared → Prop) (E : Value → Shared → Prop), C i j → Q (.int (g i j) s.toks) { s with toks := s.toks + 1 } → wpAny (model X.prog X.w) X.A (f (.int i t) (.int j u)) Q E s) :
    OpR X f (rI C fun i j => .int (g i j)) := by
  constructor
  intro pins s σ H x y v u Q I rx ry h
  obtain ⟨i, j, rfl, rfl, hc, q⟩ := h
  obtain ⟨t, rfl⟩ := rx
  obtain ⟨t', rfl⟩ := ry
  exact rule i j t t' s _ _ hc ⟨.int (g i j), H, I.tok _, ⟨_, rfl⟩, q⟩
theorem opI0 {f : Value → Value → Sem Value} {g : Int → Int → Int}
    (rule : ∀ (i j : Int) (t u : Tok) (s : Shared) (Q : Value → Shared → Prop) (E : Value → Shared → Prop), Q (.int (g i j) s.toks) { s with toks := s.toks + 1 } → wpAny (model X.prog X.w) X.A (f (.int i t) (.int j u)) Q E s) :
    OpR X f (rI0 fun i j => .int (g i j)) := by
  constructor
  intro pins s σ H x y v u Q I rx ry h
  obtain ⟨i, j, rfl, rfl, q⟩ := h
  obtain ⟨t, rfl⟩ := rx
  obtain ⟨t', rfl⟩ := ry
  exact rule i j t t' s _ _ ⟨.int (g i j), H, I.tok _, ⟨_, rfl⟩, q⟩
theorem opB0 {f : Value → Value → Sem Value} {g : Int → Int → Bool}
    (rule : ∀ (i j : Int) (t u : Tok) (s : Shared) (Q : Value → Shared → Prop) (E : Value → Shared → Prop), Q (.bool (g i j)) s → wpAny (model X.prog X.w) X.A (f (.int i t) (.int j u)) Q E s) :
    OpR X f (rI0 fun i j => .bl (g i j)) := by
  constructor
  intro pins s σ H x y v u Q I rx ry h
  obtain ⟨i, j, rfl, rfl, q⟩ := h
  obtain ⟨t, rfl⟩ := rx
  obtain ⟨t', rfl⟩ := ry
  exact rule i j t t' s _ _ ⟨.bl (g i j), H, I, rfl, q⟩

noncomputable def CDiv (i j : Int) : Prop := 0 < j ∧ j < 1073741824
noncomputable def CPow (i j : Int) : Prop := 0 ≤ j ∧ j ≤ 1000000 ∧ i.natAbs < 2 ^ 64
noncomputable def CMul (i j : Int) : Prop := (-(2 ^ 64) < i ∧ i < 2 ^ 64) ∨ (-(2 ^ 64) < j ∧ j < 2 ^ 64)
theorem CMul.ok {i j : Int} (h : CMul i j) : IntMulOk i j := by
  rcases h with ⟨h1, h2⟩ | ⟨h1, h2⟩
  · exact .of_left (intBits_le_64 h1 h2)
  · exact .of_right (intBits_le_64 h1 h2)
theorem op_add : OpR X (binaryOp .Add) (rI0 fun i j => .int (i + j)) := opI0 fun _ _ _ _ _ _ _ q => add_int q
theorem op_mul : OpR X (binaryOp .Mult) (rI CMul fun i j => .int (i * j)) := opI fun _ _ _ _ _ _ _ hc q => mul_int q hc.ok

theorem op_fdiv : OpR X (binaryOp .FloorDiv) (rI CDiv fun i j => .int (i / j)) := opI fun i j _ _ _ _ _ hc q => by
  have h1 : (0 : Int) < j := hc.1
  have h2 : j < 1073741824 := hc.2
  exact floordiv_int (by omega) (by rw [Int.fdiv_eq_ediv_of_nonneg i (by omega)]; exact q) (.inl (PyProof.noPylong_small (by omega)))
theorem op_mod : OpR X (binaryOp .Mod) (rI (fun _ j => 0 < j) fun i j => .int (i % j)) := opI fun i j _ _ _ _ _ hc q => by
  have h1 : (0 : Int) < j := hc
  exact mod_int' (by omega) (by rw [Int.fmod_eq_emod_of_nonneg i (by omega)]; exact q)
theorem op_pow : OpR X (binaryOp .Pow) (rI CPow fun i j => .int (i ^ j.toNat)) := opI fun _ _ _ _ _ _ _ hc q => pow_int_small hc.1 hc.2.1 hc.2.2 q
theorem unI {f : Value → Sem Value} {g : Int → Int}
    (rule : ∀ (i : Int) (t : Tok) (s : Shared) (Q : Value → Shared → Prop) (E : Value → Shared → Prop), Q (.int (g i) s.toks) { s with toks := s.toks + 1 } → wpAny (model X.prog X.w) X.A (f (.int i t)) Q E s) :
    UnR X f (rU fun i => .int (g i)) := by
  constructor
  intro pins s σ H x v Q I rx h
  obtain ⟨i, rfl, q⟩ := h
  obtain ⟨t, rfl⟩ := rx
  exact rule i t s _ _ ⟨.int (g i), H, I.tok _, ⟨_, rfl⟩, q⟩
theorem un_neg : UnR X (unaryOp .USub) (rU fun i => .int (-i)) := unI fun _ _ _ _ _ q => neg_int q
end



noncomputable def scal : V → V → Bool
  | .non, .non => true | .non, .int _ => true | .int _, .non => true | .non, .bl _ => true | .bl _, .non => true | .non, .str _ => true | .str _, .non => true
  | .int _, .int _ => true | .bl _, .bl _ => true | .str _, .str _ => true | .byt _, .byt _ => true
  | .int _, .str _ => true | .str _, .int _ => true | .bl _, .str _ => true | .str _, .bl _ => true
  | _, _ => false
noncomputable def rEq : R2 := fun x y H Q => scal x y = true ∧ Q (.bl (decide (x = y))) H
noncomputable def rNe : R2 := fun x y H Q => scal x y = true ∧ Q (.bl (!decide (x = y))) H

theorem dec_int {i j : Int} : decide (V.int i = V.int j) = (i == j) := by
  rw [Bool.eq_iff_iff]
  simp
theorem dec_bl {i j : Bool} : decide (V.bl i = V.bl j) = (i == j) := by
  rw [Bool.eq_iff_iff]
  simp
theorem dec_str {i j : Str} : decide (V.str i = V.str j) = (i == j) := by
  rw [Bool.eq_iff_iff]
  simp
theorem dec_byt {i j : Array UInt8} : decide (V.byt i = V.byt j) = (i.toList == j.toList) := by
  rw [Bool.eq_iff_iff]
  cases i
  cases j
  simp

section
variable {X : Cx} {a b c : Expr} {ta tb tc : TE} {pos : Pos}
theorem fin_bl {pins : List (Addr × Obj)} {σ : St} {H : Hp} {s : Shared} {Q : VK} {k k' : Bool} (I : Inv X pins σ H s) (q : Q (.bl k) H) (e : k = k') : EP X pins σ Q (.bool k') s := by
  subst e
  exact ⟨.bl k, H, I, rfl, q⟩
theorem op_eq : OpR X (compareOp .Eq) rEq := by
  constructor
  intro pins s σ H x y v u Q I rx ry h
  obtain ⟨hs, q⟩ := h
  cases x with
  | non =>
    cases rx
    cases y with
    | non => cases ry; exact PySem.EqNone.eq_none_none (fin_bl I q (by simp))
    | bl j => cases ry; exact PySem.EqNone.eq_none_bool (fin_bl I q (by simp))
    | int j => obtain ⟨t', rfl⟩ := ry; exact PySem.EqNone.eq_none_int (fin_bl I q (by simp))
    | str j => obtain ⟨t', rfl⟩ := ry; exact PySem.EqNone.eq_none_str (fin_bl I q (by simp))
    | _ => exact absurd (show false = true from hs) Bool.false_ne_true
  | bl i =>
    cases rx
    cases y with
    | non => cases ry; exact PySem.EqNone.eq_bool_none (fin_bl I q (by simp))
    | bl j => cases ry; exact eq_bool (fin_bl I q dec_bl)
    | str j => obtain ⟨t', rfl⟩ := ry; exact PySem.EqMixed.eq_bool_str (fin_bl I q (by simp))
    | _ => exact absurd (show false = true from hs) Bool.false_ne_true
  | int i =>
    obtain ⟨t, rfl⟩ := rx
    cases y with
    | non => cases ry; exact PySem.EqNone.eq_int_none (fin_bl I q (by simp))
    | int j => obtain ⟨t', rfl⟩ := ry; exact eq_int (fin_bl I q dec_int)
    | str j => obtain ⟨t', rfl⟩ := ry; exact PySem.EqMixed.eq_int_str (fin_bl I q (by simp))
    | _ => exact absurd (show false = true from hs) Bool.false_ne_true
  | str i =>
    obtain ⟨t, rfl⟩ := rx
    cases y with
    | non => cases ry; exact PySem.EqNone.eq_str_none (fin_bl I q (by simp))
    | bl j => cases ry; exact PySem.EqMixed.eq_str_bool (fin_bl I q (by simp))
    | int j => obtain ⟨t', rfl⟩ := ry; exact PySem.EqMixed.eq_str_int (fin_bl I q (by simp))
    | str j => obtain ⟨t', rfl⟩ := ry; exact eq_str (fin_bl I q dec_str)
    | _ => exact absurd (show false = true from hs) Bool.false_ne_true
  | byt i =>
    obtain ⟨t, rfl⟩ := rx
    cases y with
    | byt j => obtain ⟨t', rfl⟩ := ry; exact PySem.W.eq_bytes (fin_bl I q dec_byt)
    | _ => exact absurd (show false = true from hs) Bool.false_ne_true
  | _ => cases y <;> exact absurd (show false = true from hs) Bool.false_ne_true
theorem op_ne : OpR X (compareOp .NotEq) rNe := by
  constructor
  intro pins s σ H x y v u Q I rx ry h
  obtain ⟨hs, q⟩ := h
  cases x with
  | non =>
    cases rx
    cases y with
    | non => cases ry; exact PySem.EqNone.ne_none_none (fin_bl I q (by simp))
    | bl j => cases ry; exact PySem.EqNone.ne_none_bool (fin_bl I q (by simp))
    | int j => obtain ⟨t', rfl⟩ := ry; exact PySem.EqNone.ne_none_int (fin_bl I q (by simp))
    | str j => obtain ⟨t', rfl⟩ := ry; exact PySem.EqNone.ne_none_str (fin_bl I q (by simp))
    | _ => exact absurd (show false = true from hs) Bool.false_ne_true
  | bl i =>
    cases rx
    cases y with
    | non => cases ry; exact PySem.EqNone.ne_bool_none (fin_bl I q (by simp))
    | bl j => cases ry; exact ne_bool (fin_bl I q (congrArg not dec_bl))
    | str j => obtain ⟨t', rfl⟩ := ry; exact PySem.EqMixed.ne_bool_str (fin_bl I q (by simp))
    | _ => exact absurd (show false = true from hs) Bool.false_ne_true
  | int i =>
    obtain ⟨t, rfl⟩ := rx
    cases y with
    | non => cases ry; exact PySem.EqNone.ne_int_none (fin_bl I q (by simp))
    | int j => obtain ⟨t', rfl⟩ := ry; exact ne_int (fin_bl I q (congrArg not dec_int))
    | str j => obtain ⟨t', rfl⟩ := ry; exact PySem.EqMixed.ne_int_str (fin_bl I q (by simp))
    | _ => exact absurd (show false = true from hs) Bool.false_ne_true
  | str i =>
    obtain ⟨t, rfl⟩ := rx
    cases y with
    | non => cases ry; exact PySem.EqNone.ne_str_none (fin_bl I q (by simp))
    | bl j => cases ry; exact PySem.EqMixed.ne_str_bool (fin_bl I q (by simp))
    | int j => obtain ⟨t', rfl⟩ := ry; exact PySem.EqMixed.ne_str_int (fin_bl I q (by simp))
    | str j => obtain ⟨t', rfl⟩ := ry; exact ne_str (fin_bl I q (congrArg not dec_str))
    | _ => exact absurd (show false = true from hs) Bool.false_ne_true
  | byt i =>
    obtain ⟨t, rfl⟩ := rx
    cases y with
    | byt j => obtain ⟨t', rfl⟩ := ry; exact PySem.W.ne_bytes (fin_bl I q (congrArg not dec_byt))
    | _ => exact absurd (show false = true from hs) Bool.false_ne_true
  | _ => cases y <;> exact absurd (show false = true from hs) Bool.false_ne_true

theorem op_lt : OpR X (compareOp .Lt) (rI0 fun i j => .bl (decide (i < j))) := opB0 fun _ _ _ _ _ _ _ q => lt_int q
theorem op_le : OpR X (compareOp .LtE) (rI0 fun i j => .bl (decide (i ≤ j))) := opB0 fun _ _ _ _ _ _ _ q => le_int q
theorem op_gt : OpR X (compareOp .Gt) (rI0 fun i j => .bl (decide (j < i))) := opB0 fun _ _ _ _ _ _ _ q => gt_int q
theorem op_ge : OpR X (compareOp .GtE) (rI0 fun i j => .bl (decide (j ≤ i))) := opB0 fun _ _ _ _ _ _ _ q => ge_int q
theorem op_notN : OpR X (compareOp .IsNot) (fun x y H Q => y = .non ∧ Q (.bl (!decide (x = .non))) H) := by
  constructor
  intro pins s σ H x y v u Q I rx ry h
  obtain ⟨rfl, q⟩ := h
  cases ry
  refine isnot_none_gen (fin_bl I q ?_)
  cases x <;> first
    | (cases rx; rfl)
    | (obtain ⟨t, rfl⟩ := rx; rfl)

theorem nomark (b : Expr) {op : CmpOp} (h : op ≠ .In := by decide) (h2 : op ≠ .NotIn := by decide) : behindInMarks op b = false := by
  have e1 : (op == CmpOp.In) = false := by cases op <;> first | rfl | exact absurd rfl h
  have e2 : (op == CmpOp.NotIn) = false := by cases op <;> first | rfl | exact absurd rfl h2
  cases b <;> simp [behindInMarks, e1, e2]

theorem pe_cmpR {op : CmpOp} {r : R2} (ho : OpR X (compareOp op) r) (ha : PE X a ta) (hb : PE X b tb) (hm : behindInMarks op b = false) : PE X (.Compare a [op] [b] pos) (tOp r ta tb) := by
  constructor
  intro pins s σ H Q I h
  exact wpAny_Compare1 (binT ha hb I h fun v u s2 x y H2 I2 rx ry q => ho pins s2 σ H2 x y v u Q I2 rx ry q) hm

noncomputable def tTest (t : TE) : TT := fun σ H Q => t σ H fun x H' => ∃ k, x = .bl k ∧ Q k H'
theorem pt_cmpR {op : CmpOp} {r : R2} (ho : OpR X (compareOp op) r) (ha : PE X a ta) (hb : PE X b tb) (hm : behindInMarks op b = false) : PT X (.Compare a [op] [b] pos) (tTest (tOp r ta tb)) := by
  constructor
  intro pins s σ H Q I h
  refine wpAny_isTrue_Compare1 (thn (ha pins s σ H _ I h) fun v s1 ⟨x, H1, I1, r1, q1⟩ => thn (hb pins s1 σ H1 _ I1 q1) fun u s2 ⟨y, H2, I2, r2, q2⟩ =>
    thn (ho pins s2 σ H2 x y v u _ I2 r1 r2 q2) fun c s3 ⟨z, H3, I3, r3, k, e, q3⟩ => ?_) hm
  subst e
  cases r3
  exact wpAny_truthy_bool ⟨H3, I3, q3⟩

noncomputable def tChain (r r' : R2) (ta tb tc : TE) : TE := fun σ H Q => ta σ H fun x H1 => tb σ H1 fun y H2 => r x y H2 fun z H3 => ∃ k, z = .bl k ∧
  (if k = true then tc σ H3 fun w' H4 => r' y w' H4 Q else Q (.bl false) H3)
theorem pe_chain {op op' : CmpOp} {r r' : R2} (ho : OpR X (compareOp op) r) (ho' : OpR X (compareOp op') r') (ha : PE X a ta) (hb : PE X b tb) (hc : PE X c tc)
    (hm : lastMarks [op, op'] [b, c] = false := by with_unfolding_all rfl) : PE X (.Compare a [op, op'] [b, c] pos) (tChain r r' ta tb tc) := by
  constructor
  intro pins s σ H Q I h
  refine Compare_chain (thn (ha pins s σ H _ I h) fun v s1 ⟨x, H1, I1, r1, q1⟩ => chain_link (thn (hb pins s1 σ H1 _ I1 q1) fun u s2 ⟨y, H2, I2, r2, q2⟩ =>
    thn (ho pins s2 σ H2 x y v u _ I2 r1 r2 q2) fun d s3 ⟨z, H3, I3, r3, k, e, q3⟩ => ?_)) hm
  subst e
  cases r3
  refine wpAny_truthy_bool ?_
  cases k with
  | false => exact ite_ff ⟨.bl false, H3, I3, rfl, q3⟩
  | true => exact ite_tt (chain_last (thn (hc pins s3 σ H3 _ I3 q3) fun w' s4 ⟨z', H4, I4, r4, q4⟩ => ho' pins s4 σ H4 y z' u w' Q I4 r2 r4 q4))
theorem pt_chain {op op' : CmpOp} {r r' : R2} (ho : OpR X (compareOp op) r) (ho' : OpR X (compareOp op') r') (ha : PE X a ta) (hb : PE X b tb) (hc : PE X c tc)
    (hm : lastMarks [op, op'] [b, c] = false := by with_unfolding_all rfl) : PT X (.Compare a [op, op'] [b, c] pos) (tTest (tChain r r' ta tb tc)) := by
  constructor
  intro pins s σ H Q I h
  refine isTrue_chain (thn (ha pins s σ H _ I h) fun v s1 ⟨x, H1, I1, r1, q1⟩ => test_link (thn (hb pins s1 σ H1 _ I1 q1) fun u s2 ⟨y, H2, I2, r2, q2⟩ =>
    thn (ho pins s2 σ H2 x y v u _ I2 r1 r2 q2) fun d s3 ⟨z, H3, I3, r3, k, e, q3⟩ => ?_)) hm
  subst e
  cases r3
  refine wpAny_truthy_bool ?_
  cases k with
  | false =>
    obtain ⟨k', e', q'⟩ := q3
    cases e'
    exact ite_ff ⟨H3, I3, q'⟩
  | true =>
    refine ite_tt (test_last (thn (hc pins s3 σ H3 _ I3 q3) fun w' s4 ⟨z', H4, I4, r4, q4⟩ => thn (ho' pins s4 σ H4 y z' u w' _ I4 r2 r4 q4) fun d' s5 ⟨z2, H5, I5, r5, k2, e2, q5⟩ => ?_))
    subst e2
    cases r5
    exact wpAny_truthy_bool ⟨H5, I5, q5⟩



theorem line63 : (sizeLine : Nat) < 2 ^ 63 := by rw [sizeLine_eq]; decide
theorem op_add_str : OpR X (binaryOp .Add) (fun x y H Q => ∃ i j, x = .str i ∧ y = .str j ∧ i.length + j.length ≤ sizeLine ∧ Q (.str (i ++ j)) H) := by
  constructor
  intro pins s σ H x y v u Q I rx ry h
  obtain ⟨i, j, rfl, rfl, hz, q⟩ := h
  obtain ⟨t, rfl⟩ := rx
  obtain ⟨t', rfl⟩ := ry
  exact add_str (fun t' tk => ⟨.str (i ++ j), H, I.tok _, ⟨_, rfl⟩, q⟩) hz
theorem vals1 {x : V} {us : List Value} (r : Vals [x] us) : ∃ u, us = [u] ∧ RelV x u := by
  cases r with
  | cons r1 r2 => cases r2; exact ⟨_, rfl, r1⟩
theorem vals2 {x y : V} {us : List Value} (r : Vals [x, y] us) : ∃ u w', us = [u, w'] ∧ RelV x u ∧ RelV y w' := by
  cases r with
  | cons r1 r2 =>
    cases r2 with
    | cons r3 r4 => cases r4; exact ⟨_, _, rfl, r1, r3⟩
theorem call_abs : CallR X (.builtin "abs") (fun xs H Q => ∃ i, xs = [.int i] ∧ Q (.int (if i < 0 then -i else i)) H) := by
  constructor
  intro pins s σ H xs us Q I r h
  obtain ⟨i, rfl, q⟩ := h
  obtain ⟨u, rfl, t, rfl⟩ := vals1 r
  exact call_abs_int fun u tk => ⟨.int (if i < 0 then -i else i), H, I.tok _, ⟨_, rfl⟩, q⟩
theorem call_max2 (hc : X.calm = true) : CallR X (.builtin "max") (fun xs H Q => ∃ i j, xs = [.int i, .int j] ∧ Q (.int (if j > i then j else i)) H) := by
  constructor
  intro pins s σ H xs us Q I r h
  obtain ⟨i, j, rfl, q⟩ := h
  obtain ⟨u, w', rfl, ⟨t, rfl⟩, ⟨t', rfl⟩⟩ := vals2 r
  refine max_two_ints (I.ok.hd hc) fun h' tk k => ⟨_, H, I.kept k, ?_, q⟩
  by_cases hj : j > i
  · rw [if_pos hj, if_pos hj]; exact ⟨_, rfl⟩
  · rw [if_neg hj, if_neg hj]; exact ⟨_, rfl⟩
theorem call_min2 (hc : X.calm = true) : CallR X (.builtin "min") (fun xs H Q => ∃ i j, xs = [.int i, .int j] ∧ Q (.int (if j < i then j else i)) H) := by
  constructor
  intro pins s σ H xs us Q I r h
  obtain ⟨i, j, rfl, q⟩ := h
  obtain ⟨u, w', rfl, ⟨t, rfl⟩, ⟨t', rfl⟩⟩ := vals2 r
  refine min_two_ints (I.ok.hd hc) fun h' tk k => ⟨_, H, I.kept k, ?_, q⟩
  by_cases hj : j < i
  · rw [if_pos hj, if_pos hj]; exact ⟨_, rfl⟩
  · rw [if_neg hj, if_neg hj]; exact ⟨_, rfl⟩
theorem call_str_int : CallR X (.type "str") (fun xs H Q => ∃ i, xs = [.int i] ∧ i.natAbs.log2 < 1920 ∧ Q (.str (toString i)) H) := by
  constructor
  intro pins s σ H xs us Q I r h
  obtain ⟨i, rfl, hz, q⟩ := h
  obtain ⟨u, rfl, t, rfl⟩ := vals1 r
  exact PySem.P.str_of_int hz ⟨.str _, H, I.tok _, ⟨_, rfl⟩, q⟩
end
end L2

namespace L2
open PySem PySem.Spec PyProof.Rows


structure ObjM (h : Heap) (x dx C : Addr) (mA : Str → Option Value) : Prop where
  obj : h.get? x = some (PySem.W.instObj C dx)
  ns : h.Ns1 dx mA
  ne : dx ≠ x

theorem lookIn_ns {h : Heap} {dx : Addr} {mA : Str → Option Value} (n : h.Ns1 dx mA) : ∃ od, h.get? dx = some od ∧ ∀ name, PySem.W.lookIn name od = some (mA name) := by
  obtain ⟨o, es, ep, ho, hd, hk, _, hm⟩ := n
  refine ⟨o, ho, fun name => ?_⟩
  have e := hm name
  unfold nsFind findBy at e
  rw [← Array.find?_toList] at e
  unfold PySem.W.lookIn
  rw [hd]
  dsimp only
  split
  · rename_i y q
    rw [q] at e
    exact congrArg some e
  · rename_i q
    rw [q] at e
    have a : es.toList.any (·.refKey) = false := by
      rw [List.any_eq_false]
      intro y hy
      obtain ⟨z, t, hkey⟩ := hk y (Array.mem_toList_iff.mp hy)
      simp [DictEntry.refKey, hkey]
    have a' : ¬ es.toList.any (·.refKey) = true := by rw [a]; exact Bool.false_ne_true
    rw [if_neg a']
    exact congrArg some e

theorem ObjM.look {h : Heap} {x dx C : Addr} {mA : Str → Option Value} (I : ObjM h x dx C mA) : ∃ od, PySem.W.InstAt h x (PySem.W.instObj C dx) C (some od) ∧ ∀ name, PySem.W.lookIn name od = some (mA name) :=
  let ⟨od, ho, hl⟩ := lookIn_ns I.ns
  ⟨od, ⟨I.obj, rfl, rfl, ho⟩, hl⟩

section
variable {prog : Program} {w : World} {A : Around} {E : Value → Shared → Prop} {s : Shared} {K : PySem.W.Frag} {x dx C f : Addr} {mA : Str → Option Value} {name : Str} {v : Value}

theorem get_map {expr : Bool} {Q : Value → Shared → Prop} (X : K.In s.heap) (I : ObjM s.heap x dx C mA) (hg : PySem.W.plainGet K C name = true) (hh : PySem.W.hasDictIn K C = true)
    (ha : PySem.W.findIn K (.ref C) name = some none) (hv : mA name = some v) (hv' : PySem.W.handedIn v = true) (h : Q v { s with toks := s.toks + 1 }) :
    wpAny (model prog w) A (getAttr (.ref x) name expr) Q E s := by
  obtain ⟨od, J, hl⟩ := I.look
  exact PySem.W.get_value X J (PySem.W.plainGet_of hg).1 (PySem.W.findObj_own hh ha rfl (by rw [hl, hv])) hv' h

theorem set_map {ns : List Str} {Q : Unit → Shared → Prop} (X : K.In s.heap) (I : ObjM s.heap x dx C mA)
    (hs : PySem.W.findIn K (.ref C) "__setattr__" = some (some (.builtin "object.__setattr__"))) (hp : PySem.W.plainOver K C = true) (ht : PySem.W.takerIn K C name = some none) (hh : PySem.W.hasDictIn K C = true)
    (hw : PySem.Within mA ns) (hsz : ns.length ≤ sizeLine)
    (h : ∀ h', ObjM h' x dx C (fun y => if y = name then some v else mA y) → Heap.SameBut dx s.heap h' → Q () { s with heap := h', toks := s.toks + 2 }) :
    wpAny (model prog w) A (setAttr (.ref x) name v) Q E s := by
  obtain ⟨od, J, hl⟩ := I.look
  refine PySem.W.set_plain X J hs (PySem.W.osa_open (s := { s with toks := s.toks + 1 }) (r := none) X J hp ht fun b => ?_)
  obtain ⟨cd, hc, hd'⟩ := PySem.W.any_some hh
  have hx : s.heap.get? x = some ⟨.ref C, some dx, .plain, #[]⟩ := I.obj
  refine wpAny_bind (wpAny_pure (wpAny_bind (wpAny_bind (wpAny_loadPart hx (wpAny_bind (PySem.W.Looks.here (s := { s with toks := s.toks + 1 }) (PySem.W.looks_clsIn X hc) ?_))))))
  rw [hd']
  refine wpAny_pure (a := some dx) (wpAny_bind (wpAny_pure (wpAny_bind ?_)))
  refine wpAny_nsSet1 (s := { s with toks := s.toks + 1 }) I.ns fun h' hn2 hs2 => ?_
  obtain ⟨oD, esD, epD, hoD, hdD, hcD⟩ := hn2.count (PySem.Within.cons name v hw)
  refine wpAny_bind (wpAny_lookBehind hoD (by rw [hdD]; exact pastItsLine_dict (Nat.le_trans hcD (by rw [List.length_cons]; omega))) ?_)
  exact wpAny_pure (h _ ⟨(hs2.2 _ (Ne.symm I.ne)).trans I.obj, hn2, I.ne⟩ hs2)


theorem make_map {R : Result → Shared → Prop} {vs : List Value} {kw : List (Str × Value)} (X : K.In s.heap) (hm : PySem.W.makesIn K C = true)
    (hi : PySem.W.findIn K (.ref C) "__init__" = some (some (.ref f))) (hf : PySem.W.typeIn K (.ref f) = some (.type "function"))
    (h : codeAny (model prog w) (A.under (.builtin "type.__call__" ⟨.ref C :: vs, kw⟩)) (.call (.ref f) ⟨.ref (s.heap.objs.size + 1) :: vs, kw⟩) (PySem.W.InitBack (s.heap.objs.size + 1) R)
      { s with heap := (s.heap.push PySem.W.emptyDict).push (PySem.W.instObj C s.heap.objs.size) }) :
    codeAny (model prog w) A (.call (.ref C) ⟨vs, kw⟩) R s := by
  obtain ⟨hh, g, d, t, os⟩ := s
  exact PySem.W.make_core (PySem.W.makes_of X hm) (PySem.W.looks_findIn X hi) (fun self => PySem.W.bind_fn X self hf) (.inl rfl) h

end


noncomputable def putF (f : Str) (v : V) : List (Str × V) → List (Str × V)
  | [] => [(f, v)]
  | (g, x) :: r => if g = f then (g, v) :: r else (g, x) :: putF f v r
theorem lookup_putF (f g : Str) (v : V) : ∀ fs : List (Str × V), (putF f v fs).lookup g = if g = f then some v else fs.lookup g
  | [] => by
    show List.lookup g [(f, v)] = _
    by_cases h : g = f
    · have hb : (g == f) = true := beq_iff_eq.mpr h
      simp only [List.lookup, hb, if_pos h]
    · have hb : (g == f) = false := beq_eq_false_iff_ne.mpr h
      simp only [List.lookup, hb, if_neg h]
  | (k, x) :: r => by
    have ih := lookup_putF f g v r
    rw [show putF f v ((k, x) :: r) = (if k = f then (k, v) :: r else (k, x) :: putF f v r) from rfl]
    by_cases hk : k = f
    · rw [if_pos hk]
      by_cases h : g = k
      · have hb : (g == k) = true := beq_iff_eq.mpr h
        simp only [List.lookup, hb, if_pos (h.trans hk)]
      · have hb : (g == k) = false := beq_eq_false_iff_ne.mpr h
        simp only [List.lookup, hb, if_neg (fun e : g = f => h (e.trans hk.symm))]
    · rw [if_neg hk]
      by_cases h : g = k
      · have hb : (g == k) = true := beq_iff_eq.mpr h
        simp only [List.lookup, hb, if_neg (fun e : g = f => hk (h.symm.trans e))]
      · have hb : (g == k) = false := beq_eq_false_iff_ne.mpr h
        simp only [List.lookup, hb]
        exact ih
theorem keys_putF (f : Str) (v : V) : ∀ fs : List (Str × V), f ∈ (putF f v fs).map (·.1) ∧ ∀ g, g ∈ fs.map (·.1) → g ∈ (putF f v fs).map (·.1)
  | [] => ⟨by simp [putF], fun g h => by simp at h⟩
  | (k, x) :: r => by
    obtain ⟨i1, i2⟩ := keys_putF f v r
    rw [show putF f v ((k, x) :: r) = (if k = f then (k, v) :: r else (k, x) :: putF f v r) from rfl]
    by_cases hk : k = f
    · rw [if_pos hk]
      subst hk
      exact ⟨by simp, fun g h => by simpa using h⟩
    · rw [if_neg hk]
      refine ⟨?_, fun g h => ?_⟩
      · rw [List.map_cons]
        exact List.mem_cons_of_mem _ i1
      · rw [List.map_cons] at h ⊢
        rcases List.mem_cons.mp h with e | e
        · exact List.mem_cons.mpr (.inl e)
        · exact List.mem_cons_of_mem _ (i2 g e)
theorem length_putF (f : Str) (v : V) : ∀ fs : List (Str × V), (putF f v fs).length ≤ fs.length + 1
  | [] => by simp [putF]
  | (k, x) :: r => by
    have ih := length_putF f v r
    rw [show putF f v ((k, x) :: r) = (if k = f then (k, v) :: r else (k, x) :: putF f v r) from rfl]
    by_cases hk : k = f
    · rw [if_pos hk, List.length_cons, List.length_cons]; omega
    · rw [if_neg hk, List.length_cons, List.length_cons]; omega

theorem RelO.some_of {v : V} {o : Option Value} (r : RelO (some v) o) : ∃ u, o = some u ∧ RelV v u := by
  cases o with
  | none => exact (show False from r).elim
  | some u => exact ⟨u, rfl, r⟩
theorem handed_of {v : V} {u : Value} (r : RelV v u) : PySem.W.handedIn u = true := by
  cases v with
  | non => cases (show u = Value.none from r); rfl
  | bl b => cases (show u = Value.bool b from r); rfl
  | int i => obtain ⟨t, e⟩ := (show ∃ t, u = Value.int i t from r); cases e; rfl
  | str x => obtain ⟨t, e⟩ := (show ∃ t, u = Value.str x t from r); cases e; rfl
  | byt b => obtain ⟨t, e⟩ := (show ∃ t, u = Value.bytes b t from r); cases e; rfl
  | flt b => obtain ⟨t, e⟩ := (show ∃ t, u = Value.float b t from r); cases e; rfl
  | ref a => cases (show u = Value.ref a from r); rfl
  | ty n => cases (show u = Value.type n from r); rfl

section
variable {P : Program} {w : World} {H H' : Hp} {h h' : Heap} {a C dx : Addr} {fs fs' : List (Str × V)}
theorem ins_get (hok : HOk P w H h) (e : H a = some (.ins C dx fs)) : ∃ mA, ObjM h a dx C mA ∧ (∀ f, RelO (fs.lookup f) (mA f)) ∧ PySem.Within mA (fs.map (·.1)) ∧ fs.length ≤ 1000 ∧ H dx = some (.own a) := by
  obtain ⟨d, z, ne, ob, mA, n, r, q⟩ := (show ObjOk P w H h a (.ins C dx fs) from hok a _ e)
  exact ⟨mA, ⟨ob, n, ne⟩, r, q, z, d⟩
end


structure Cls (K : PySem.W.Frag) (C : Addr) : Prop where
  pg : PySem.W.plainGet K C Str.empty = true
  hd : PySem.W.hasDictIn K C = true
  po : PySem.W.plainOver K C = true
  sa : PySem.W.findIn K (.ref C) "__setattr__" = some (some (.builtin "object.__setattr__"))
theorem Cls.get {K : PySem.W.Frag} {C : Addr} (c : Cls K C) (f : Str) : PySem.W.plainGet K C f = true := c.pg

noncomputable def NoAttr (K : PySem.W.Frag) (C : Addr) (f : Str) : Prop := PySem.W.findIn K (.ref C) f = some none
theorem NoAttr.taker {K : PySem.W.Frag} {C : Addr} {f : Str} (n : NoAttr K C f) : PySem.W.takerIn K C f = some none := by
  unfold PySem.W.takerIn
  rw [show PySem.W.findIn K (.ref C) f = some none from n]
  rfl

structure Meth (K : PySem.W.Frag) (C : Addr) (m : Str) (f : Addr) : Prop where
  at_ : PySem.W.findIn K (.ref C) m = some (some (.ref f))
  fn : PySem.W.isFn K (.ref f) = true
  kp : PySem.W.keepIn K (.ref f) = true

section
variable {X : Cx} {pins : List (Addr × Obj)} {σ : St} {H : Hp} {s : Shared} {a C dx : Addr} {fs : List (Str × V)} {f : Str} {v : V} {A : Around} {E : Value → Shared → Prop}

theorem getattr_ok {b : Bool} {Q : Value → Shared → Prop} (I : Inv X pins σ H s) (e : H a = some (.ins C dx fs)) (c : Cls X.K C) (n : NoAttr X.K C f) (l : fs.lookup f = some v)
    (h : ∀ u s', Inv X pins σ H s' → RelV v u → Q u s') : wpAny (model X.prog X.w) A (getAttr (.ref a) f b) Q E s := by
  obtain ⟨mA, O, r, _, _, _⟩ := ins_get I.hok e
  obtain ⟨u, hu, ru⟩ := RelO.some_of (v := v) (o := mA f) (by rw [← l]; exact r f)
  exact get_map I.kIn O (c.get f) c.hd n hu (handed_of ru) (h u _ (I.tok _) ru)

theorem setattr_ok {y : V} {u : Value} {Q : Unit → Shared → Prop} (I : Inv X pins σ H s) (e : H a = some (.ins C dx fs)) (c : Cls X.K C) (n : NoAttr X.K C f) (hl : fs.length < 1000) (ry : RelV y u)
    (h : ∀ s', Inv X pins σ (upd H a (.ins C dx (putF f y fs))) s' → Q () s') : wpAny (model X.prog X.w) A (setAttr (.ref a) f u) Q E s := by
  obtain ⟨mA, O, r, wi, _, ho⟩ := ins_get I.hok e
  have hz : (fs.map (·.1)).length ≤ sizeLine := by rw [List.length_map, sizeLine_eq]; omega
  refine set_map I.kIn O c.sa c.po n.taker c.hd wi hz fun h' O' sb => h _ ?_
  have hd : ∃ o, h'.get? dx = some o := let ⟨o, _, _, e', _⟩ := O'.ns; ⟨o, e'⟩
  refine I.write (x := a) (e := dx) (by rw [e]; exact True.intro) (.inr ho) (fun b q hb z => (sb.2 b hb).trans z) hd ?_
  refine ⟨by rw [upd_ne O.ne]; exact ho, ?_, O.ne, O'.obj, _, O'.ns, fun g => ?_, fun g hg => ?_⟩
  · have := length_putF f y fs; omega
  · show RelO ((putF f y fs).lookup g) (if g = f then some u else mA g)
    rw [lookup_putF]
    by_cases q : g = f
    · rw [if_pos q, if_pos q]; exact ry
    · rw [if_neg q, if_neg q]; exact r g
  · by_cases q : g = f
    · rw [q]; exact (keys_putF f y fs).1
    · refine (keys_putF f y fs).2 g (wi g fun z => hg ?_)
      show (if g = f then some u else mA g) = none
      rw [if_neg q]; exact z


theorem Inv.made (I : Inv X pins σ H s) : Inv X pins σ (upd (upd H s.heap.objs.size (.own (s.heap.objs.size + 1))) (s.heap.objs.size + 1) (.ins C s.heap.objs.size []))
    { s with heap := (s.heap.push PySem.W.emptyDict).push (PySem.W.instObj C s.heap.objs.size) } := by
  have e1 : (s.heap.push PySem.W.emptyDict).get? s.heap.objs.size = some PySem.W.emptyDict := Heap.get?_push_size s.heap rfl
  have e2 : ((s.heap.push PySem.W.emptyDict).push (PySem.W.instObj C s.heap.objs.size)).get? (s.heap.objs.size + 1) = some (PySem.W.instObj C s.heap.objs.size) := by
    have := Heap.get?_push_size (s.heap.push PySem.W.emptyDict) (o := PySem.W.instObj C s.heap.objs.size) rfl
    rwa [Heap.size_push] at this
  have e3 : (s.heap.push PySem.W.emptyDict).Ns s.heap.objs.size (fun _ => none) := ⟨PySem.W.emptyDict, #[], _, e1, rfl, (fun e he => absurd he (by simp)), fun _ => rfl⟩
  have I1 := I.laid (a := s.heap.objs.size) (o := .own (s.heap.objs.size + 1)) (h' := s.heap.push PySem.W.emptyDict) (t' := s.toks) (fun b u q => Heap.get?_push_of_some _ q) (Nat.le_refl _) ⟨_, e1⟩
  refine I1.laid (a := s.heap.objs.size + 1) (o := .ins C s.heap.objs.size []) (t' := s.toks) (fun b u q => Heap.get?_push_of_some _ q) (Nat.le_of_eq (Heap.size_push _ _)) ?_
  have ne : s.heap.objs.size ≠ s.heap.objs.size + 1 := Nat.ne_of_lt (Nat.lt_succ_self _)
  refine ⟨by rw [upd_ne ne, upd_same], Nat.zero_le _, ne, e2, fun _ => none, (Heap.Ns1.of_empty e3).at fun o q => Heap.get?_push_of_some _ q, fun _ => True.intro, fun y hy => absurd rfl hy⟩


theorem attr_of {prog : Program} {w : World} {env : Env} {e : Expr} {f : Str} {pos : Pos} {s : Shared} {Q : Value → Shared → Prop} (hb : attributeBase e f env (eval e env) = eval e env)
    (h : wpAny (model prog w) A (eval e env) (fun o s₁ => wpAny (model prog w) A (getAttr o f true) Q E s₁) E s) : wpAny (model prog w) A (eval (.Attribute e f pos) env) Q E s :=
  Attribute_any_ h (by rw [arm_eval_Attribute, hb])
end



noncomputable def tFld (K : PySem.W.Frag) (ta : TE) (f : Str) : TE := fun σ H Q => ta σ H fun x H1 => ∃ a C dx fs v, x = .ref a ∧ H1 a = some (.ins C dx fs) ∧ Cls K C ∧ NoAttr K C f ∧ fs.lookup f = some v ∧ Q v H1

noncomputable def sFld (K : PySem.W.Frag) (ta tv : TE) (f : Str) : TS := fun D σ H => tv σ H fun y H1 => ta σ H1 fun x H2 => ∃ a C dx fs, x = .ref a ∧ H2 a = some (.ins C dx fs) ∧ Cls K C ∧ NoAttr K C f ∧ fs.length < 1000 ∧
  D.nx σ (upd H2 a (.ins C dx (putF f y fs)))

structure InOp (X : Cx) (op : Operator) (rd : V → V → Hp → VK → Prop) : Prop where
  run :
    ∀ (pins : List (Addr × Obj)) (s : Shared) (σ : St) (H : Hp) (x y : V) (u v : Value) (Q : VK), Inv X pins σ H s → RelV x u → RelV y v → rd x y H Q → wpAny (model X.prog X.w) X.A (inplaceOp op u v) (EP X pins σ Q) X.xe s
instance {X : Cx} {op : Operator} {rd : V → V → Hp → VK → Prop} : CoeFun (InOp X op rd) (fun _ =>
  ∀ (pins : List (Addr × Obj)) (s : Shared) (σ : St) (H : Hp) (x y : V) (u v : Value) (Q : VK), Inv X pins σ H s → RelV x u → RelV y v → rd x y H Q → wpAny (model X.prog X.w) X.A (inplaceOp op u v) (EP X pins σ Q) X.xe s) := ⟨InOp.run⟩

section
variable {X : Cx} {o e value : Expr} {f : Str} {pos pos' tpos : Pos} {ta tv : TE}
theorem pe_fld (he : PE X e ta) (hb : attributeBase e f X.env (eval e X.env) = eval e X.env) : PE X (.Attribute e f pos) (tFld X.K ta f) := by
  constructor
  intro pins s σ H Q I h
  refine attr_of hb (thn (he pins s σ H _ I h) fun u s1 ⟨x, H1, I1, rx, a, C, dx, fs, v, ex, ea, c, n, l, q⟩ => ?_)
  subst ex
  obtain rfl : u = Value.ref a := rx
  exact getattr_ok I1 ea c n l fun u' s2 I2 ru => ⟨v, H1, I2, ru, q⟩
theorem ps_fld (ha : PE X o ta) (hv : PE X value tv) (hs : swapsWith value (some (.Attribute o f pos')) pos.line X.env = pure false) : PS X (.Assign [.Attribute o f pos'] value pos) (sFld X.K ta tv f) := by
  constructor
  intro pins s σ H D I h
  refine plainObj_wpAny_Assign_Attribute (thn (hv pins s σ H _ I h) fun u s1 ⟨y, H1, I1, ry, q⟩ => thn (ha pins s1 σ H1 _ I1 q) fun ov s2 ⟨x, H2, I2, rx, a, C, dx, fs, ex, ea, c, n, l, q2⟩ => ?_) hs
  subst ex
  obtain rfl : ov = Value.ref a := rx
  exact setattr_ok I2 ea c n l ry fun s3 I3 => ⟨σ, _, I3, q2⟩
end


section
variable {X : Cx} {pins : List (Addr × Obj)} {σ : St} {H : Hp} {s : Shared} {A : Around} {E : Value → Shared → Prop} {Q : Value → Shared → Prop} {c : Value} {b : Bool}

inductive TyOf (K : PySem.W.Frag) (H : Hp) : V → Value → Prop where
  | non : TyOf K H .non (.type "NoneType")
  | bl (x : Bool) : TyOf K H (.bl x) (.type "bool")
  | int (i : Int) : TyOf K H (.int i) (.type "int")
  | str (x : Str) : TyOf K H (.str x) (.type "str")
  | flt (x : UInt64) : TyOf K H (.flt x) (.type "float")
  | lst {a : Addr} {xs : List V} (e : H a = some (.lst xs)) : TyOf K H (.ref a) (.type "list")
  | frz {a : Addr} {o : Obj} {xs : List V} (e : H a = some (.frz o (.lst xs))) : TyOf K H (.ref a) (.type "list")
  | tup {a : Addr} {xs : List V} (e : H a = some (.tup xs)) : TyOf K H (.ref a) (.type "tuple")
  | dK {a : Addr} {kvs : List (Key × V)} (e : H a = some (.dK kvs)) : TyOf K H (.ref a) (.type "dict")
  | dT {a : Addr} {kvs : List (List Key × V)} (e : H a = some (.dT kvs)) : TyOf K H (.ref a) (.type "dict")
  | ins {a C dx : Addr} {fs : List (Str × V)} (e : H a = some (.ins C dx fs)) (cl : Cls K C) (ha : PySem.W.findIn K (.ref C) "__class__" = some (some (.builtin "object.__class__")))
      (hn : PySem.W.specialIn K (.builtin "object.__class__") "__get__" = some (some (.builtin "getset_descriptor.__get__"))) (htk : PySem.W.takesIn K (.builtin "object.__class__") = some true)
      (hm : PySem.W.mroIn K C (.type "object") = some true) : TyOf K H (.ref a) (.ref C)

theorem isinst_ok {x : V} {u t : Value} (I : Inv X pins σ H s) (rx : RelV x u) (ty : TyOf X.K H x t) (e : PySem.W.kitOne X.K t c = some b) (h : ∀ tk, Q (.bool b) { s with toks := tk }) :
    wpAny (model X.prog X.w) A (call (.builtin "isinstance") [u, c]) Q E s := by
  cases ty with
  | non => cases (show u = Value.none from rx); exact PySem.W.kia_one PySem.W.kitx_none I.kIn True.intro e (fun z => nomatch z) h
  | bl y => cases (show u = Value.bool y from rx); exact PySem.W.kia_one PySem.W.kitx_bool I.kIn True.intro e (fun z => nomatch z) h
  | int i => obtain ⟨t, q⟩ := (show ∃ t, u = Value.int i t from rx); cases q; exact PySem.W.kia_one PySem.W.kitx_int I.kIn True.intro e (fun z => nomatch z) h
  | str y => obtain ⟨t, q⟩ := (show ∃ t, u = Value.str y t from rx); cases q; exact PySem.W.kia_one PySem.W.kitx_str I.kIn True.intro e (fun z => nomatch z) h
  | flt y => obtain ⟨t, q⟩ := (show ∃ t, u = Value.float y t from rx); cases q; exact PySem.W.kia_one PySem.W.kitx_float I.kIn True.intro e (fun z => nomatch z) h
  | @lst a xs ea =>
    cases (show u = Value.ref a from rx)
    obtain ⟨_, _, n, _, h1⟩ := (show ObjOk X.prog X.w H s.heap a (.lst xs) from I.hok a _ ea)
    exact PySem.W.kia_one PySem.W.kitx_list I.kIn ⟨_, h1, rfl⟩ e (fun z => nomatch z) h
  | @frz a ob xs ea =>
    cases (show u = Value.ref a from rx)
    obtain ⟨_, _, _, n, _, h1⟩ := (show ObjOk X.prog X.w H s.heap a (.frz ob (.lst xs)) from I.hok a _ ea)
    exact PySem.W.kia_one PySem.W.kitx_list I.kIn ⟨_, h1, rfl⟩ e (fun z => nomatch z) h
  | @tup a xs ea =>
    cases (show u = Value.ref a from rx)
    obtain ⟨_, _, _, p⟩ := (show ObjOk X.prog X.w H s.heap a (.tup xs) from I.hok a _ ea)
    obtain ⟨o, h1, h2, _⟩ := p
    exact PySem.W.kia_one PySem.W.kitx_tuple I.kIn ⟨o, h1, h2⟩ e (fun z => nomatch z) h
  | @dK a kvs ea =>
    cases (show u = Value.ref a from rx)
    obtain ⟨_, _, vs, _, p⟩ := (show ObjOk X.prog X.w H s.heap a (.dK kvs) from I.hok a _ ea)
    obtain ⟨o, es, ep, h1, h2, _⟩ := p
    exact PySem.W.kia_one PySem.W.kitx_dict I.kIn ⟨o, h1, h2.1⟩ e (fun z => nomatch z) h
  | @dT a kvs ea =>
    cases (show u = Value.ref a from rx)
    obtain ⟨_, _, xs, _, o, es, ep, h1, h2, _⟩ := (show ObjOk X.prog X.w H s.heap a (.dT kvs) from I.hok a _ ea)
    exact PySem.W.kia_one PySem.W.kitx_dict I.kIn ⟨o, h1, h2.1⟩ e (fun z => nomatch z) h
  | @ins a C dx fs ea cl ha hn htk hm =>
    cases (show u = Value.ref a from rx)
    obtain ⟨mA, O, _⟩ := ins_get I.hok ea
    obtain ⟨od, J, _⟩ := O.look
    exact PySem.W.kia_one (PySem.W.kitx_own (cl.get _) cl.hd ha hn htk hm) I.kIn J e (fun z => nomatch z) h
end
end L2

namespace L2
open PySem PySem.Spec PyProof.Rows


structure Room (k : Nat) (A : Around) : Prop where
  hd : A.handled = none
  dp : A.depth + 3 * k + 5 < recursionLimit
  un : A.units + 16 * k + 200 < cLine
  gd : A.guards = some []
theorem Room.mono {j k : Nat} {A : Around} (r : Room k A) (h : j ≤ k) : Room j A := ⟨r.hd, by have := r.dp; omega, by have := r.un; omega, r.gd⟩
theorem Room.deeper {k : Nat} {A : Around} (r : Room (k + 1) A) (env : Env) : Room k (A.deeper env) :=
  ⟨r.hd, by have := r.dp; show A.depth + 1 + 3 * k + 5 < _; omega, by have := r.un; show A.units + 3 + 16 * k + 200 < _; omega, r.gd⟩
theorem Room.in1 {k : Nat} {A : Around} (r : Room (k + 1) A) : Room k A.in1 :=
  ⟨r.hd, by have := r.dp; show A.depth + 3 * k + 5 < _; omega, by have := r.un; show A.units + 1 + 16 * k + 200 < _; omega, r.gd⟩
theorem make_depth {A : Around} {C : Addr} {us : List Value} {kw : List (Str × Value)} : (A.under (.builtin "type.__call__" ⟨.ref C :: us, kw⟩)).depth = A.depth + 1 := by
  first | rfl | simp [Around.under, Code.weight, Code.isCreation, Code.isGuard, Code.isCaller, Code.frames, Code.isFrame, guardIds]
theorem make_units {A : Around} {C : Addr} {us : List Value} {kw : List (Str × Value)} : (A.under (.builtin "type.__call__" ⟨.ref C :: us, kw⟩)).units = A.units + 1 := by
  first | rfl | simp [Around.under, Code.cUnits, Code.frames, Code.isFrame]
theorem make_guards {A : Around} {C : Addr} {us : List Value} {kw : List (Str × Value)} : (A.under (.builtin "type.__call__" ⟨.ref C :: us, kw⟩)).guards = A.guards := by
  first | rfl | simp [Around.under, Code.guards, Code.isGuard, guardIds, pushGuards]
theorem Room.make {k : Nat} {A : Around} (r : Room (k + 1) A) (C : Addr) (us : List Value) (kw : List (Str × Value)) : Room k (A.under (.builtin "type.__call__" ⟨.ref C :: us, kw⟩)) :=
  ⟨r.hd, by have := r.dp; rw [make_depth]; omega, by have := r.un; rw [make_units]; omega, make_guards.trans r.gd⟩
theorem Room.depth {k : Nat} {A : Around} (r : Room k A) : A.depth < recursionLimit := by have := r.dp; omega
theorem Room.units {k : Nat} {A : Around} (r : Room k A) : A.units + 64 < cLine := by have := r.un; omega
noncomputable def tNil : TA := fun _ H Q => Q [] H
noncomputable def tCons (ta : TE) (tr : TA) : TA := fun σ H Q => ta σ H fun x H1 => tr σ H1 fun xs H2 => Q (x :: xs) H2
section
variable {X : Cx} {e : Expr} {es : List Expr} {te : TE} {t : TA} {pos : Pos}
theorem pa_nil : PA X [] tNil := ⟨fun _ _ _ _ H Q I h => Calls.spliced_nil ⟨[], H, I, .nil, h⟩⟩
theorem pa_cons (ha : PE X e te) (hr : PA X es t) (hs : starEach (e :: es) X.env = (false, eval e X.env) :: starEach es X.env := by rfl) : PA X (e :: es) (tCons te t) := by
  constructor
  intro pos pins s σ H Q I h
  rw [hs]
  show wpAny _ _ (spliced ((false, eval e X.env) :: backTo pos (starEach es X.env))) _ _ s
  refine Calls.spliced_cons (thn (ha pins s σ H _ I h) fun u s1 ⟨x, H1, I1, r1, q1⟩ => ?_)
  exact thn (hr pos pins s1 σ H1 _ I1 q1) fun us s2 ⟨xs, H2, I2, r2, q2⟩ => ⟨x :: xs, H2, I2, .cons r1 r2, q2⟩


noncomputable def tTup (t : TA) : TE := fun σ H Q => t σ H fun xs H1 => xs.length ≤ sizeLine ∧ ∀ p, H1 p = none → Q (.ref p) (upd H1 p (.tup xs))
noncomputable def tLst (t : TA) : TE := fun σ H Q => t σ H fun xs H1 => xs.length ≤ sizeLine ∧ ∀ p, H1 p = none → Q (.ref p) (upd H1 p (.lst xs))
theorem pe_tup {x1} (h : PA X es t) : PE X (.Tuple es x1 pos) (tTup t) := by
  constructor
  intro pins s σ H Q I hq
  refine wpAny_Tuple_spliced (thn (h pos pins s σ H _ I hq) fun us s1 ⟨xs, H1, I1, r, z, q⟩ => ⟨by rw [← r.length]; exact z, ?_⟩)
  have hf : H1 s1.heap.objs.size = none := I1.hok.fresh (Nat.le_refl _)
  refine ⟨.ref s1.heap.objs.size, upd H1 s1.heap.objs.size (.tup xs), I1.laid (t' := s1.toks) (fun b u e => Heap.get?_push_of_some _ e) (Nat.le_refl _) ?_, rfl, q _ hf⟩
  exact ⟨z, us, r, ⟨_, Heap.get?_push_size _ rfl, rfl, ⟨_, rfl⟩, rfl⟩⟩
theorem pe_lst (h : PA X es t) : PE X (.List es pos) (tLst t) := by
  constructor
  intro pins s σ H Q I hq
  refine wpAny_List_spliced (thn (h pos pins s σ H _ I hq) fun us s1 ⟨xs, H1, I1, r, z, q⟩ => ⟨by rw [← r.length]; exact z, ?_⟩)
  have hf : H1 s1.heap.objs.size = none := I1.hok.fresh (Nat.le_refl _)
  refine ⟨.ref s1.heap.objs.size, upd H1 s1.heap.objs.size (.lst xs), I1.laid (t' := s1.toks) (fun b u e => Heap.get?_push_of_some _ e) (Nat.le_refl _) ?_, rfl, q _ hf⟩
  exact ⟨z, us, 0, r, Heap.get?_push_size _ rfl⟩
end



noncomputable abbrev Sp := List V → Hp → VK → XK → Prop

noncomputable abbrev CXT := List Env → Hp → Shared → XK → Value → Shared → Prop


structure Env0 (P : Program) (w : World) (K : PySem.W.Frag) (mg : Str → Option Value) (base : Heap) (A : Around) (outer : List Env) (s : Shared) (H : Hp) : Prop where
  frames : A.frames = some outer
  mod : Mod K mg base
  bs : ∀ b o, base.get? b = some o → s.heap.get? b = some o ∧ H b = none
  bsz : base.objs.size ≤ s.heap.objs.size
  funs : s.heap.FunFrames base outer
  frf : ∀ b ∈ frs outer, H b = none
  hok : HOk P w H s.heap
  bare : AllBare s.gens

noncomputable def CE (outer : List Env) (P : Program) (w : World) (H : Hp) (s : Shared) (Q : VK) (u : Value) (s' : Shared) : Prop :=
  ∃ v H', s'.os = s.os ∧ AllBare s'.gens ∧ Un (frs outer) [] H H' s.heap s'.heap ∧ HOk P w H' s'.heap ∧ RelV v u ∧ Q v H'
noncomputable def CR (CX : CXT) (outer : List Env) (P : Program) (w : World) (H : Hp) (s : Shared) (Q : VK) (E : XK) (r : Result) (s' : Shared) : Prop :=
  match r with
  | .ok (.ret u) => CE outer P w H s Q u s'
  | .ok _ => False
  | .error e => CX outer H s E e s'
structure FnOk (P : Program) (w : World) (K : PySem.W.Frag) (mg : Str → Option Value) (base : Heap) (CX : CXT) (k : Nat) (f : Addr) (fd : FuncData) (ps : List Str) (sp : Sp) : Prop where
  len : ∀ vs H Q E, sp vs H Q E → vs.length = ps.length
  run : ∀ (A : Around) (outer : List Env) (s : Shared) (H : Hp) (args : Args) (us : List Value) (vs : List V) (Q : VK) (E : XK), Room k A → Env0 P w K mg base A outer s H → BindsTo s fd args (ps.zip us) → Vals vs us → sp vs H Q E →
    codeAny (model P w) A (.call (.ref f) args) (CR CX outer P w H s Q E) s
theorem FnOk.imp {P : Program} {w : World} {K : PySem.W.Frag} {mg : Str → Option Value} {base : Heap} {CX : CXT} {k : Nat} {f : Addr} {fd : FuncData} {ps : List Str} {sp sp' : Sp} (F : FnOk P w K mg base CX k f fd ps sp)
    (h : ∀ vs H Q E, sp' vs H Q E → sp vs H Q E) : FnOk P w K mg base CX k f fd ps sp' :=
  ⟨fun vs H Q E q => F.len vs H Q E (h _ _ _ _ q), fun A outer s H args us vs Q E hr he hb hv hs => F.run A outer s H args us vs Q E hr he hb hv (h _ _ _ _ hs)⟩

theorem Env0.make {P : Program} {w : World} {K : PySem.W.Frag} {mg : Str → Option Value} {base : Heap} {A : Around} {outer : List Env} {s : Shared} {H : Hp} (e : Env0 P w K mg base A outer s H) (C : Addr) (us : List Value) (kw : List (Str × Value)) :
    Env0 P w K mg base (A.under (.builtin "type.__call__" ⟨.ref C :: us, kw⟩)) outer s H := ⟨by first | exact e.frames | (simpa [Around.under, Code.envs, Code.isFrame, pushEnvs] using e.frames), e.mod, e.bs, e.bsz, e.funs, e.frf, e.hok, e.bare⟩
theorem Env0.in1 {P : Program} {w : World} {K : PySem.W.Frag} {mg : Str → Option Value} {base : Heap} {A : Around} {outer : List Env} {s : Shared} {H : Hp} (e : Env0 P w K mg base A outer s H) :
    Env0 P w K mg base A.in1 outer s H := ⟨e.frames, e.mod, e.bs, e.bsz, e.funs, e.frf, e.hok, e.bare⟩

section
variable {X : Cx} {pins : List (Addr × Obj)} {σ : St} {H : Hp} {s s' : Shared}

theorem Inv.env0 (I : Inv X pins σ H s) : Env0 X.prog X.w X.K X.mg X.base X.A X.stack s H :=
  ⟨I.ok.frames, I.ok.mod, I.bs, Nat.le_trans I.ok.bsz I.sz, I.stack, I.stkFree, I.hok, I.bare⟩

theorem Inv.after {Q : VK} {u : Value} (I : Inv X pins σ H s) (h : CE X.stack X.prog X.w H s Q u s') : EP X pins σ Q u s' := by
  obtain ⟨v, H', os, bare, un, hok, r, q⟩ := h
  obtain ⟨hh, g, d, t, os'⟩ := s'
  obtain rfl : os' = s.os := os
  exact ⟨v, H', I.call (h' := hh) (g' := g) (d' := d) (t' := t) (ch := []) un hok bare (fun b z => absurd z (by simp)), r, q⟩
end



noncomputable def tCall (sp : Sp) (dvs : List V) (E : XK) (t : TA) : TE := fun σ H Q => t σ H fun vs H1 => sp (vs ++ dvs) H1 Q E

noncomputable def Binds (K : PySem.W.Frag) (fd : FuncData) (ps : List Str) (ds : List Value) : Prop :=
  ∀ (s : Shared) (us : List Value), K.In s.heap → (us ++ ds).length = ps.length → BindsTo s fd ⟨us, []⟩ (ps.zip (us ++ ds))

theorem Binds.all {K : PySem.W.Frag} {fd : FuncData} {ps : List Str} (h : ∀ us : List Value, us.length = ps.length → bindArgs fd ⟨us, []⟩ = pure (ps.zip us)) : Binds K fd ps [] := fun s us _ hl => by
  rw [List.append_nil] at hl ⊢
  exact .of_eq (h us hl)


noncomputable def Passes (CX : CXT) (X : Cx) (E : XK) : Prop := ∀ (pins : List (Addr × Obj)) (σ : St) (H : Hp) (s : Shared) (e : Value) (s' : Shared), Inv X pins σ H s → CX X.stack H s E e s' → X.xe e s'

section
variable {X : Cx} {CX : CXT} {k : Nat} {f C : Addr} {fd : FuncData} {ps : List Str} {sp : Sp} {dvs : List V} {ds : List Value} {E : XK} {x m : Str} {p pos apos : Pos} {e o : Expr} {es : List Expr} {ta : TE} {t : TA}


theorem run_fn {pins : List (Addr × Obj)} {σ : St} {H : Hp} {s : Shared} {Q : VK} {us : List Value} {vs : List V} (F : FnOk X.prog X.w X.K X.mg X.base CX k f fd ps sp) (hr : Room k X.A) (hb : Binds X.K fd ps ds) (hd : Vals dvs ds) (hx : Passes CX X E)
    (I : Inv X pins σ H s) (r : Vals vs us) (h : sp (vs ++ dvs) H Q E) : wpAny (model X.prog X.w) X.A (call (.ref f) us) (EP X pins σ Q) X.xe s := by
  have r2 : Vals (vs ++ dvs) (us ++ ds) := r.append hd
  have hl : (us ++ ds).length = ps.length := by rw [← r2.length]; exact F.len _ _ _ _ h
  refine wpAny_call (codeAny_mono (F.run X.A X.stack s H ⟨us, []⟩ (us ++ ds) (vs ++ dvs) Q E hr I.env0 (hb s us I.kIn hl) r2 h) fun r s' hq => ?_)
  cases r with
  | error e => exact hx pins σ H s e s' I hq
  | ok fl =>
    cases fl with
    | ret u => exact I.after hq
    | next => exact False.elim hq
    | brk => exact False.elim hq
    | cont => exact False.elim hq

theorem pe_call (F : FnOk X.prog X.w X.K X.mg X.base CX k f fd ps sp) (hr : Room k X.A) (hg : Gl X x) (hm : X.mg x = some (.ref f)) (hk : PySem.W.keepIn X.K (.ref f) = true) (hb : Binds X.K fd ps ds) (hd : Vals dvs ds) (hx : Passes CX X E)
    (ha : PA X (e :: es) t) (hdb : (x == ("__debug__" : Str)) = false := by decide) (he : starEach (e :: es) X.env = (false, eval e X.env) :: starEach es X.env := by rfl) (hpl : (backTo pos (starEach es X.env)).any (·.1) = false := by rfl) :
    PE X (.Call (.Name x p) (e :: es) [] pos) (tCall sp dvs E t) := by
  constructor
  intro pins s σ H Q I h
  refine wpAny_Call_Name_kw (ld_glob I hg hm ?_ hdb)
  refine PySem.W.callWith_K (h₀ := X.base) I.ok.mod.kin hk (thn (ha pos pins s σ H _ I h) fun us s1 ⟨vs, H1, I1, r, q⟩ => ⟨I1.kIn, ?_⟩) he hpl
  exact run_fn F hr hb hd hx I1 r q
structure Mk (K : PySem.W.Frag) (C f : Addr) : Prop where
  makes : PySem.W.makesIn K C = true
  init : PySem.W.findIn K (.ref C) "__init__" = some (some (.ref f))
  fn : PySem.W.isFn K (.ref f) = true
  kp : PySem.W.keepIn K (.ref C) = true

end



structure PK (X : Cx) (kws : List Keyword) (t : TA) : Prop where
  run :
    ∀ (pos : Pos) (pins : List (Addr × Obj)) (s : Shared) (σ : St) (H : Hp) (Q : List V → Hp → Prop), Inv X pins σ H s → t σ H Q → wpAny (model X.prog X.w) X.A (evalAll ((backToKw pos (keywordEach kws X.env)).map (·.2))) (AP X pins σ Q) X.xe s
instance {X : Cx} {kws : List Keyword} {t : TA} : CoeFun (PK X kws t) (fun _ =>
  ∀ (pos : Pos) (pins : List (Addr × Obj)) (s : Shared) (σ : St) (H : Hp) (Q : List V → Hp → Prop), Inv X pins σ H s → t σ H Q → wpAny (model X.prog X.w) X.A (evalAll ((backToKw pos (keywordEach kws X.env)).map (·.2))) (AP X pins σ Q) X.xe s) := ⟨PK.run⟩
section
variable {X : Cx} {CX : CXT} {k : Nat} {f C : Addr} {fd : FuncData} {ps ks : List Str} {sp : Sp} {E : XK} {x m : Str} {p pos apos kpos : Pos} {e o : Expr} {es : List Expr} {kws : List Keyword} {te ta : TE} {t tk : TA} {nm : Option Str}
theorem pk_nil : PK X [] tNil := ⟨fun _ _ _ _ H Q I h => wpAny_evalAll_nil ⟨[], H, I, .nil, h⟩⟩
theorem pk_cons (ha : PE X e te) (hr : PK X kws t) : PK X (⟨nm, e, kpos⟩ :: kws) (tCons te t) := by
  constructor
  intro pos pins s σ H Q I h
  show wpAny _ _ (evalAll ((do let v ← eval e X.env; standAt pos; pure v) :: (backToKw pos (keywordEach kws X.env)).map (·.2))) _ _ s
  refine wpAny_evalAll_cons (wpAny_bind (thn (ha pins s σ H _ I h) fun u s1 ⟨x, H1, I1, r1, q1⟩ => wpAny_bind (wpAny_standAt (wpAny_pure ?_))))
  exact thn (hr pos pins s1 σ H1 _ I1 q1) fun us s2 ⟨xs, H2, I2, r2, q2⟩ => ⟨x :: xs, H2, I2, .cons r1 r2, q2⟩


structure KBinds (K : PySem.W.Frag) (fd : FuncData) (ps ks : List Str) (g : List Value → List Value → List Value) (gV : List V → List V → List V) : Prop where
  to : ∀ (s : Shared) (us ws : List Value), K.In s.heap → (g us ws).length = ps.length → BindsTo s fd ⟨us, ks.zip ws⟩ (ps.zip (g us ws))
  rel : ∀ {vs : List V} {us : List Value} {zs : List V} {ws : List Value}, Vals vs us → Vals zs ws → Vals (gV vs zs) (g us ws)
variable {g : List Value → List Value → List Value} {gV : List V → List V → List V}
end



structure FnScope (N P : List Str) (sc : Scope) : Prop where
  kind : sc.kind = .function
  co : sc.isCoroutine = false
  gen : sc.isGenerator = false
  nd : N.Nodup
  pre : N.take P.length = P
  par : ∀ x ∈ P, sc.names.lookup x = some .local ∨ sc.names.lookup x = some .cell
  nofree : ∀ y ∈ sc.names, y.2 ≠ .free

theorem bindL_out {kindOf : Str → Option NameKind} {x : Str} : ∀ {binds : List (Str × Value)} {m : Str → Option Value}, (∀ v, (x, v) ∉ binds) → bindL kindOf binds m x = m x
  | [], _, _ => rfl
  | (n, v) :: r, m, h => by
    unfold bindL
    rw [bindL_out fun w hw => h w (List.mem_cons_of_mem _ hw)]
    split
    · have : x ≠ n := by rintro rfl; exact h v List.mem_cons_self
      simp [this]
    · rfl
theorem bindC_out {kindOf : Str → Option NameKind} {x : Str} : ∀ {binds : List (Str × Value)} {m : Str → Option Value}, (∀ v, (x, v) ∉ binds) → bindC kindOf binds m x = m x
  | [], _, _ => rfl
  | (n, v) :: r, m, h => by
    unfold bindC
    rw [bindC_out fun w hw => h w (List.mem_cons_of_mem _ hw)]
    split
    · rfl
    · have : x ≠ n := by rintro rfl; exact h v List.mem_cons_self
      simp [this]
theorem bindL_get {kindOf : Str → Option NameKind} {x : Str} {v : Value} : ∀ {P : List Str} {vs : List Value} {i : Nat} {m : Str → Option Value}, P.Nodup → P[i]? = some x → vs[i]? = some v → kindOf x = some .local →
    bindL kindOf (P.zip vs) m x = some v
  | [], _, _, _, _, h, _, _ => by simp at h
  | _ :: _, [], _, _, _, _, h, _ => by simp at h
  | p :: P, w :: vs, 0, m, nd, h1, h2, hk => by
    simp at h1 h2; subst h1; subst h2
    show bindL kindOf ((p, w) :: P.zip vs) m p = _
    unfold bindL
    rw [bindL_out fun v hv => (List.nodup_cons.mp nd).1 (List.of_mem_zip hv).1, if_pos hk]
    simp
  | p :: P, w :: vs, i + 1, m, nd, h1, h2, hk => by
    show bindL kindOf ((p, w) :: P.zip vs) m x = _
    unfold bindL
    exact bindL_get (i := i) (List.nodup_cons.mp nd).2 (by simpa using h1) (by simpa using h2) hk
theorem bindC_get {kindOf : Str → Option NameKind} {x : Str} {v : Value} : ∀ {P : List Str} {vs : List Value} {i : Nat} {m : Str → Option Value}, P.Nodup → P[i]? = some x → vs[i]? = some v → kindOf x ≠ some .local →
    bindC kindOf (P.zip vs) m x = some v
  | [], _, _, _, _, h, _, _ => by simp at h
  | _ :: _, [], _, _, _, _, h, _ => by simp at h
  | p :: P, w :: vs, 0, m, nd, h1, h2, hk => by
    simp at h1 h2; subst h1; subst h2
    show bindC kindOf ((p, w) :: P.zip vs) m p = _
    unfold bindC
    rw [bindC_out fun v hv => (List.nodup_cons.mp nd).1 (List.of_mem_zip hv).1, if_neg hk]
    simp
  | p :: P, w :: vs, i + 1, m, nd, h1, h2, hk => by
    show bindC kindOf ((p, w) :: P.zip vs) m x = _
    unfold bindC
    exact bindC_get (i := i) (List.nodup_cons.mp nd).2 (by simpa using h1) (by simpa using h2) hk


noncomputable def start (N : List Str) (vs : List V) : St := vs.map some ++ List.replicate (N.length - vs.length) none


noncomputable def cxOf (CX : CXT) (P : Program) (w : World) (K : PySem.W.Frag) (mg : Str → Option Value) (base : Heap) (N : List Str) (qual : Str) (scope : Scope) (f : Addr) (cd : Value) (A : Around) (outer : List Env) (s : Shared) (H : Hp) (E : XK) : Cx where
  prog := P
  w := w
  K := K
  mg := mg
  base := base
  A := A.deeper (envOfC qual scope s.heap.objs.size f cd)
  N := N
  s_0 := s
  H_0 := H
  env := envOfC qual scope s.heap.objs.size f cd
  outer := outer
  stack := envOfC qual scope s.heap.objs.size f cd :: outer
  ex := []
  calm := true
  fn := fun _ => true
  pn := []
  xe := fun e s' => wpAny (model P w) (A.deeper (envOfC qual scope s.heap.objs.size f cd)) (leaving (envOfC qual scope s.heap.objs.size f cd) e) (fun _ s'' => CX outer H s E e s'') (fun e' s'' => CX outer H s E e' s'') s'

theorem cell_has {sc : Scope} {n : Nat} {x : Str} (h : sc.names.lookup x = some .cell) : ∃ c, (cellsFrom n sc.names []).lookup x = some c := by
  have q := PySem.W.cellsFrom_some sc.names n [] (.inl h)
  exact Option.isSome_iff_exists.mp q

theorem inv_start {CX : CXT} {P : Program} {w : World} {K : PySem.W.Frag} {mg : Str → Option Value} {base : Heap} {N ps : List Str} {qual : Str} {scope : Scope} {f : Addr} {cd : Value} {A : Around} {outer : List Env} {s s1 : Shared} {H : Hp} {E : XK} {us : List Value} {vs : List V}
    (S : FnScope N ps scope) (hd : A.handled = none) (e0 : Env0 P w K mg base A outer s H) (hl : vs.length = ps.length) (r : Vals vs us)
    (x : InCallC s s.heap.objs.size (bindL (envOfC qual scope s.heap.objs.size f cd).kindOf (ps.zip us) fun _ => none) (cellsFrom (s.heap.objs.size + 1) scope.names []) (bindC (envOfC qual scope s.heap.objs.size f cd).kindOf (ps.zip us) fun _ => none) s1) :
    Inv (cxOf CX P w K mg base N qual scope f cd A outer s H E) [] (start N vs) H s1 := by
  have hpl : ps.length ≤ N.length := by have := congrArg List.length S.pre; rw [List.length_take] at this; omega
  obtain ⟨h1, tk, rfl, hk⟩ := x.done
  have noA : ∀ b : Addr, b ∉ (cxOf CX P w K mg base N qual scope f cd A outer s H E).ex := fun b z => absurd (show b ∈ ([] : List Addr) from z) (by simp)
  refine ⟨⟨e0.mod, S.kind, rfl, rfl, Nat.le_refl _, fun y z c h1 h2 => ?_, fun y hy => ?_, fun y c _ h => ?_, fun _ => hd, Around.frames_deeper e0.frames, .inr ⟨rfl, rfl⟩, fun b z => absurd z (noA b), e0.bs, e0.bsz, fun b _ _ => noA b, fun b z => absurd z (noA b), e0.funs, e0.frf⟩,
    rfl, e0.bare, Un.kept hk, ⟨_, x.toInCall.ns, fun i y v h1 h2 h3 => ?_⟩, fun y c h => ⟨_, x.cell y c h⟩, e0.hok.fresh (Nat.le_refl _), fun y c h => ?_, fun p hp => absurd (show p ∈ ([] : List (Addr × Obj)) from hp) (by simp), e0.hok.kept hk, ?_⟩
  · exact name_of_addr x.apart (PySem.mem_of_lookup h1) (PySem.mem_of_lookup h2)
  · have hy : scope.names.lookup y = some .cell ∨ scope.names.lookup y = some .free := hy
    rcases hy with hy | hy
    · exact cell_has hy
    · exact absurd rfl (S.nofree _ (PySem.mem_of_lookup hy))
  · exact Nat.le_of_lt (x.above y c (PySem.mem_of_lookup h))
  · have hi : i < vs.length := by
      unfold start at h2
      by_cases hi : i < vs.length
      · exact hi
      · rw [List.getElem?_append_right (by simpa using hi)] at h2
        rw [List.getElem?_replicate] at h2
        split at h2 <;> cases h2
    have ha : vs[i]? = some v := by
      unfold start at h2
      rw [List.getElem?_append_left (by simpa using hi), List.getElem?_map] at h2
      cases e : vs[i]? with
      | none => rw [e] at h2; cases h2
      | some a => rw [e] at h2; cases h2; rfl
    obtain ⟨u, hu, rv⟩ := r.get ha
    have hp : ps[i]? = some y := by
      rw [← S.pre, List.getElem?_take_of_lt (by omega)]; exact h1
    have ndP : ps.Nodup := by rw [← S.pre]; exact S.nd.sublist (List.take_sublist _ _)
    refine ⟨u, rv, ?_⟩
    rcases S.par y (List.mem_of_getElem? hp) with k | k
    · exact .inl ⟨k, bindL_get ndP hp hu k⟩
    · obtain ⟨c, e⟩ := cell_has (n := s.heap.objs.size + 1) k
      refine .inr ⟨.inl k, c, e, ?_⟩
      have q := x.cell y c e
      rw [bindC_get ndP hp hu (by show scope.names.lookup y ≠ _; rw [k]; decide)] at q
      exact q
  · exact e0.hok.fresh (Nat.le_of_lt (x.above y c (PySem.mem_of_lookup h)))
  · unfold start
    show _ = N.length
    rw [List.length_append, List.length_map, List.length_replicate]
    omega


theorem fn_of {CX : CXT} {P : Program} {w : World} {K : PySem.W.Frag} {mg : Str → Option Value} {base : Heap} {k : Nat} {f : Addr} {name qual : Str} {params : Arguments} {body : List Stmt} {scope : Scope} {dV kV doc pm cdv ct oc : Value} {an od : Option Addr}
    {osl : Array (Option Value)} {N ps : List Str} {sp : Sp} (lk : K.lookup f = some ⟨oc, od, .func (PySem.W.fnOf name qual params body scope dV kV doc pm an cdv ct), osl⟩) (hcd : PySem.W.codeIn K cdv qual = true) (S : FnScope N ps scope)
    (len : ∀ vs H Q E, sp vs H Q E → vs.length = ps.length)
    (hbody : ∀ (A : Around) (outer : List Env) (s : Shared) (H : Hp) (vs : List V) (Q : VK) (E : XK), Room k (A.deeper (envOfC qual scope s.heap.objs.size f cdv)) → sp vs H Q E →
      ∃ t, PSs (cxOf CX P w K mg base N qual scope f cdv A outer s H E) body t ∧ t { nx := fun _ H' => Q .non H', rt := Q } (start N vs) H) :
    FnOk P w K mg base CX (k + 1) f (PySem.W.fnOf name qual params body scope dV kV doc pm an cdv ct) ps sp := by
  refine ⟨len, fun A outer s H args us vs Q E hr e0 hb r hsp => ?_⟩
  have hl := len _ _ _ _ hsp
  have KX : K.In s.heap := e0.mod.kin.keeps fun b o e => (e0.bs b o e).1
  have lim : s.heap.NoLimit := e0.mod.nolimit.keeps fun b o e => (e0.bs b o e).1
  have hkind : ∀ y ∈ ps.zip us, scope.names.lookup y.1 = some .local ∨ (scope.names.lookup y.1 = some .cell ∧ ((cellsFrom (s.heap.objs.size + 1) scope.names []).lookup y.1).isSome = true) := fun ⟨n, v⟩ hy => by
    rcases S.par n (List.of_mem_zip hy).1 with q | q
    · exact .inl q
    · exact .inr ⟨q, PySem.W.cellsFrom_some _ _ _ (.inl q)⟩
  refine codeAny_call_function hr.depth (KX _ _ lk) rfl S.co S.gen rfl (PySem.W.codeRec_of KX hcd) (hb _ _ _ _ ?_)
  refine wpAny_newFunctionEnv_cells S.kind hkind fun env he s1 x => ?_
  subst he
  refine ⟨lim.keeps x.toInCall.keep, codeAny_func ?_⟩
  obtain ⟨t, ht, hq⟩ := hbody A outer s H vs Q E (hr.deeper _) hsp
  have I : Inv (cxOf CX P w K mg base N qual scope f cdv A outer s H E) [] (start N vs) H s1 := inv_start S hr.hd e0 hl r x
  refine wpAny_mono (ht [] s1 (start N vs) H _ I hq) (fun fl s' hs => ?_) fun e s' hs => hs
  have fin : ∀ {σ' : St} {H' : Hp} {v : V} {u : Value}, Inv (cxOf CX P w K mg base N qual scope f cdv A outer s H E) [] σ' H' s' → RelV v u → Q v H' → CE outer P w H s Q u s' :=
    fun {σ' H' v u} J rv q => ⟨v, H', J.os, J.bare, J.base, J.hok, rv, q⟩
  cases fl with
  | ret u =>
    obtain ⟨v, σ', H', J, rv, q⟩ := hs
    exact fin J rv q
  | next =>
    obtain ⟨σ', H', J, q⟩ := hs
    exact fin (v := V.non) (u := Value.none) J rfl q
  | brk =>
    obtain ⟨_, _, _, q⟩ := hs
    exact False.elim q
  | cont =>
    obtain ⟨_, _, _, q⟩ := hs
    exact False.elim q
end L2

namespace L2
open PySem PySem.Spec PyProof.Rows
section
variable {X : Cx} {x : Str} {p pos : Pos} {e : Expr} {es : List Expr} {t : TA} {id T : String} {r : List V → Hp → VK → Prop}

noncomputable def tCB (r : List V → Hp → VK → Prop) (t : TA) : TE := fun σ H Q => t σ H fun vs H1 => r vs H1 Q

theorem pe_callB (hc : CallR X (.builtin id) r) (hg : Gl X x) (hm : X.mg x = none) (hv : bootBuiltins x = some (.builtin id)) (ha : PA X (e :: es) t) (hn : x ≠ "__name__" := by decide) (hdb : (x == ("__debug__" : Str)) = false := by decide)
    (he : starEach (e :: es) X.env = (false, eval e X.env) :: starEach es X.env := by rfl) (hpl : (backTo pos (starEach es X.env)).any (·.1) = false := by rfl) : PE X (.Call (.Name x p) (e :: es) [] pos) (tCB r t) := by
  constructor
  intro pins s σ H Q I h
  refine wpAny_Call_Name_kw (ld_blt I hg hm hv ?_ hn hdb)
  exact PyProof.Rows.callWith_builtin1 (thn (ha pos pins s σ H _ I h) fun us s1 ⟨vs, H1, I1, r1, q1⟩ => hc pins s1 σ H1 vs us Q I1 r1 q1) he hpl

theorem pe_callTy (hc : CallR X (.type T) r) (hg : Gl X x) (hm : X.mg x = none) (hv : bootBuiltins x = some (.type T)) (ha : PA X (e :: es) t) (hn : x ≠ "__name__" := by decide) (hdb : (x == ("__debug__" : Str)) = false := by decide)
    (he : starEach (e :: es) X.env = (false, eval e X.env) :: starEach es X.env := by rfl) (hpl : (backTo pos (starEach es X.env)).any (·.1) = false := by rfl) : PE X (.Call (.Name x p) (e :: es) [] pos) (tCB r t) := by
  constructor
  intro pins s σ H Q I h
  refine wpAny_Call_Name_kw (ld_blt I hg hm hv ?_ hn hdb)
  exact PyProof.Rows.callWith_type1 (thn (ha pos pins s σ H _ I h) fun us s1 ⟨vs, H1, I1, r1, q1⟩ => hc pins s1 σ H1 vs us Q I1 r1 q1) he hpl

end
end L2

namespace HT
open PySem PyProof.Rows


section
open PySem.SeqAt
open PySem.AutoSeq1 (wpAny_loadPart')
open PySem.MeetsSeq PySem.MeetsSeq2 PySem.MeetsSeq3

end

section
variable {prog : Program} {w : World} {A : Around} {E : Value → Shared → Prop} {s : Shared}

end
end HT

namespace L2
open PySem PySem.Spec PyProof.Rows


noncomputable abbrev TO := St → Hp → (Option Int → Hp → Prop) → Prop

structure PO (X : Cx) (e : Option Expr) (t : TO) : Prop where
  run :
    ∀ (pins : List (Addr × Obj)) (s : Shared) (σ : St) (H : Hp) (Q : Option Int → Hp → Prop), Inv X pins σ H s → t σ H Q →
      wpAny (model X.prog X.w) X.A (evalPart e X.env) (fun u s' => ∃ o H', Inv X pins σ H' s' ∧ IsPart u o ∧ Q o H') X.xe s
instance {X : Cx} {e : Option Expr} {t : TO} : CoeFun (PO X e t) (fun _ =>
  ∀ (pins : List (Addr × Obj)) (s : Shared) (σ : St) (H : Hp) (Q : Option Int → Hp → Prop), Inv X pins σ H s → t σ H Q →
    wpAny (model X.prog X.w) X.A (evalPart e X.env) (fun u s' => ∃ o H', Inv X pins σ H' s' ∧ IsPart u o ∧ Q o H') X.xe s) := ⟨PO.run⟩
section
variable {X : Cx} {e : Expr} {te : TE} {lo hi : Option Expr} {tl th : TO} {pos p2 : Pos}

structure SlR (X : Cx) (r : V → Option Int → Option Int → Hp → VK → Prop) : Prop where
  run :
    ∀ (pins : List (Addr × Obj)) (s : Shared) (σ : St) (H : Hp) (x : V) (v vl vu : Value) (lo hi : Option Int) (sl : Addr) (Q : VK), Inv X pins σ H s → RelV x v → s.heap.IsSliceOf sl vl vu .none → IsPart vl lo → IsPart vu hi → r x lo hi H Q →
      ∃ T id, typeLookup (.type T) "__getitem__" = pure (some (.builtin id)) ∧ s.TypeIs v T ∧ wpAny (model X.prog X.w) X.A (getItem v (.ref sl)) (EP X pins σ Q) X.xe s
instance {X : Cx} {r : V → Option Int → Option Int → Hp → VK → Prop} : CoeFun (SlR X r) (fun _ =>
  ∀ (pins : List (Addr × Obj)) (s : Shared) (σ : St) (H : Hp) (x : V) (v vl vu : Value) (lo hi : Option Int) (sl : Addr) (Q : VK), Inv X pins σ H s → RelV x v → s.heap.IsSliceOf sl vl vu .none → IsPart vl lo → IsPart vu hi → r x lo hi H Q →
    ∃ T id, typeLookup (.type T) "__getitem__" = pure (some (.builtin id)) ∧ s.TypeIs v T ∧ wpAny (model X.prog X.w) X.A (getItem v (.ref sl)) (EP X pins σ Q) X.xe s) := ⟨SlR.run⟩
end
end L2

namespace L2
open PySem PySem.Spec PyProof.Rows



noncomputable def ixN (n : Nat) (i : Int) : Option Nat := if 0 ≤ i then (if i < n then some i.toNat else none) else if -(n : Int) ≤ i then some (i + n).toNat else none
noncomputable def atI {α : Type} (xs : List α) (i : Int) : Option α := (ixN xs.length i).bind fun j => xs[j]?
theorem ixN_seq {n : Nat} {i : Int} {j : Nat} (h : ixN n i = some j) : seqIndex? i n = some j ∧ j < n ∧ -(n : Int) ≤ i ∧ i < n := by
  unfold ixN at h
  by_cases h0 : 0 ≤ i
  · rw [if_pos h0] at h
    by_cases h1 : i < n
    · rw [if_pos h1] at h
      have e : i.toNat = j := Option.some.inj h
      exact ⟨by rw [seqIndex_of h0 h1, e], by omega, by omega, h1⟩
    · rw [if_neg h1] at h; cases h
  · rw [if_neg h0] at h
    by_cases h1 : -(n : Int) ≤ i
    · rw [if_pos h1] at h
      have e : (i + n).toNat = j := Option.some.inj h
      exact ⟨by rw [seqIndex_neg (by omega) h1, e], by omega, h1, by omega⟩
    · rw [if_neg h1] at h; cases h
theorem atI_get {α : Type} {xs : List α} {i : Int} {v : α} (h : atI xs i = some v) : ∃ j, seqIndex? i xs.length = some j ∧ xs[j]? = some v ∧ j < xs.length ∧ -(xs.length : Int) ≤ i ∧ i < xs.length := by
  unfold atI at h
  cases e : ixN xs.length i with
  | none => rw [e] at h; cases h
  | some j =>
    rw [e] at h
    obtain ⟨h1, h2, h3, h4⟩ := ixN_seq e
    exact ⟨j, h1, h, h2, h3, h4⟩
theorem atI_nat {α : Type} {xs : List α} {j : Nat} {v : α} (h : xs[j]? = some v) : atI xs (j : Int) = some v := by
  have hj : j < xs.length := (List.getElem?_eq_some_iff.mp h).1
  have e : ixN xs.length (j : Int) = some j := by
    unfold ixN
    rw [if_pos (by omega), if_pos (by omega)]; simp
  unfold atI; rw [e]; exact h
noncomputable def PlainIx (b : Expr) : Prop := ∀ o i, subscripted b false o i = operate [o, i] (getItem o i)

structure IxR (X : Cx) (r : R2) : Prop where
  run :
    ∀ (value slice : Expr) (pins : List (Addr × Obj)) (s : Shared) (σ : St) (H : Hp) (x y : V) (v u : Value) (Q : VK), Inv X pins σ H s → RelV x v → RelV y u → r x y H Q →
      subscripted slice false v u = operate [v, u] (getItem v u) → wpAny (model X.prog X.w) X.A (subscriptTail value slice v u) (EP X pins σ Q) X.xe s
instance {X : Cx} {r : R2} : CoeFun (IxR X r) (fun _ =>
  ∀ (value slice : Expr) (pins : List (Addr × Obj)) (s : Shared) (σ : St) (H : Hp) (x y : V) (v u : Value) (Q : VK), Inv X pins σ H s → RelV x v → RelV y u → r x y H Q →
    subscripted slice false v u = operate [v, u] (getItem v u) → wpAny (model X.prog X.w) X.A (subscriptTail value slice v u) (EP X pins σ Q) X.xe s) := ⟨IxR.run⟩

structure MtR (X : Cx) (id : String) (r : V → List V → Hp → VK → Prop) : Prop where
  run :
    ∀ (pins : List (Addr × Obj)) (s : Shared) (σ : St) (H : Hp) (x : V) (xs : List V) (v : Value) (us : List Value) (Q : VK), Inv X pins σ H s → RelV x v → Vals xs us → r x xs H Q →
      wpAny (model X.prog X.w) X.A (call (.builtin id) (v :: us)) (EP X pins σ Q) X.xe s
instance {X : Cx} {id : String} {r : V → List V → Hp → VK → Prop} : CoeFun (MtR X id r) (fun _ =>
  ∀ (pins : List (Addr × Obj)) (s : Shared) (σ : St) (H : Hp) (x : V) (xs : List V) (v : Value) (us : List Value) (Q : VK), Inv X pins σ H s → RelV x v → Vals xs us → r x xs H Q →
    wpAny (model X.prog X.w) X.A (call (.builtin id) (v :: us)) (EP X pins σ Q) X.xe s) := ⟨MtR.run⟩
section
variable {X : Cx} {a b : Expr} {ta tb : TE} {pos : Pos}
theorem pe_ix {r : R2} (hr : IxR X r) (ha : PE X a ta) (hb : PE X b tb) (hs : PlainIx b) : PE X (.Subscript a b pos) (tOp r ta tb) := by
  constructor
  intro pins s σ H Q I h
  exact Subscript_ (binT ha hb I h fun v u s2 x y H2 I2 rx ry q => hr a b pins s2 σ H2 x y v u Q I2 rx ry q (hs _ _))

noncomputable def rIxL (K : PySem.W.Frag) : R2 := fun x y H Q => ∃ p xs i v, x = .ref p ∧ y = .int i ∧ SqL K H p xs ∧ atI xs i = some v ∧ Q v H
noncomputable def rIxT (K : PySem.W.Frag) : R2 := fun x y H Q => ∃ p xs i v, x = .ref p ∧ y = .int i ∧ SqT K H p xs ∧ atI xs i = some v ∧ Q v H
theorem ix_list : IxR X (rIxL X.K) := by
  constructor
  intro value slice pins s σ H x y v u Q I rx ry h hs
  obtain ⟨p, xs, i, z, rfl, rfl, hq, he, q⟩ := h
  cases rx
  obtain ⟨t, rfl⟩ := ry
  obtain ⟨its, r, pl, hz⟩ := I.list hq
  obtain ⟨j, h1, h2, h3, h4, h5⟩ := atI_get he
  obtain ⟨w, ew, rw'⟩ := r.get h2
  have hl := r.length
  have hn := line63
  have fin : EP X pins σ Q w s := ⟨z, H, I, rw', q⟩
  by_cases h0 : 0 ≤ i
  · have hj : i.toNat = j := by
      rw [seqIndex_of h0 h5] at h1
      exact Option.some.inj h1
    exact item_listR pl.isList h0 (by omega) (by rw [hj]; simpa using ew) fin hs
  · have hj : (i + (its.toArray.size : Int)).toNat = j := by
      rw [seqIndex_neg (by omega) h4] at h1
      rw [List.size_toArray, ← hl]
      exact Option.some.inj h1
    exact subscriptTail_builtinR (x := w) pl.isList.typeIs slot_list_getitem.lookup
      (wpAny_getItem_list_neg (Q := fun r s' => r = w ∧ EP X pins σ Q r s') pl.isList (by omega) (by rw [List.size_toArray] <;> omega) (by omega) (by rw [hj]; simpa using ew) ⟨rfl, fin⟩) hs
theorem ix_tup : IxR X (rIxT X.K) := by
  constructor
  intro value slice pins s σ H x y v u Q I rx ry h hs
  obtain ⟨p, xs, i, z, rfl, rfl, hq, he, q⟩ := h
  cases rx
  obtain ⟨t, rfl⟩ := ry
  obtain ⟨its, r, pl, hz⟩ := I.tuple hq
  obtain ⟨j, h1, h2, h3, h4, h5⟩ := atI_get he
  obtain ⟨w, ew, rw'⟩ := r.get h2
  have hl := r.length
  have hn := line63
  have fin : EP X pins σ Q w s := ⟨z, H, I, rw', q⟩
  exact subscriptTail_builtinR (x := w) pl.typeIs slot_tuple_getitem.lookup
    (getItem_tuple (j := j) (Q := fun r s' => r = w ∧ EP X pins σ Q r s') pl (by omega) (by omega) (by rw [List.size_toArray, ← hl]; exact h1) (by simpa using ew) ⟨rfl, fin⟩) hs
theorem mapSeq_set (its : List Value) (n j : Nat) (u : Value) : Obj.mapSeq (·.setIfInBounds j u) { cls := .type "list", data := .seq its.toArray n } = { cls := .type "list", data := .seq (its.set j u).toArray n } := by
  simp [Obj.mapSeq]
theorem Inv.lst {pins : List (Addr × Obj)} {σ : St} {H : Hp} {s : Shared} {p : Addr} {xs : List V} (I : Inv X pins σ H s) (h : H p = some (.lst xs)) :
    ∃ (its : List Value) (n : Nat), Vals xs its ∧ s.heap.get? p = some { cls := .type "list", data := .seq its.toArray n } ∧ xs.length ≤ sizeLine := by
  obtain ⟨z, its, n, r, e⟩ := I.hok p _ h
  exact ⟨its, n, r, e, z⟩

theorem Inv.lstUpd {pins : List (Addr × Obj)} {σ : St} {H : Hp} {s : Shared} {p : Addr} {xs ys : List V} {its its' : List Value} {n n' : Nat} {f : Obj → Obj} (I : Inv X pins σ H s) (h : H p = some (.lst xs))
    (ho : s.heap.get? p = some { cls := .type "list", data := .seq its.toArray n }) (hf : f { cls := .type "list", data := .seq its.toArray n } = { cls := .type "list", data := .seq its'.toArray n' }) (r : Vals ys its') (hz : ys.length ≤ sizeLine) (t : Nat) :
    Inv X pins σ (upd H p (.lst ys)) { s with heap := s.heap.update p f, toks := t } := by
  have e : (s.heap.update p f).get? p = some { cls := .type "list", data := .seq its'.toArray n' } := by
    rw [Heap.get?_update_self f ho (by rw [hf] <;> rfl), hf]
  refine I.write (x := p) (e := p) (by rw [h]; trivial) (.inl rfl) (fun b u hb q => (Heap.get?_update_other _ _ (Ne.symm hb)).trans q) ⟨_, e⟩ ?_
  exact ⟨hz, its', n', r, e⟩
noncomputable def rSetL : V → V → V → Hp → (Hp → Prop) → Prop := fun o i v H Q => ∃ p xs k j, o = .ref p ∧ i = .int k ∧ H p = some (.lst xs) ∧ ixN xs.length k = some j ∧ Q (upd H p (.lst (xs.set j v)))
theorem set_list : PSet X rSetL := by
  constructor
  intro pins s σ H o i v ov iv u Q I ro ri rv h
  obtain ⟨p, xs, k, j, rfl, rfl, hp, hj, q⟩ := h
  cases ro
  obtain ⟨t, rfl⟩ := ri
  obtain ⟨its, n, r, ho, hz⟩ := I.lst hp
  obtain ⟨h1, h2, h3, h4⟩ := ixN_seq hj
  have hl := r.length
  have hn := line63
  have I' : Inv X pins σ (upd H p (.lst (xs.set j v))) { s with heap := s.heap.update p (Obj.mapSeq (·.setIfInBounds j u)) } :=
    I.lstUpd hp ho (mapSeq_set its n j u) (r.set rv j) (by rw [List.length_set]; exact hz) s.toks
  by_cases h0 : 0 ≤ k
  · have hk : k.toNat = j := by
      rw [seqIndex_of h0 h4] at h1
      exact Option.some.inj h1
    exact PySem.W.ki_setAt ho h0 (by omega) (by rw [List.size_toArray, ← hl]; exact h4) (by rw [hk]; exact ⟨_, I', q⟩)
  · have hk : (k + (its.toArray.size : Int)).toNat = j := by
      rw [seqIndex_neg (by omega) h3] at h1
      rw [List.size_toArray, ← hl]
      exact Option.some.inj h1
    exact PySem.W.ki_setBack ho (by omega) (by rw [List.size_toArray, ← hl]; exact h3) (by omega) (by rw [hk]; exact ⟨_, I', q⟩)


theorem call_len_seq : CallR X (.builtin "len") (fun xs H Q => ∃ p ys, xs = [.ref p] ∧ (SqL X.K H p ys ∨ SqT X.K H p ys) ∧ Q (.int ys.length) H) := by
  constructor
  intro pins s σ H xs us Q I r h
  obtain ⟨p, ys, rfl, hq, q⟩ := h
  obtain ⟨u, rfl, rx⟩ := vals1 r
  cases rx
  have hn := line63
  rcases hq with hq | hq
  · obtain ⟨its, r', pl, hz⟩ := I.list hq
    have hlen := r'.length
    exact Calls.call_len_list pl.isList (by simp only [List.size_toArray] <;> omega) ⟨.int ys.length, H, I.tok _, ⟨s.toks + 1, by rw [List.size_toArray, hlen]⟩, q⟩
  · obtain ⟨its, r', pl, hz⟩ := I.tuple hq
    have hlen := r'.length
    exact len_tuple pl (by simp only [List.size_toArray] <;> omega) ⟨.int ys.length, H, I.tok _, ⟨s.toks + 1, by rw [List.size_toArray, hlen]⟩, q⟩
theorem call_list_of : CallR X (.type "list") (fun xs H Q => ∃ p ys, xs = [.ref p] ∧ (SqL X.K H p ys ∨ SqT X.K H p ys) ∧ ∀ l, H l = none → Q (.ref l) (upd H l (.lst ys))) := by
  constructor
  intro pins s σ H xs us Q I r h
  obtain ⟨p, ys, rfl, hq, q⟩ := h
  obtain ⟨u, rfl, rx⟩ := vals1 r
  cases rx
  have fin : ∀ (its : List Value), Vals ys its → ys.length ≤ sizeLine → ∀ (h' : Heap) (c' : Nat), (∀ b o', s.heap.get? b = some o' → h'.get? b = some o') →
      h'.get? s.heap.objs.size = some { cls := .type "list", dict := none, data := .seq its.toArray c', slots := #[] } → EP X pins σ Q (.ref s.heap.objs.size) { s with heap := h' } := fun its r' hz h' c' kp e =>
    ⟨.ref s.heap.objs.size, _, I.laid (t' := s.toks) kp (Nat.le_refl _) (show ObjOk X.prog X.w _ h' _ (.lst ys) from ⟨hz, its, c', r', e⟩), rfl, q _ (I.hok.fresh (Nat.le_refl _))⟩
  rcases hq with hq | hq
  · obtain ⟨its, r', pl, hz⟩ := I.list hq
    have hlen := r'.length
    obtain ⟨o, ho, hc, n, hd⟩ := pl.isList
    exact call_list_seq p (.inl rfl) ho hc hd (fun h' c' kp e => fin its r' hz h' c' kp e) (by simp only [List.size_toArray] <;> omega)
  · obtain ⟨its, r', pl, hz⟩ := I.tuple hq
    have hlen := r'.length
    obtain ⟨o, ho, hc, n, hd⟩ := pl
    exact call_list_seq p (.inr rfl) ho hc hd (fun h' c' kp e => fin its r' hz h' c' kp e) (by simp only [List.size_toArray] <;> omega)
theorem call_tuple_of : CallR X (.type "tuple") (fun xs H Q => ∃ p ys, xs = [.ref p] ∧ ((SqL X.K H p ys ∧ ∀ l, H l = none → Q (.ref l) (upd H l (.tup ys))) ∨ (SqT X.K H p ys ∧ Q (.ref p) H))) := by
  constructor
  intro pins s σ H xs us Q I r h
  obtain ⟨p, ys, rfl, h⟩ := h
  obtain ⟨u, rfl, rx⟩ := vals1 r
  cases rx
  rcases h with ⟨hq, q⟩ | ⟨hq, q⟩
  · obtain ⟨its, r', pl, hz⟩ := I.list hq
    have hlen := r'.length
    refine call_tuple_list pl.isList (fun h' kp => ?_) (by simp only [List.size_toArray] <;> omega)
    have I1 : Inv X pins σ H { s with heap := h' } := I.kept (t' := s.toks) kp
    have I2 : Inv X pins σ (upd H h'.objs.size (.tup ys)) { s with heap := h'.push { cls := .type "tuple", data := .seq its.toArray } } :=
      I1.laid (t' := s.toks) (fun b o e => Heap.get?_push_of_some _ e) (Nat.le_refl _) (show ObjOk X.prog X.w _ _ _ (.tup ys) from ⟨hz, its, r', TupN.new _ _⟩)
    exact ⟨.ref h'.objs.size, _, I2, rfl, q _ (I1.hok.fresh (Nat.le_refl _))⟩
  · obtain ⟨its, r', pl, hz⟩ := I.tuple hq
    exact call_tuple_same pl ⟨.ref p, H, I, rfl, q⟩



noncomputable def tyV (K : PySem.W.Frag) (T : String) (x : V) (H : Hp) : Prop := match x with
  | .str _ => T = "str"
  | .int _ => T = "int"
  | .ref p => (T = "list" ∧ ∃ xs, SqL K H p xs) ∨ (T = "tuple" ∧ ∃ o, K.lookup p = some o ∧ o.cls = .type "tuple" ∧ o.dict = none) ∨
      (T = "dict" ∧ ((∃ kvs, H p = some (.dK kvs)) ∨ ∃ kvs, H p = some (.dT kvs))) ∨ (T = "set" ∧ ∃ S n, H p = some (.set S n))
  | _ => False
theorem tyV_is {pins : List (Addr × Obj)} {σ : St} {H : Hp} {s : Shared} {T : String} {x : V} {v : Value} (I : Inv X pins σ H s) (r : RelV x v) (ty : tyV X.K T x H) :
    s.TypeIs v T ∧ ∀ a, v = .ref a → ∃ ob, s.heap.get? a = some ob ∧ ob.dict = none := by
  cases x with
  | str z =>
    obtain ⟨t, rfl⟩ := r
    cases (show T = "str" from ty)
    exact ⟨typeIs_str s z t, fun _ e => nomatch e⟩
  | int i =>
    obtain ⟨t, rfl⟩ := r
    cases (show T = "int" from ty)
    exact ⟨typeIs_int s i t, fun _ e => nomatch e⟩
  | ref p =>
    cases r
    rcases ty with ⟨rfl, xs, hq⟩ | ⟨rfl, o, hk, hc, hd⟩ | ⟨rfl, hk⟩ | ⟨rfl, S, n, hk⟩
    · obtain ⟨its, _, pl, _⟩ := I.list hq
      refine ⟨pl.isList.typeIs, fun a e => ?_⟩
      cases e
      obtain ⟨o, n, e, c, hd, _⟩ := pl
      exact ⟨o, e, hd⟩
    · refine ⟨⟨o, I.kIn p o hk, hc⟩, fun a e => ?_⟩
      cases e
      exact ⟨o, I.kIn _ o hk, hd⟩
    · have z : ∃ o, s.heap.get? p = some o ∧ o.ExactDict := by
        rcases hk with ⟨kvs, hk⟩ | ⟨kvs, hk⟩
        · obtain ⟨_, _, _, _, o, _, _, e, ex, _⟩ := I.hok p _ hk
          exact ⟨o, e, ex⟩
        · obtain ⟨_, _, _, _, o, _, _, e, ex, _⟩ := I.hok p _ hk
          exact ⟨o, e, ex⟩
      obtain ⟨o, e, ex⟩ := z
      refine ⟨⟨o, e, ex.1⟩, fun a e2 => ?_⟩
      cases e2
      exact ⟨o, e, ex.2.1⟩
    · obtain ⟨o, _, _, _, e, ex, _⟩ := I.hok p _ hk
      refine ⟨⟨o, e, ex.1⟩, fun a e2 => ?_⟩
      cases e2
      exact ⟨o, e, ex.2.1⟩
  | _ => exact False.elim ty
noncomputable def tBM (K : PySem.W.Frag) (T : String) (r : V → List V → Hp → VK → Prop) (to : TE) (t : TA) : TE := fun σ H Q => to σ H fun x H1 => tyV K T x H1 ∧ t σ H1 fun xs H2 => r x xs H2 Q
variable {o e : Expr} {es : List Expr} {to : TE} {t : TA} {name : Str} {apos cpos : Pos} {T id : String} {r : V → List V → Hp → VK → Prop}
theorem pe_bm (pa : PlainAttrs T) (slot : Slot T name id) (hty : typeOf (.builtin id) = pure (.type "method_descriptor")) (hm : MtR X id r) (ho : PE X o to) (ha : PA X (e :: es) t)
    (hbase : attributeBase o name X.env (eval o X.env) = eval o X.env := by rfl)
    (hfew : ((backTo cpos (starEach (e :: es) X.env)).all (fun x => !x.1) && (backToKw cpos (keywordEach [] X.env)).all (fun x => x.1.isSome)
      && decide ((e :: es).length + ([] : List Keyword).length + (if ([] : List Keyword).isEmpty then 0 else 1) < 30)) = true := by rfl)
    (hline : (apos.endLine == cpos.line) = true := by rfl) (hs : starEach (e :: es) X.env = (false, eval e X.env) :: starEach es X.env := by rfl) (hplain : (backTo cpos (starEach es X.env)).any (·.1) = false := by rfl) :
    PE X (.Call (.Attribute o name apos) (e :: es) [] cpos) (tBM X.K T r to t) := by
  constructor
  intro pins s σ H Q I h
  refine wpAny_Call_method_late hbase hfew hline rfl (thn (ho pins s σ H _ I h) fun v s1 ⟨x, H1, I1, r1, ty, q1⟩ => ?_)
  obtain ⟨h1, h2⟩ := tyV_is I1 r1 ty
  refine ⟨T, id, pa, slot, hty, h1, h2, ?_⟩
  have hA := ha cpos pins s1 σ H1 _ I1 q1
  rw [hs] at hA ⊢
  refine Calls.callWith_builtin (by show (false || (backTo cpos (starEach es X.env)).any (·.1)) = false; rw [hplain] <;> rfl) (Calls.evalArgs_plain ?_)
  exact thn hA fun us s2 ⟨vs, H2, I2, r2, q2⟩ => hm pins s2 σ H2 x vs v us Q I2 r1 r2 q2

end
end L2

namespace L2
open PySem PySem.Spec PyProof.Rows

structure MtM (X : Cx) (id : String) (r : V → List V → Hp → VK → Prop) : Prop where
  run :
    ∀ (pins : List (Addr × Obj)) (s : Shared) (σ : St) (H : Hp) (x : V) (xs : List V) (v : Value) (us : List Value) (Q : VK), Inv X pins σ H s → RelV x v → Vals xs us → r x xs H Q →
      wpAny (model X.prog X.w) X.A (call (.builtin id) (v :: us)) (EP X pins σ Q) X.xe s
instance {X : Cx} {id : String} {r : V → List V → Hp → VK → Prop} : CoeFun (MtM X id r) (fun _ =>
  ∀ (pins : List (Addr × Obj)) (s : Shared) (σ : St) (H : Hp) (x : V) (xs : List V) (v : Value) (us : List Value) (Q : VK), Inv X pins σ H s → RelV x v → Vals xs us → r x xs H Q →
    wpAny (model X.prog X.w) X.A (call (.builtin id) (v :: us)) (EP X pins σ Q) X.xe s) := ⟨MtM.run⟩


theorem Vals.one : ∀ {x : V} {us : List Value}, Vals [x] us → ∃ u, us = [u] ∧ RelV x u
  | _, _, .cons r .nil => ⟨_, rfl, r⟩
section
variable {X : Cx} {pins : List (Addr × Obj)} {σ : St} {H : Hp} {s : Shared} {l b : Addr} {xs ys zs : List V}


theorem Inv.lset {its its' : List Value} {n : Nat} {f : Array Value → Array Value} {t' : Nat} (I : Inv X pins σ H s) (hH : H l = some (.lst xs))
    (e : s.heap.get? l = some { cls := .type "list", data := .seq its.toArray n }) (hf : f its.toArray = its'.toArray) (hv : Vals ys its') (hz : ys.length ≤ sizeLine) :
    Inv X pins σ (upd H l (.lst ys)) { s with heap := s.heap.update l (Obj.mapSeq f), toks := t' } := by
  have q := PySem.IsL.update e f
  rw [hf] at q
  refine I.write (x := l) (e := l) (by rw [hH]; exact trivial) (.inl rfl) (fun b' u hb hu => (Heap.get?_update_other s.heap (Obj.mapSeq f) (Ne.symm hb)).trans hu) ⟨_, q⟩ ?_
  exact ⟨hz, its', _, hv, q⟩
theorem Inv.lnew {its : List Value} {t' : Nat} (I : Inv X pins σ H s) (hv : Vals ys its) (hz : ys.length ≤ sizeLine) :
    Inv X pins σ (upd H s.heap.objs.size (.lst ys)) { s with heap := s.heap.push { cls := .type "list", data := .seq its.toArray }, toks := t' } :=
  I.laid (fun _ _ q => Heap.get?_push_of_some _ q) (Nat.le_refl _) ⟨hz, its, 0, hv, Heap.get?_push_size _ rfl⟩
theorem Inv.fresh (I : Inv X pins σ H s) : H s.heap.objs.size = none := I.hok.fresh (Nat.le_refl _)
theorem Inv.lstM (I : Inv X pins σ H s) (hH : H l = some (.lst xs)) : xs.length ≤ sizeLine ∧ ∃ (its : List Value) (n : Nat), Vals xs its ∧ xs.length = its.length ∧ s.heap.get? l = some { cls := .type "list", data := .seq its.toArray n } := by
  obtain ⟨z, its, n, r, e⟩ := I.hok l _ hH
  exact ⟨z, its, n, r, r.length, e⟩

theorem notLongL {n : Nat} (h : n ≤ sizeLine) : Builtin.List.listTooLong n = false := by
  unfold Builtin.List.listTooLong
  exact decide_eq_false (by omega)
end

section
variable {X : Cx}


noncomputable def rAppend : V → List V → Hp → VK → Prop := fun x vs H Q => ∃ l xs y, x = .ref l ∧ vs = [y] ∧ H l = some (.lst xs) ∧ xs.length < sizeLine ∧ Q .non (upd H l (.lst (xs ++ [y])))
theorem mt_append : MtM X "list.append" rAppend := by
  constructor
  intro pins s σ H x vs v us Q I rx rv h
  obtain ⟨l, xs, y, rfl, rfl, hH, hz, q⟩ := h
  cases rx
  obtain ⟨u, rfl, ru⟩ := rv.one
  obtain ⟨z, its, n, r, hl, e⟩ := I.lstM hH
  refine call_meets F.slot_list_append ⟨_, e, rfl⟩ F.entry_list_append (F.args_list_append_2 _ _) (PySem.list_append l its.toArray n u (by rw [List.size_toArray]; omega)) ⟨e, ?_⟩
  refine ⟨.non, _, I.lset (its' := its ++ [u]) hH e (by simp) (r.append (.cons ru .nil)) ?_, rfl, q⟩
  rw [List.length_append, List.length_singleton]
  omega

noncomputable def rCat : R2 := fun x y H Q => ∃ l b xs zs, x = .ref l ∧ y = .ref b ∧ H l = some (.lst xs) ∧ H b = some (.lst zs) ∧ xs.length + zs.length ≤ sizeLine ∧ ∀ p, H p = none → Q (.ref p) (upd H p (.lst (xs ++ zs)))
theorem op_cat : OpR X (binaryOp .Add) rCat := by
  constructor
  intro pins s σ H x y v u Q I rx ry h
  obtain ⟨l, b, xs, zs, rfl, rfl, hH, hB, hz, q⟩ := h
  cases rx
  cases ry
  obtain ⟨z, its, n, r, hl, e⟩ := I.lstM hH
  obtain ⟨z2, its2, n2, r2, hl2, e2⟩ := I.lstM hB
  refine PySem.P.add_list e e2 ?_ (by rw [List.size_toArray, List.size_toArray]; omega)
  have ea : its.toArray ++ its2.toArray = (its ++ its2).toArray := by simp
  rw [ea]
  exact ⟨.ref _, _, I.lnew (t' := s.toks) (r.append r2) (by rw [List.length_append]; omega), rfl, q _ I.fresh⟩

end


section
variable {prog : Program} {w : World} {A : Around} {E : Value → Shared → Prop} {s : Shared}
theorem bounds_run {a c n : Nat} (hac : a ≤ c) (hc : c ≤ n) : sliceBounds (some (a : Int)) (some (c : Int)) none n = ((a : Int), (c : Int), 1) := by
  simp only [sliceBounds, Option.getD_none]
  have h1 : ¬ ((a : Int) < 0) := by omega
  have h2 : ¬ ((c : Int) < 0) := by omega
  simp only [h1, h2, if_false, show (1 : Int) > 0 by decide, if_true]
  congr 1
  · omega
  · congr 1; omega
set_option maxRecDepth 100000 in

theorem setItem_slice {l b sl : Addr} {items new : Array Value} {n n2 : Nat} {vl vu : Value} {a c : Nat} {Q : Unit → Shared → Prop}
    (e : s.heap.get? l = some { cls := .type "list", data := .seq items n }) (e2 : s.heap.get? b = some { cls := .type "list", data := .seq new n2 }) (hne : l ≠ b)
    (hs : s.heap.IsSliceOf sl vl vu .none) (pl : IsPart vl (some (a : Int))) (pu : IsPart vu (some (c : Int))) (hac : a ≤ c) (hc : c ≤ items.size)
    (hsz : items.size + new.size ≤ sizeLine) (h : Q () { s with heap := s.heap.update l (Obj.mapSeq fun xs => xs.extract 0 a ++ new ++ xs.extract c xs.size) }) :
    wpAny (model prog w) A (setItem (.ref l) (.ref sl) (.ref b)) Q E s := by
  have hl : s.heap.IsList l items := PySem.IsL.isList e
  have hb : s.heap.IsList b new := PySem.IsL.isList e2
  obtain ⟨os, hos, hcs, hds⟩ := id hs
  have hTs : s.TypeIs (.ref sl) "slice" := ⟨os, hos, hcs⟩
  have hstep : ¬ ((rawPart none == rawInt 0) = true) := Bool.false_ne_true
  have hsame : Builtin.List.listSameRef (.ref l) (.ref b) = false := by
    unfold Builtin.List.listSameRef
    exact beq_eq_false_iff_ne.mpr hne
  have hmax : (max (a : Int) (c : Int)).toNat = c := by omega
  have hz' : ((fun xs : Array Value => xs.extract 0 a ++ new ++ xs.extract c xs.size) items).size ≤ sizeLine + 1 := by
    simp only [Array.size_append, Array.size_extract]
    omega
  unfold setItem
  try with_reducible refine wpAny_holding ?_
  first | refine wpAny_bind (wpAny_pure ?_) | skip
  refine wpAny_bind (wpAny_sequenceKey hl.typeIs (by decide) ?_)
  refine wpAny_bind (wpAny_callSpecial?_slot (name := Str.ofString "__setitem__") hl.typeIs slot_list_setitem
    (wpAny_call_entry slot_list_setitem hl.typeIs entry_list_setitem ?_ (args_list_setitem _ _ _)))
  show wpAny _ _ (Builtin.List.listSubscript? (.ref sl) >>= _) _ _ s
  refine wpAny_bind ?_
  unfold Builtin.List.listSubscript?
  refine wpAny_bind (wpAny_specialOf hTs slice_no_index ?_)
  simp only [Option.isNone_none, if_true]
  refine wpAny_pure ?_
  show wpAny _ _ (typeOf (.ref sl) >>= _) _ _ s
  refine wpAny_bind (wpAny_typeOf hTs ?_)
  first
    | rw [if_neg (by decide)]
    | refine PySem.W.KFB.if_not (by decide) ?_
  rw [listSliceParts_eq]
  refine wpAny_bind (wpAny_bind (wpAny_field hos hds (x := .none) rfl (wpAny_bind (wpAny_listPart .none ?_))))
  rw [if_neg hstep]
  refine wpAny_bind (wpAny_field hos hds (x := vl) rfl (wpAny_bind (wpAny_listPart pl ?_)))
  refine wpAny_bind (wpAny_field hos hds (x := vu) rfl (wpAny_bind (wpAny_listPart pu (wpAny_pure ?_))))
  first
    | simp only [hsame, Bool.false_eq_true, if_false]
    | refine PySem.W.KFB.if_not hsame ?_
    | (dsimp only
       rw [if_neg (by rw [hsame]; exact Bool.false_ne_true)])
  refine wpAny_bind (m := Builtin.List.listAllItems (.ref b) "must assign iterable to extended slice") ?_
  unfold Builtin.List.listAllItems
  refine wpAny_bind (wpAny_typeOf hb.typeIs ?_)
  first
    | refine PySem.W.KFB.if_so (by decide) ?_
    | rw [if_pos (by decide)]
    | simp only [beq_self_eq_true, Bool.true_or, if_true]
  unfold Builtin.List.listItems
  refine wpAny_bind (wpAny_seqItems e2 rfl (wpAny_pure ?_))
  refine wpAny_bind (wpAny_bind (wpAny_seqItems e rfl (wpAny_pure ?_)))
  refine wpAny_bind (wpAny_of_eq ((sliceIndices_raw (some (a : Int)) (some (c : Int)) none items.size (by simp)).trans (congrArg (pure : Int × Int × Int → Sem (Int × Int × Int)) (bounds_run hac hc))) ?_)
  show wpAny _ _ (if ((1 : Int) == 1) = true then _ else _) _ _ s
  rw [if_pos (by decide)]
  refine wpAny_bind (wpAny_rule ?_)
  first
    | simp only [notLongL hsz, Bool.false_eq_true, if_false]
    | refine PySem.W.KFB.if_not (notLongL hsz) ?_
  first | refine wpAny_bind (wpAny_pure ?_) | skip
  show wpAny _ _ (updateSeq l (fun xs => xs.extract 0 ((a : Int)).toNat ++ new ++ xs.extract (max (a : Int) (c : Int)).toNat xs.size) >>= _) _ _ s
  rw [hmax, Int.toNat_natCast]
  refine wpAny_bind (wpAny_updateSeq (hz := Nat.le_trans (Nat.le_add_right _ _) hsz) (_hz' := hz') e rfl ?_)
  refine wpAny_bind (wpAny_letGo ?_)
  first
    | exact wpAny_bind (wpAny_pure (wpAny_pure ⟨.none, rfl, wpAny_pure h⟩))
    | exact wpAny_pure ⟨.none, rfl, wpAny_pure h⟩
end

section
variable {X : Cx}

end
end L2

namespace L2
open PySem PySem.Spec PyProof.Rows

theorem Vals.bls : ∀ {bs : List Bool} {us : List Value}, Vals (bs.map V.bl) us → us = bs.map Value.bool
  | [], us, h => by
    rw [List.map_nil] at h
    cases h
    rfl
  | b :: bs, us, h => by
    rw [List.map_cons] at h
    cases h with
    | cons r t =>
      cases r
      rw [Vals.bls t, List.map_cons]
theorem Vals.ref1 {a : Addr} {us : List Value} (r : Vals [V.ref a] us) : us = [Value.ref a] := by
  cases r with
  | cons r t =>
    cases t
    cases r
    rfl
section
variable {prog : Program} {w : World} {A : Around} {E : Value → Shared → Prop} {s : Shared} {l : Addr} {its : List Value} {ns : List Int} {Q : Value → Shared → Prop}
end


section
variable {X : Cx}

end


section
variable {X : Cx}
end


section
variable {X : Cx}
end


theorem iter_any {prog : Program} {w : World} {A : Around} {E : Value → Shared → Prop} {s : Shared} {l : Addr} {items : Array Value} {Q : Value → Shared → Prop} (hl : s.heap.IsList l items)
    (h : ∀ s₂ : Shared, s₂ = { s with heap := s.heap.push { cls := .type "list_iterator", data := .fields #[.ref l, .int 0 0] } } →
      (s₂.heap.IsListIter s.heap.objs.size l 0 ∧ s₂.heap.IsList l items) → l ≠ s.heap.objs.size → Q (.ref s.heap.objs.size) s₂) : wpAny (model prog w) A (pyIter (.ref l)) Q E s := by
  have hlt : l < s.heap.objs.size := by obtain ⟨_, e, _⟩ := hl; exact Heap.lt_size e
  exact wpAny_pyIter_list hl (h _ rfl ⟨⟨_, Heap.get?_push_size _ rfl, rfl, rfl⟩, hl.push _⟩ (Nat.ne_of_lt hlt))
theorem truth_bools {prog : Program} {w : World} {A : Around} {bs : List Bool} {its : List Value} (e : its = bs.map Value.bool) :
    TruthOf prog w A (fun i v => its.toArray[i]? = some v) (fun i => bs.getD i false) := fun i v s Q E hv hq => by
  have hv' : its[i]? = some v := by simpa using hv
  rw [e, List.getElem?_map] at hv'
  obtain ⟨b, hb, rfl⟩ := Option.map_eq_some_iff.mp hv'
  have hg : bs.getD i false = b := by rw [List.getD_eq_getElem?_getD, hb] <;> rfl
  have hq' : Q (bs.getD i false) s := hq
  rw [hg] at hq'
  exact wpAny_truthy_bool hq'
theorem any_range : ∀ bs : List Bool, (List.range bs.length).any (fun i => bs.getD i false) = bs.any id
  | [] => rfl
  | b :: bs => by
    rw [List.length_cons, List.range_succ_eq_map, List.any_cons, List.any_map, List.any_cons, ← any_range bs]
    all_goals rfl
theorem all_range : ∀ bs : List Bool, (List.range bs.length).all (fun i => bs.getD i false) = bs.all id
  | [] => rfl
  | b :: bs => by
    rw [List.length_cons, List.range_succ_eq_map, List.all_cons, List.all_map, List.all_cons, ← all_range bs]
    all_goals rfl
section
variable {X : Cx}
noncomputable def rAny (K : PySem.W.Frag) : List V → Hp → VK → Prop := fun vs H Q => ∃ (a : Addr) (bs : List Bool), vs = [V.ref a] ∧ SqL K H a (bs.map V.bl) ∧ Q (.bl (bs.any id)) H
noncomputable def rAll (K : PySem.W.Frag) : List V → Hp → VK → Prop := fun vs H Q => ∃ (a : Addr) (bs : List Bool), vs = [V.ref a] ∧ SqL K H a (bs.map V.bl) ∧ Q (.bl (bs.all id)) H
theorem cr_any (hc : X.calm = true) : CallR X (.builtin "any") (rAny X.K) := by
  constructor
  intro pins s σ H vs us Q I r h
  obtain ⟨a, bs, rfl, hs, q⟩ := h
  obtain ⟨its, rv, hl, _⟩ := I.list hs
  rw [Vals.ref1 r]
  have hb := rv.bls
  refine call_any_walk (iter_any hl.isList fun s₂ e2 st hne => ?_)
  subst e2
  refine ⟨_, _, _, _, _, _, _, rfl, Walks.list (A := X.A.in1) (I.ok.hd hc) _ a hne its.toArray, st, truth_bools hb, fun h' tk hk => ?_⟩
  refine ⟨.bl _, H, I.kept fun b o eo => hk b o (fun hmem => ?_) (Heap.get?_push_of_some _ eo), ?_, q⟩
  · rcases List.mem_cons.mp hmem with e1 | hmem
    · exact absurd (e1 ▸ Heap.lt_size eo) (Nat.lt_irrefl _)
    · cases hmem
  · show Value.bool _ = Value.bool _
    rw [← any_range, hb, List.size_toArray, List.length_map]
theorem cr_all (hc : X.calm = true) : CallR X (.builtin "all") (rAll X.K) := by
  constructor
  intro pins s σ H vs us Q I r h
  obtain ⟨a, bs, rfl, hs, q⟩ := h
  obtain ⟨its, rv, hl, _⟩ := I.list hs
  rw [Vals.ref1 r]
  have hb := rv.bls
  refine call_all_walk (iter_any hl.isList fun s₂ e2 st hne => ?_)
  subst e2
  refine ⟨_, _, _, _, _, _, _, rfl, Walks.list (A := X.A.in1) (I.ok.hd hc) _ a hne its.toArray, st, truth_bools hb, fun h' tk hk => ?_⟩
  refine ⟨.bl _, H, I.kept fun b o eo => hk b o (fun hmem => ?_) (Heap.get?_push_of_some _ eo), ?_, q⟩
  · rcases List.mem_cons.mp hmem with e1 | hmem
    · exact absurd (e1 ▸ Heap.lt_size eo) (Nat.lt_irrefl _)
    · cases hmem
  · show Value.bool _ = Value.bool _
    rw [← all_range, hb, List.size_toArray, List.length_map]
end


mutual
inductive Dp (K : PySem.W.Frag) (H : Hp) : V → PyData → Prop
  | non : Dp K H .non .none
  | bl (b : Bool) : Dp K H (.bl b) (.bool b)
  | int (i : Int) : Dp K H (.int i) (.int i)
  | str (x : Str) : Dp K H (.str x) (.str x)
  | lst {a : Addr} {xs : List V} {ds : List PyData} : SqL K H a xs → DpAll K H xs ds → Dp K H (.ref a) (.list ds)
  | tup {a : Addr} {xs : List V} {ds : List PyData} : SqT K H a xs → DpAll K H xs ds → Dp K H (.ref a) (.tuple ds)
inductive DpAll (K : PySem.W.Frag) (H : Hp) : List V → List PyData → Prop
  | nil : DpAll K H [] []
  | cons {v : V} {vs : List V} {d : PyData} {ds : List PyData} : Dp K H v d → DpAll K H vs ds → DpAll K H (v :: vs) (d :: ds)
end
section
variable {X : Cx} {pins : List (Addr × Obj)} {σ : St} {H : Hp} {s : Shared}
mutual
theorem Dp.reads (I : Inv X pins σ H s) : ∀ (d : PyData) (v : V) (u : Value), Dp X.K H v d → RelV v u → ∃ as, Reads s.heap u d as
  | .none, _, _, h, r => by
    cases h
    cases r
    exact ⟨_, Reads.none⟩
  | .bool b, _, _, h, r => by
    cases h
    cases r
    exact ⟨_, Reads.bool b⟩
  | .int i, _, _, h, r => by
    cases h
    obtain ⟨t, rfl⟩ := r
    exact ⟨_, Reads.int i t⟩
  | .str x, _, _, h, r => by
    cases h
    obtain ⟨t, rfl⟩ := r
    exact ⟨_, Reads.str x t⟩
  | .list ds, _, _, h, r => by
    cases h with
    | lst hs ha =>
      cases r
      obtain ⟨its, rv, ⟨o, n, ho, hc, _, hd⟩, _⟩ := I.list hs
      obtain ⟨as, hr⟩ := Dp.readsAll I ds _ its ha rv
      exact ⟨_, Reads.list ho hc hd hr⟩
  | .tuple ds, _, _, h, r => by
    cases h with
    | tup hs ha =>
      cases r
      obtain ⟨its, rv, ⟨o, ho, hc, n, hd⟩, _⟩ := I.tuple hs
      obtain ⟨as, hr⟩ := Dp.readsAll I ds _ its ha rv
      exact ⟨_, Reads.tuple ho hc hd hr⟩
  | .dict _, _, _, h, _ => by cases h
theorem Dp.readsAll (I : Inv X pins σ H s) : ∀ (ds : List PyData) (vs : List V) (us : List Value), DpAll X.K H vs ds → Vals vs us → ∃ as, ReadsAll s.heap us ds as
  | [], _, _, h, r => by
    cases h
    cases r
    exact ⟨_, ReadsAll.nil⟩
  | d :: ds, _, _, h, r => by
    cases h with
    | cons h1 h2 =>
      cases r with
      | cons r1 r2 =>
        obtain ⟨as, q1⟩ := Dp.reads I d _ _ h1 r1
        obtain ⟨bs, q2⟩ := Dp.readsAll I ds _ _ h2 r2
        exact ⟨_, ReadsAll.cons q1 q2⟩
end
end
section
variable {X : Cx}
noncomputable def rEqD (K : PySem.W.Frag) : R2 := fun x y H Q => ∃ d e, Dp K H x d ∧ Dp K H y e ∧ SeqAt.shaped d = true ∧ SeqAt.shaped e = true ∧ Q (.bl (PyData.eqv d e)) H
noncomputable def rNeD (K : PySem.W.Frag) : R2 := fun x y H Q => ∃ d e, Dp K H x d ∧ Dp K H y e ∧ SeqAt.shaped d = true ∧ SeqAt.shaped e = true ∧ Q (.bl (!PyData.eqv d e)) H
theorem op_eqD (hu : X.A.units + 64 < cLine) : OpR X (compareOp .Eq) (rEqD X.K) := by
  constructor
  intro pins s σ H x y v u Q I rx ry h
  obtain ⟨d, e, hd, he, sd, se, q⟩ := h
  obtain ⟨as, r1⟩ := Dp.reads I d x v hd rx
  obtain ⟨bs, r2⟩ := Dp.reads I e y u he ry
  exact SeqAt.compareEq_shaped r1 r2 sd se hu ⟨.bl _, H, I, rfl, q⟩
theorem op_neD (hu : X.A.units + 64 < cLine) : OpR X (compareOp .NotEq) (rNeD X.K) := by
  constructor
  intro pins s σ H x y v u Q I rx ry h
  obtain ⟨d, e, hd, he, sd, se, q⟩ := h
  obtain ⟨as, r1⟩ := Dp.reads I d x v hd rx
  obtain ⟨bs, r2⟩ := Dp.reads I e y u he ry
  exact SeqAt.compareNe_shaped r1 r2 sd se hu ⟨.bl _, H, I, rfl, q⟩
end
end L2

namespace L2
open PySem PySem.Spec PyProof.Rows
noncomputable abbrev CellAt (h : Heap) (c : Addr) (v : Option Value) : Prop := h.IsCell c v
noncomputable def relS (scope sc : Scope) : Scope :=
  { scope with names := scope.names.map fun (n, k) => if (k == .free && sc.kind == .function && sc.names.lookup n == some .cell) then (n, .cell) else (n, k) }

noncomputable def cloFrom (cells : List (Str × Addr)) : List (Str × NameKind) → List (Str × Addr) → List (Str × Addr)
  | [], acc => acc
  | (n, k) :: r, acc => if k == .free then cloFrom cells r ((n, (cells.lookup n).getD 0) :: acc) else cloFrom cells r acc

theorem closure_loop (env : Env) (f : Str × NameKind → List (Str × Addr) → Sem (ForInStep (List (Str × Addr))))
    (hf : ∀ n k c, f (n, k) c = if k == .free then (do let a ← cellOf env n; pure (.yield ((n, a) :: c))) else pure (.yield c)) :
    ∀ (names : List (Str × NameKind)) (acc : List (Str × Addr)), (∀ y ∈ names, y.2 = .free → ∃ c, env.cells.lookup y.1 = some c) → forIn names acc f = pure (cloFrom env.cells names acc)
  | [], acc, _ => by rw [List.forIn_nil]; rfl
  | (n, k) :: r, acc, h => by
    rw [List.forIn_cons, hf]
    have ih := fun acc => closure_loop env f hf r acc fun y hy => h y (List.mem_cons_of_mem _ hy)
    unfold cloFrom
    by_cases hk : (k == NameKind.free) = true
    · rw [if_pos hk, if_pos hk]
      obtain ⟨c, hc⟩ := h (n, k) List.mem_cons_self (by simpa using hk)
      have e : cellOf env n = pure c := by unfold cellOf; rw [hc]
      rw [e]
      have e2 : (env.cells.lookup n).getD 0 = c := by rw [hc]; rfl
      rw [e2]
      exact ih _
    · rw [if_neg hk, if_neg hk]
      exact ih _
theorem closure_ok {scope : Scope} {env : Env} (h : ∀ y ∈ scope.names, y.2 = .free → ∃ c, env.cells.lookup y.1 = some c) : closureFor scope env = pure (cloFrom env.cells scope.names []) := by
  simp only [closureFor]
  rw [closure_loop env _ (fun n k c => rfl) scope.names [] h]
  rfl

theorem mem_lookup {α : Type} : ∀ {l : List (Str × α)} {n : Str} {c : α}, (n, c) ∈ l → ∃ c', l.lookup n = some c'
  | (k, v) :: r, n, c, h => by
    rw [List.lookup_cons]
    cases hb : n == k with
    | true => exact ⟨_, rfl⟩
    | false =>
      rcases List.mem_cons.mp h with e | h
      · cases e; simp at hb
      · exact mem_lookup h

theorem cloFrom_mem {cells : List (Str × Addr)} : ∀ {names : List (Str × NameKind)} {acc : List (Str × Addr)} {n : Str} {c : Addr}, (n, c) ∈ cloFrom cells names acc → (n, c) ∈ acc ∨ ((n, .free) ∈ names ∧ c = (cells.lookup n).getD 0)
  | [], _, _, _, h => .inl h
  | (m, k) :: r, acc, n, c, h => by
    unfold cloFrom at h
    split at h
    · rename_i hk
      have hk : k = .free := by simpa using hk
      rcases cloFrom_mem h with h | ⟨h1, h2⟩
      · rcases List.mem_cons.mp h with e | h
        · cases e; exact .inr ⟨hk ▸ List.mem_cons_self, rfl⟩
        · exact .inl h
      · exact .inr ⟨List.mem_cons_of_mem _ h1, h2⟩
    · rcases cloFrom_mem h with h | ⟨h1, h2⟩
      · exact .inl h
      · exact .inr ⟨List.mem_cons_of_mem _ h1, h2⟩
theorem cloFrom_acc {cells : List (Str × Addr)} : ∀ {names : List (Str × NameKind)} {acc : List (Str × Addr)} {p : Str × Addr}, p ∈ acc → p ∈ cloFrom cells names acc
  | [], _, _, h => h
  | (m, k) :: r, acc, p, h => by
    unfold cloFrom
    split
    · exact cloFrom_acc (List.mem_cons_of_mem _ h)
    · exact cloFrom_acc h
theorem cloFrom_has {cells : List (Str × Addr)} : ∀ {names : List (Str × NameKind)} {acc : List (Str × Addr)} {n : Str}, (n, .free) ∈ names → (n, (cells.lookup n).getD 0) ∈ cloFrom cells names acc
  | (m, k) :: r, acc, n, h => by
    unfold cloFrom
    rcases List.mem_cons.mp h with e | h
    · cases e
      exact cloFrom_acc List.mem_cons_self
    · split
      · exact cloFrom_has h
      · exact cloFrom_has h

theorem cells_mem : ∀ {names : List (Str × NameKind)} {h : Heap} {acc : List (Str × Addr)} {x : Str} {c : Addr}, (x, c) ∈ cellsFrom h.objs.size names acc →
    (x, c) ∈ acc ∨ ((x, .cell) ∈ names ∧ h.objs.size ≤ c ∧ CellAt (pushCells h names) c none)
  | [], _, _, _, _, h => .inl h
  | (n, k) :: r, h, acc, x, c, hm => by
    unfold cellsFrom at hm
    unfold pushCells
    split at hm
    · rename_i hk
      rw [if_pos hk]
      have hk : k = .cell := by simpa using hk
      rw [← Heap.size_push h { cls := .type "cell", data := .cell none }] at hm
      rcases cells_mem hm with hm | ⟨h1, h2, h3⟩
      · rcases List.mem_cons.mp hm with e | hm
        · cases e
          exact .inr ⟨hk ▸ List.mem_cons_self, Nat.le_refl _, _, pushCells_keeps r _ _ _ (Heap.get?_push_size _ rfl), rfl⟩
        · exact .inl hm
      · rw [Heap.size_push] at h2
        exact .inr ⟨List.mem_cons_of_mem _ h1, Nat.le_of_succ_le h2, h3⟩
    · rename_i hk
      rw [if_neg hk]
      rcases cells_mem hm with hm | ⟨h1, h2, h3⟩
      · exact .inl hm
      · exact .inr ⟨List.mem_cons_of_mem _ h1, h2, h3⟩
theorem cells_acc : ∀ {names : List (Str × NameKind)} {n : Nat} {acc : List (Str × Addr)} {p : Str × Addr}, p ∈ acc → p ∈ cellsFrom n names acc
  | [], _, _, _, h => h
  | (m, k) :: r, n, acc, p, h => by
    unfold cellsFrom
    split
    · exact cells_acc (List.mem_cons_of_mem _ h)
    · exact cells_acc h
theorem cells_has : ∀ {names : List (Str × NameKind)} {n : Nat} {acc : List (Str × Addr)} {x : Str}, (x, .cell) ∈ names → ∃ c, (x, c) ∈ cellsFrom n names acc
  | (m, k) :: r, n, acc, x, h => by
    unfold cellsFrom
    rcases List.mem_cons.mp h with e | h
    · cases e
      exact ⟨n, cells_acc List.mem_cons_self⟩
    · split
      · exact cells_has h
      · exact cells_has h
theorem cells_inj : ∀ {names : List (Str × NameKind)} {h : Heap} {acc : List (Str × Addr)} {x y : Str} {c : Addr}, (∀ p ∈ acc, p.2 < h.objs.size) → (∀ x y c, (x, c) ∈ acc → (y, c) ∈ acc → x = y) →
    (x, c) ∈ cellsFrom h.objs.size names acc → (y, c) ∈ cellsFrom h.objs.size names acc → x = y
  | [], _, _, _, _, _, _, hi, h1, h2 => hi _ _ _ h1 h2
  | (n, k) :: r, h, acc, x, y, c, hl, hi, h1, h2 => by
    unfold cellsFrom at h1 h2
    split at h1
    · rename_i hk
      rw [if_pos hk] at h2
      rw [← Heap.size_push h { cls := .type "cell", data := .cell none }] at h1 h2
      refine cells_inj (h := h.push _) (fun p hp => ?_) (fun x y c a b => ?_) h1 h2
      · rw [Heap.size_push]
        rcases List.mem_cons.mp hp with rfl | hp
        · exact Nat.lt_succ_self _
        · exact Nat.lt_succ_of_lt (hl p hp)
      · rcases List.mem_cons.mp a with e | a <;> rcases List.mem_cons.mp b with e' | b
        · cases e; cases e'; rfl
        · cases e; exact absurd (hl _ b) (Nat.lt_irrefl _)
        · cases e'; exact absurd (hl _ a) (Nat.lt_irrefl _)
        · exact hi _ _ _ a b
    · rename_i hk
      rw [if_neg hk] at h2
      exact cells_inj hl hi h1 h2

theorem newEnv_comp {M : Model} {A : Around} {E : Value → Shared → Prop} {s : Shared} {scope : Scope} {globals : Addr} {closure : List (Str × Addr)} {qual : Str} {func : Option Addr} {code : Value} {around : Env} {builtins : Addr} {Q : Env → Shared → Prop}
    (h : Q (newEnv scope s.heap.objs.size globals (cellsFrom (s.heap.objs.size + 1) scope.names closure) qual func code (some around) builtins)
      { s with heap := pushCells (s.heap.push { cls := .type "dict", data := .dict #[] }) scope.names }) :
    wpAny M A (newFunctionEnv scope globals closure [] qual func code (some around) builtins) Q E s := by
  simp only [newFunctionEnv, Option.isSome_some, if_true]
  refine wpAny_bind (wpAny_alloc ?_)
  refine wpAny_bind (wpAny_layCells _ (fun n k c => rfl) scope.names closure _ _ ?_)
  rw [show ({ s with heap := s.heap.push { cls := .type "dict", data := .dict #[] } } : Shared).heap.objs.size = s.heap.objs.size + 1 from Heap.size_push ..]
  rw [List.forIn_nil]
  exact wpAny_bind (wpAny_pure (wpAny_pure h))


theorem lookup_relS {sc : Scope} : ∀ {names : List (Str × NameKind)} {x : Str} {k : NameKind},
    (names.map fun (n, k) => if (k == NameKind.free && sc.kind == .function && sc.names.lookup n == some .cell) then (n, NameKind.cell) else (n, k)).lookup x = some k →
    ∃ k', names.lookup x = some k' ∧ (k = k' ∨ (k' = .free ∧ k = .cell))
  | [], _, _, h => by simp at h
  | (n, k₀) :: r, x, k, h => by
    have ih := @lookup_relS sc r x k
    have h' : List.lookup x ((if (k₀ == NameKind.free && sc.kind == .function && sc.names.lookup n == some .cell) = true then (n, NameKind.cell) else (n, k₀)) :: (r.map _)) = some k := h
    cases hx : x == n with
    | true =>
      simp only [List.lookup_cons, hx]
      by_cases hc : (k₀ == NameKind.free && sc.kind == .function && sc.names.lookup n == some .cell) = true
      · rw [if_pos hc] at h'
        simp only [List.lookup_cons, hx] at h'
        cases h'
        simp only [Bool.and_eq_true, beq_iff_eq] at hc
        exact ⟨k₀, rfl, .inr ⟨hc.1.1, rfl⟩⟩
      · rw [if_neg hc] at h'
        simp only [List.lookup_cons, hx] at h'
        cases h'
        exact ⟨_, rfl, .inl rfl⟩
    | false =>
      simp only [List.lookup_cons, hx]
      by_cases hc : (k₀ == NameKind.free && sc.kind == .function && sc.names.lookup n == some .cell) = true
      · rw [if_pos hc] at h'
        simp only [List.lookup_cons, hx] at h'
        exact ih h'
      · rw [if_neg hc] at h'
        simp only [List.lookup_cons, hx] at h'
        exact ih h'
structure BlkOk (N : List Str) (sc scope : Scope) (own : List (Str × Nat)) : Prop where
  kind : scope.kind = .function
  uniq : ∀ y ∈ scope.names, scope.names.lookup y.1 = some y.2
  ix : ∀ p ∈ own, N[p.2]? = some p.1
  free : ∀ y ∈ scope.names, y.2 = .free → sc.names.lookup y.1 = some .cell ∨ sc.names.lookup y.1 = some .free
  own : ∀ y ∈ scope.names, y.2 = .local ∨ y.2 = .cell → y.1 ∈ own.map (·.1) ∨ y.1 ∉ N

noncomputable def wipe (σ : St) : List Nat → St
  | [] => σ
  | v :: vs => (wipe σ vs).set v none
theorem wipe_length (σ : St) : ∀ vs : List Nat, (wipe σ vs).length = σ.length
  | [] => rfl
  | v :: vs => by unfold wipe; rw [List.length_set, wipe_length σ vs]
theorem wipe_some {σ : St} {i : Nat} {x : V} : ∀ {vs : List Nat}, (wipe σ vs)[i]? = some (some x) → σ[i]? = some (some x) ∧ i ∉ vs
  | [], h => ⟨h, by simp⟩
  | v :: vs, h => by
    unfold wipe at h
    by_cases hi : v = i
    · subst hi
      by_cases hv : v < (wipe σ vs).length
      · rw [List.getElem?_set_self hv] at h; cases h
      · rw [List.getElem?_eq_none (by simpa using hv)] at h; cases h
    · rw [List.getElem?_set_ne hi] at h
      obtain ⟨h1, h2⟩ := wipe_some h
      exact ⟨h1, by simp only [List.mem_cons, not_or]; exact ⟨fun e => hi e.symm, h2⟩⟩


noncomputable abbrev Cx.blk (X : Cx) (s : Shared) (H : Hp) (scope : Scope) (cenv : Env) (fp : List Addr) : Cx := { X with s_0 := s, H_0 := H, env := cenv, outer := X.stack, ex := fp, fn := fun x => scope.names.lookup x == some .cell, pn := [], xe := fun _ _ => False }
section
variable {X : Cx} {pins : List (Addr × Obj)} {σ : St} {H : Hp} {s : Shared}
theorem block_start {scope : Scope} {own : List (Str × Nat)} {fp : List Addr} (I : Inv X pins σ H s) (ok : BlkOk X.N X.env.scope scope own) (hN : X.N.Nodup) (hfp : ∀ b ∈ fp, FpOk X pins H b ∧ b < s.heap.objs.size) :
    Inv (X.blk s H scope (compEnvC scope (cellsFrom (s.heap.objs.size + 1) scope.names (cloFrom X.env.cells scope.names [])) s.heap.objs.size X.env) fp) [] (wipe σ (own.map (·.2))) H { s with heap := pushCells (s.heap.push { cls := .type "dict", data := .dict #[] }) scope.names } := by
  have hfree : ∀ y ∈ scope.names, y.2 = .free → ∃ c, X.env.cells.lookup y.1 = some c := fun y hy e => by
    rcases ok.free y hy e with k | k
    · exact I.ok.has _ (.inl k)
    · exact I.ok.has _ (.inr k)
  generalize hcenv : compEnvC scope (cellsFrom (s.heap.objs.size + 1) scope.names (cloFrom X.env.cells scope.names [])) s.heap.objs.size X.env = cenv
  have kp : ∀ b o, s.heap.get? b = some o → (pushCells (s.heap.push { cls := .type "dict", data := .dict #[] }) scope.names).get? b = some o := fun b o e => pushCells_keeps _ _ _ _ (Heap.get?_push_of_some _ e)
  have hL : cenv.locals = s.heap.objs.size := by rw [← hcenv]; rfl
  have hcl : cenv.cells = cellsFrom (s.heap.objs.size + 1) scope.names (cloFrom X.env.cells scope.names []) := by rw [← hcenv]; rfl
  have hsc : cenv.scope = relS scope X.env.scope := by rw [← hcenv]; rfl
  rw [← Heap.size_push s.heap { cls := .type "dict", data := .dict #[] }] at hcl
  have cm : ∀ {y c}, (y, c) ∈ cloFrom X.env.cells scope.names [] → X.env.cells.lookup y = some c ∧ c < s.heap.objs.size := fun {y c} hm => by
    rcases cloFrom_mem hm with hm | ⟨h1, rfl⟩
    · cases hm
    · obtain ⟨c, hc⟩ := hfree _ h1 rfl
      rw [hc]
      obtain ⟨w, z⟩ := I.cell _ _ hc
      exact ⟨rfl, z.lt⟩
  have mem : ∀ {y c}, cenv.cells.lookup y = some c → (X.env.cells.lookup y = some c ∧ c < s.heap.objs.size) ∨ (s.heap.objs.size + 1 ≤ c ∧ CellAt (pushCells (s.heap.push { cls := .type "dict", data := .dict #[] }) scope.names) c none) := fun {y c} e => by
    rw [hcl] at e
    rcases cells_mem (PySem.mem_of_lookup e) with hm | ⟨_, h2, h3⟩
    · exact .inl (cm hm)
    · rw [Heap.size_push] at h2; exact .inr ⟨h2, h3⟩
  have look : ∀ {y}, scope.names.lookup y = some .free → ∃ c, cenv.cells.lookup y = some c ∧ X.env.cells.lookup y = some c := fun {y} hl => by
    have hy : (y, NameKind.free) ∈ scope.names := PySem.mem_of_lookup hl
    obtain ⟨c', e'⟩ := mem_lookup (cells_acc (names := scope.names) (n := (s.heap.push { cls := .type "dict", data := .dict #[] }).objs.size) (cloFrom_has (cells := X.env.cells) (acc := []) hy))
    rw [← hcl] at e'
    refine ⟨c', e', ?_⟩
    rw [hcl] at e'
    rcases cells_mem (PySem.mem_of_lookup e') with hm | ⟨h1, _, _⟩
    · exact (cm hm).1
    · have := ok.uniq _ h1
      rw [hl] at this; cases this
  have okB : (X.blk s H scope cenv fp).Ok := by
    refine ⟨I.ok.mod, by show cenv.scope.kind = _; rw [hsc]; exact ok.kind, by show cenv.globals = _; rw [← hcenv]; exact I.ok.glob, by show cenv.builtins = _; rw [← hcenv]; exact I.ok.blt, by show s.heap.objs.size ≤ cenv.locals; rw [hL]; exact Nat.le_refl _,
      fun y z c e1 e2 => ?_, fun y hy => ?_, fun y c z e => ?_, I.ok.hd, I.ok.frames, .inl rfl, fun b hb => ⟨?_, fun y c e z => ?_⟩, I.bs, Nat.le_trans I.ok.bsz I.sz, fun b o e hb => ?_, fun b hb z => ?_, I.stack, I.stkFree⟩
    · have e1 : cenv.cells.lookup y = some c := e1
      have e2 : cenv.cells.lookup z = some c := e2
      rw [hcl] at e1 e2
      refine cells_inj (fun p hp => ?_) (fun y z c a b => I.ok.inj y z c (cm a).1 (cm b).1) (PySem.mem_of_lookup e1) (PySem.mem_of_lookup e2)
      rw [Heap.size_push]
      exact Nat.lt_succ_of_lt (cm (y := p.1) (c := p.2) hp).2
    · show ∃ c, cenv.cells.lookup y = some c
      have key : ∀ k, cenv.kindOf y = some k → (k = .cell ∨ k = .free) → ∃ c, cenv.cells.lookup y = some c := fun k hk hk' => by
        unfold Env.kindOf at hk
        rw [hsc] at hk
        obtain ⟨k', e, r⟩ := lookup_relS hk
        have : k' = .cell ∨ k' = .free := by
          rcases r with rfl | ⟨rfl, _⟩
          · exact hk'
          · exact .inr rfl
        rcases this with rfl | rfl
        · obtain ⟨c, hm⟩ := cells_has (n := (s.heap.push { cls := .type "dict", data := .dict #[] }).objs.size) (acc := cloFrom X.env.cells scope.names []) (PySem.mem_of_lookup e)
          obtain ⟨c', e'⟩ := mem_lookup hm
          exact ⟨c', by rw [hcl]; exact e'⟩
        · obtain ⟨c, h1, _⟩ := look e
          exact ⟨c, h1⟩
      rcases hy with hy | hy
      · exact key _ hy (.inl rfl)
      · exact key _ hy (.inr rfl)
    · have z : (scope.names.lookup y == some NameKind.cell) = true := z
      have z : scope.names.lookup y = some .cell := by simpa using z
      have e : cenv.cells.lookup y = some c := e
      rw [hcl] at e
      rcases cells_mem (PySem.mem_of_lookup e) with hm | ⟨_, h2, _⟩
      · rcases cloFrom_mem hm with hm | ⟨h1, _⟩
        · cases hm
        · have q := ok.uniq _ h1
          rw [z] at q; cases q
      · rw [Heap.size_push] at h2
        exact Nat.le_of_succ_le h2
    · show b ≠ cenv.locals
      rw [hL]; exact Nat.ne_of_lt (hfp b hb).2
    · have e : cenv.cells.lookup y = some c := e
      rcases mem e with ⟨h1, _⟩ | ⟨h1, _⟩
      · exact (hfp b hb).1.2.2.2.2.1 y c h1 z
      · have h2 : s.heap.objs.size + 1 ≤ b := by rw [← z]; exact h1
        exact absurd (Nat.lt_of_lt_of_le (hfp b hb).2 (Nat.le_of_succ_le h2)) (Nat.lt_irrefl _)
    · rcases (hfp b hb).1.2.2.2.1 with z | z
      · exact I.ok.noex b o e z
      · exact absurd (Nat.lt_of_lt_of_le (Heap.lt_size e) (Nat.le_trans I.ok.bsz z)) (Nat.lt_irrefl _)
    · rcases List.mem_cons.mp (I.stkSub b z) with z | z
      · exact (hfp b hb).1.2.1 z
      · exact (hfp b hb).1.2.2.1 z
  refine ⟨okB, rfl, I.bare, Un.kept kp, ⟨fun _ => none, ?_, fun i y av e1 e2 e3 => ?_⟩, fun y c e => ?_, ?_, fun y c e => ?_, fun p hp => ?_, I.hok.kept kp, by rw [wipe_length]; exact I.len⟩
  · show Heap.Ns _ cenv.locals _
    rw [hL]
    exact Heap.Ns.keeps (Heap.Ns.new ..) fun b o e => pushCells_keeps _ _ _ _ e
  · obtain ⟨e2, hne⟩ := wipe_some e2
    have hfr : scope.names.lookup y = some .free ∧ (cenv.kindOf y = some .cell ∨ cenv.kindOf y = some .free) := by
      have key : ∀ k, cenv.scope.names.lookup y = some k → k = .local ∨ k = .cell ∨ k = .free → scope.names.lookup y = some .free ∧ (cenv.kindOf y = some .cell ∨ cenv.kindOf y = some .free) := fun k hk hk' => by
        have hk0 := hk
        rw [hsc] at hk
        obtain ⟨k', e, r⟩ := lookup_relS hk
        have no : ¬ (k' = .local ∨ k' = .cell) := fun hh => by
          rcases ok.own _ (PySem.mem_of_lookup e) hh with e' | e'
          · obtain ⟨p, hp, hpy⟩ := List.mem_map.mp e'
            have e3 := ok.ix p hp
            have : p.1 = y := hpy
            rw [this] at e3
            exact hne (List.mem_map.mpr ⟨p, hp, nodup_ix hN e3 e1⟩)
          · exact e' (List.mem_of_getElem? e1)
        rcases r with rfl | ⟨rfl, rfl⟩
        · rcases hk' with rfl | rfl | rfl
          · exact absurd (.inl rfl) no
          · exact absurd (.inr rfl) no
          · exact ⟨e, .inr hk0⟩
        · exact ⟨e, .inl hk0⟩
      have e3 : Vis cenv.scope y := e3
      rcases e3 with e3 | e3 | e3
      · exact key _ e3 (.inl rfl)
      · exact key _ e3 (.inr (.inl rfl))
      · exact key _ e3 (.inr (.inr rfl))
    obtain ⟨m, hn, hl⟩ := I.loc
    have hvis : Vis X.env.scope y := (ok.free _ (PySem.mem_of_lookup hfr.1) rfl).elim (fun k => .inr (.inl k)) (fun k => .inr (.inr k))
    obtain ⟨w, r, q⟩ := hl i y av e1 e2 hvis
    refine ⟨w, r, .inr ⟨hfr.2, ?_⟩⟩
    obtain ⟨c, h1, h2⟩ := look hfr.1
    rcases q with ⟨k, _⟩ | ⟨_, c', e', z⟩
    · have k : X.env.scope.names.lookup y = some .local := k
      rcases ok.free _ (PySem.mem_of_lookup hfr.1) rfl with k' | k' <;> rw [show X.env.scope.names.lookup y = _ from k'] at k <;> cases k
    · rw [h2] at e'; cases e'
      exact ⟨c, h1, z.keeps kp⟩
  · have e : cenv.cells.lookup y = some c := e
    rcases mem e with ⟨h1, _⟩ | ⟨_, z⟩
    · obtain ⟨w, z⟩ := I.cell y c h1
      exact ⟨w, z.keeps kp⟩
    · exact ⟨_, z⟩
  · show H cenv.locals = none
    rw [hL]; exact I.hok.fresh (Nat.le_refl _)
  · have e : cenv.cells.lookup y = some c := e
    rcases mem e with ⟨h1, _⟩ | ⟨h1, _⟩
    · exact I.freeC y c h1
    · exact I.hok.fresh (Nat.le_of_succ_le h1)
  · exact absurd (show p ∈ ([] : List (Addr × Obj)) ++ [] from hp) (by simp)


theorem app_ok {E : Value → Shared → Prop} {D : Addr} {xs : List V} {y : V} {v : Value} {Q : Value → Shared → Prop} (I : Inv X pins σ H s) (hD : H D = some (.lst xs)) (hz : xs.length < sizeLine) (r : RelV y v)
    (h : ∀ s', Inv X pins σ (upd H D (.lst (xs ++ [y]))) s' → Q .none s') : wpAny (model X.prog X.w) X.A (call (.builtin "list.append") [.ref D, v]) Q E s := by
  obtain ⟨hz', its, n, ri, e⟩ := I.hok D _ hD
  have hl := ri.length
  refine append_at (hsz := by rw [List.size_toArray]; omega) e fun h' sb ho' => ?_
  refine h { s with heap := h' } (I.write (t' := s.toks) (by rw [hD]; trivial) (.inl rfl) (fun b u hb q => (sb.2 b hb).trans q) ⟨_, ho'⟩ ⟨by rw [List.length_append]; exact hz, its ++ [v], n + 1, ri.append (.cons r .nil), ?_⟩)
  rw [ho']
  simp


structure PTs (X : Cx) (ifs : List Expr) (t : TT) : Prop where
  run :
    ∀ (pins : List (Addr × Obj)) (s : Shared) (σ : St) (H : Hp) (Q : Bool → Hp → Prop), Inv X pins σ H s → t σ H Q →
      wpAny (model X.prog X.w) X.A (forIn ifs true fun c r => if r = true then do let ok ← isTrue c X.env (eval c X.env); pure (ForInStep.yield ok) else pure (ForInStep.yield r)) (TP X pins σ Q) X.xe s
instance {X : Cx} {ifs : List Expr} {t : TT} : CoeFun (PTs X ifs t) (fun _ =>
  ∀ (pins : List (Addr × Obj)) (s : Shared) (σ : St) (H : Hp) (Q : Bool → Hp → Prop), Inv X pins σ H s → t σ H Q →
    wpAny (model X.prog X.w) X.A (forIn ifs true fun c r => if r = true then do let ok ← isTrue c X.env (eval c X.env); pure (ForInStep.yield ok) else pure (ForInStep.yield r)) (TP X pins σ Q) X.xe s) := ⟨PTs.run⟩
noncomputable def tYes : TT := fun _ H Q => Q true H
theorem pts_nil : PTs X [] tYes := ⟨fun _ _ _ H _ I h => wpAny_tests_nil ⟨H, I, h⟩⟩
end

theorem thnF {α : Type} {t : Sem α} {Q Q' : α → Shared → Prop} {M : Model} {A : Around} {E : Value → Shared → Prop} {s : Shared} (h : wpAny M A t Q (fun _ _ => False) s) (hQ : ∀ a s, Q a s → Q' a s) : wpAny M A t Q' E s := wpAny_mono h hQ fun _ _ z => False.elim z


theorem compLoop_any {prog : Program} {w : World} {A : Around} {R : Result → Shared → Prop} {s : Shared} {elt target iter : Expr} {ifs : List Expr} {scope : Scope} {pos : Pos} {it acc : Value} {env : Env} (I : Nat → Shared → Prop)
    (turn : ∀ n s, I n s → wpAny (model prog w) A (pyNext it) (fun r s₁ => match r with
      | none => R (.ok .next) s₁
      | some v => wpAny (model prog w) A (letOwnedTupleGo target it v) (fun _ s₁' => wpAny (model prog w) A (assign target env v) (fun _ s₂ =>
          wpAny (model prog w) A (forIn ifs true fun c r => if r = true then do let ok ← isTrue c env (eval c env); pure (ForInStep.yield ok) else pure (ForInStep.yield r)) (fun ok s₃ =>
            if ok = true then wpAny (model prog w) A (eval elt env) (fun x s₄ =>
              wpAny (model prog w) A (call (.builtin "list.append") [acc, x]) (fun _ s₅ => ∃ m, m < n ∧ I m s₅) (notedBy (model prog w) A env fun e s' => R (.error e) s') s₄) (notedBy (model prog w) A env fun e s' => R (.error e) s') s₃
            else ∃ m, m < n ∧ I m s₃) (notedBy (model prog w) A env fun e s' => R (.error e) s') s₂) (notedBy (model prog w) A env fun e s' => R (.error e) s') s₁') (notedBy (model prog w) A env fun e s' => R (.error e) s') s₁) (notedBy (model prog w) A env fun e s' => R (.error e) s') s)
    (n : Nat) (h : I n s) :
    codeAny (model prog w) A (.compLoop (.ListComp elt [⟨target, iter, ifs, 0⟩] scope pos) 0 it acc env) R s := by
  refine codeAny_loop rfl I (fun n s hI => ?_) n h
  show wpAny _ A ((compTurn (.ListComp elt [⟨target, iter, ifs, 0⟩] scope pos) 0 it acc env).onRaise (fun x => do noteFrame x env; theTreesLotGoes x)) _ _ s
  refine wpAny_noted ?_
  rw [compTurn_list]
  refine wpAny_bind (wpAny_standAt (wpAny_bind (wpAny_mono (turn n s hI) (fun r s₁ h₁ => ?_) fun _ _ h' => h')))
  cases r with
  | none => exact wpAny_pure h₁
  | some v =>
    refine wpAny_bind (wpAny_mono h₁ (fun _ s₁' h₁' => ?_) fun _ _ h' => h')
    refine wpAny_bind (wpAny_mono h₁' (fun _ s₂ h₂ => wpAny_bind (wpAny_mono h₂ (fun ok s₃ h₃ => ?_) fun _ _ h' => h')) fun _ _ h' => h')
    cases ok with
    | false => exact wpAny_pure ⟨rfl, h₃⟩
    | true =>
      exact wpAny_bind (wpAny_bind (wpAny_mono h₃ (fun x s₄ h₄ => wpAny_bind (wpAny_mono h₄ (fun _ s₅ h₅ => wpAny_pure (wpAny_pure ⟨rfl, h₅⟩)) fun _ _ h' => h')) fun _ _ h' => h'))

section
variable {X : Cx}

noncomputable def tLc (wi : TI) (g : TG) (tt : TT) (te : TE) (vs : List Nat) : TE := fun σ H Q => wi σ H fun J H1 => ∀ D, H1 D = none → ∃ W : Nat → Nat → Hp → Prop, (∃ m, W 0 m (upd H1 D (.lst []))) ∧ ∀ i m H, W i m H →
  (J.stop i H ∧ Q (.ref D) H) ∨ (J.go i H ∧ ∃ Nx : Hp → Prop, (∀ H', Nx H' → ∃ m', m' < m ∧ W (i + 1) m' H') ∧ ∀ x H', J.yld i H x H' → g x (wipe σ vs) H' fun σ2 H2 => wipe σ2 vs = wipe σ vs ∧ tt σ2 H2 fun b H3 =>
    if b = true then te σ2 H3 fun y H4 => ∃ acc, H4 D = some (.lst acc) ∧ acc.length < sizeLine ∧ Nx (upd H4 D (.lst (acc ++ [y]))) else Nx H3)
theorem lc_core {pins : List (Addr × Obj)} {s : Shared} {σ : St} {H : Hp} {Q : VK} {elt tg iter : Expr} {ifs : List Expr} {scope : Scope} {own : List (Str × Nat)} {pos pos' : Pos} {wi : TI} {g : TG} {tt : TT} {te : TE} {use : Option (Value → Sem Unit)} {Qf : Value → Shared → Prop}
    (hc : X.calm = true) (hN : X.N.Nodup) (I : Inv X pins σ H s) (hi : PI X tg iter wi) (ok : BlkOk X.N X.env.scope scope own)
    (hg : ∀ (s : Shared) (H : Hp) (C : Addr) (cl : List (Str × Addr)) (fp : List Addr), PG (X.blk s H scope (compEnvC scope cl C X.env) fp) tg g) (ht : ∀ (s : Shared) (H : Hp) (C : Addr) (cl : List (Str × Addr)) (fp : List Addr), PTs (X.blk s H scope (compEnvC scope cl C X.env) fp) ifs tt)
    (he : ∀ (s : Shared) (H : Hp) (C : Addr) (cl : List (Str × Addr)) (fp : List Addr), PE (X.blk s H scope (compEnvC scope cl C X.env) fp) elt te) (hs : ∀ x, foldedSetIterable iter X.env x = pure x)
    (h : tLc wi g tt te (own.map (·.2)) σ H Q)
    (hRR : ∀ D C s' m H', Inv X pins σ H' s' → Q (.ref D) H' → s'.heap.Ns C m → FpOk X pins H' C → compPost (model X.prog X.w) X.A X.xe use Qf (.ref D) C (.ok .next) s') :
    wpAny (model X.prog X.w) X.A (comprehension (.ListComp elt [⟨tg, iter, ifs, 0⟩] scope pos) scope X.env pos' (newList []) false (eval iter X.env) use) Qf X.xe s := by
  have hfree : ∀ y ∈ scope.names, y.2 = .free → ∃ c, X.env.cells.lookup y.1 = some c := fun y hy e => by
    rcases ok.free y hy e with k | k
    · exact I.ok.has _ (.inl k)
    · exact I.ok.has _ (.inr k)
  refine wpAny_comprehension_free (use := use) rfl hs (closure_ok hfree) ok.kind (fun y hy e => by rw [ok.uniq y hy, e])
    (thn (hi pins s σ H _ I h) fun xv s1 hx => thn hx fun itv s2 h2 => ?_)
  obtain ⟨it, fp, tn, J, H2, e, I2, T, st2, f2, q⟩ := h2
  subst e
  refine wpAny_newObj_type (newEnv_comp ?_) (by show 0 ≤ sizeLine; decide)
  generalize hD : s2.heap.objs.size = D
  have hDn : H2 D = none := I2.hok.fresh (Nat.le_of_eq hD)
  obtain ⟨W, ⟨m0, w0⟩, turn⟩ := q D hDn
  -- the new list
  generalize hs3 : ({ s2 with heap := s2.heap.push { cls := .type "list", data := .seq ([] : List Value).toArray } } : Shared) = s3
  have I3 : Inv X pins σ (upd H2 D (.lst [])) s3 := by
    rw [← hs3]
    refine I2.laid (t' := s2.toks) (fun b o e => Heap.get?_push_of_some _ e) (Nat.le_of_eq hD) ⟨Nat.zero_le _, [], 0, .nil, ?_⟩
    rw [← hD]
    exact Heap.get?_push_size _ rfl
  have h3 : s3.heap = s2.heap.push { cls := .type "list", data := .seq ([] : List Value).toArray } := by rw [← hs3]
  have sz : ∀ b ∈ fp, b < s2.heap.objs.size := fun b hb => by
    obtain ⟨o, e, _⟩ := T.obj _ _ st2 b hb
    exact Heap.lt_size e
  have f3 : ∀ b ∈ fp, FpOk X pins (upd H2 D (.lst [])) b ∧ b < s3.heap.objs.size := fun b hb => by
    have hlt := sz b hb
    refine ⟨⟨?_, (f2 b hb).2⟩, by rw [h3, Heap.size_push]; exact Nat.lt_succ_of_lt hlt⟩
    rw [upd_ne (by rw [← hD]; exact Nat.ne_of_lt hlt)]
    exact (f2 b hb).1
  have st3 : tn 0 s3.heap := T.keep _ _ _ st2 fun b _ o e => by rw [h3]; exact Heap.get?_push_of_some _ e
  have I4 := block_start I3 ok hN f3
  have pg := hg s3 (upd H2 D (.lst [])) s3.heap.objs.size (cellsFrom (s3.heap.objs.size + 1) scope.names (cloFrom X.env.cells scope.names [])) fp
  have pt := ht s3 (upd H2 D (.lst [])) s3.heap.objs.size (cellsFrom (s3.heap.objs.size + 1) scope.names (cloFrom X.env.cells scope.names [])) fp
  have pe := he s3 (upd H2 D (.lst [])) s3.heap.objs.size (cellsFrom (s3.heap.objs.size + 1) scope.names (cloFrom X.env.cells scope.names [])) fp
  show codeAny _ _ (.compStart (.ListComp elt [⟨tg, iter, ifs, 0⟩] scope pos) 0 (.ref it) (.ref D) (compEnvC scope (cellsFrom (s3.heap.objs.size + 1) scope.names (cloFrom X.env.cells scope.names [])) s3.heap.objs.size X.env)) (compPost (model X.prog X.w) X.A X.xe use Qf (.ref D) s3.heap.objs.size) { s3 with heap := pushCells (s3.heap.push { cls := .type "dict", data := .dict #[] }) scope.names }
  have nfp : ∀ b ∈ fp, (upd H2 D (.lst [])) b = none := fun b hb => (f3 b hb).1.1
  generalize hce : compEnvC scope (cellsFrom (s3.heap.objs.size + 1) scope.names (cloFrom X.env.cells scope.names [])) s3.heap.objs.size X.env = ce at I4 pg pt pe ⊢
  have cL : ce.locals = s3.heap.objs.size := by subst hce; rfl
  generalize hH3 : upd H2 D (.lst []) = H3 at I3 I4 pg pt pe w0 nfp f3
  generalize hs4 : ({ s3 with heap := pushCells (s3.heap.push { cls := .type "dict", data := .dict #[] }) scope.names } : Shared) = s4 at I4 ⊢
  have st4 : tn 0 s4.heap := T.keep _ _ _ st3 fun b _ o e => by rw [← hs4]; exact pushCells_keeps _ _ _ _ (Heap.get?_push_of_some _ e)
  have stat : ∀ {σ' : St} {H' : Hp} {s' : Shared}, Inv (X.blk s3 H3 scope ce fp) [] σ' H' s' → (∀ b ∈ fp, H' b = none) → ∀ b ∈ fp, FpOk (X.blk s3 H3 scope ce fp) [] H' b := fun {σ' H' s'} I' hn b hb =>
    ⟨hn b hb, (I'.ok.exf b hb).1, I'.ok.exfs b hb, .inl hb, fun x c e => (I'.ok.exf b hb).2 x c e, fun p hp => absurd (show p ∈ ([] : List (Addr × Obj)) ++ [] from hp) (by simp)⟩
  have loop : codeAny (model X.prog X.w) X.A (.compLoop (.ListComp elt [⟨tg, iter, ifs, 0⟩] scope pos) 0 (.ref it) (.ref D) ce) (compPost (model X.prog X.w) X.A X.xe use Qf (.ref D) s3.heap.objs.size) s4 := by
    refine compLoop_any (fun n s' => ∃ i H', Inv (X.blk s3 H3 scope ce fp) [] (wipe σ (own.map (·.2))) H' s' ∧ tn i s'.heap ∧ (∀ b ∈ fp, H' b = none) ∧ W i n H') ?_ m0 ⟨0, H3, I4, st4, nfp, w0⟩
    rintro n s5 ⟨i, H5, I5, st5, n5, w5⟩
    rcases turn i n H5 w5 with ⟨stop, qq⟩ | ⟨go, Nx, hNx, step⟩
    · have td := T.done (X.blk s3 H3 scope ce fp) rfl rfl rfl hc i [] s5 _ H5 (fun _ _ => False) I5 (stat I5 n5) st5 stop
      refine thnF td fun r s6 ⟨hr, I6⟩ => ?_
      subst hr
      -- back in the def's context
      have I7 : Inv X pins σ H5 s6 := I3.call' (ch := fp) I6.os I6.base I6.hok I6.bare fun b hb => ⟨(f3 b hb).1.2.2.2.1, (f3 b hb).1.2.1, (f3 b hb).1.2.2.2.2.1, (f3 b hb).1.2.2.2.2.2⟩
      have nC : H5 s3.heap.objs.size = none := by
        have z : H5 ce.locals = none := I6.free
        rw [cL] at z
        exact z
      obtain ⟨m, hn, _⟩ := I6.loc
      have hn : s6.heap.Ns ce.locals m := hn
      rw [cL] at hn
      exact hRR D s3.heap.objs.size s6 m H5 I7 qq hn (I3.fpOk (Nat.le_refl _) nC)
    · have ti := T.item (X.blk s3 H3 scope ce fp) rfl rfl rfl hc i [] s5 _ H5 (fun _ _ => False) I5 (stat I5 n5) st5 go
      refine thnF ti fun r s6 ⟨u, hr, h6⟩ => ?_
      subst hr
      refine thnF h6 fun _ s7 ⟨x, H7, I7, r7, y7, st7, n7⟩ => ?_
      have I7' := I7.pinned (stat I7 n7) (T.obj _ _ st7)
      refine thnF (pg _ s7 _ H7 x u _ I7' r7 (step x H7 y7)) fun _ s8 ⟨σ8, H8, I8, hw8, q8⟩ => ?_
      refine thnF (pt _ s8 σ8 H8 _ I8 q8) fun b s9 ⟨H9, I9, q9⟩ => ?_
      -- the turn's end
      have fin : ∀ {s' : Shared} {H' : Hp}, Inv (X.blk s3 H3 scope ce fp) ([] ++ pinsAt fp s7.heap) σ8 H' s' → Nx H' → ∃ m, m < n ∧ ∃ i H', Inv (X.blk s3 H3 scope ce fp) [] (wipe σ (own.map (·.2))) H' s' ∧ tn i s'.heap ∧ (∀ b ∈ fp, H' b = none) ∧ W i m H' := fun {s' H'} I' nx => by
        obtain ⟨m', hm, w'⟩ := hNx H' nx
        have pin' : ∀ b ∈ fp, ∀ o, s7.heap.get? b = some o → s'.heap.get? b = some o ∧ H' b = none := fun b hb o e =>
          let z := I'.pin (b, o) (List.mem_append_right _ (List.mem_append_right _ (mem_pinsAt hb e)))
          ⟨z.1, z.2.1⟩
        have hl : (wipe σ (own.map (·.2))).length = σ8.length := by rw [← hw8, wipe_length]
        refine ⟨m', hm, i + 1, H', (I'.unpinned (pins := [])).weak hl (fun j v e => ?_), T.keep _ _ _ st7 fun b hb o e => (pin' b hb o e).1, fun b hb => ?_, w'⟩
        · rw [← hw8] at e
          exact (wipe_some e).1
        · obtain ⟨o, e, _⟩ := T.obj _ _ st7 b hb
          exact (pin' b hb o e).2
      cases b with
      | false =>
        simp only [Bool.false_eq_true, if_false] at q9 ⊢
        exact fin I9 q9
      | true =>
        simp only [if_true] at q9 ⊢
        refine thnF (pe _ s9 σ8 H9 _ I9 q9) fun z s10 ⟨yv, H10, I10, r10, acc, hD10, hz10, nx⟩ => ?_
        exact app_ok (X := X.blk s3 H3 scope ce fp) I10 hD10 hz10 r10 fun s11 I11 => fin I11 nx
  exact codeAny_compStart_list loop (T.self X.A 0 _ _ _ st4 loop)

theorem pe_lc {elt tg iter : Expr} {ifs : List Expr} {scope : Scope} {own : List (Str × Nat)} {pos : Pos} {wi : TI} {g : TG} {tt : TT} {te : TE} (hc : X.calm = true) (hN : X.N.Nodup) (hi : PI X tg iter wi) (ok : BlkOk X.N X.env.scope scope own)
    (hg : ∀ (s : Shared) (H : Hp) (C : Addr) (cl : List (Str × Addr)) (fp : List Addr), PG (X.blk s H scope (compEnvC scope cl C X.env) fp) tg g) (ht : ∀ (s : Shared) (H : Hp) (C : Addr) (cl : List (Str × Addr)) (fp : List Addr), PTs (X.blk s H scope (compEnvC scope cl C X.env) fp) ifs tt)
    (he : ∀ (s : Shared) (H : Hp) (C : Addr) (cl : List (Str × Addr)) (fp : List Addr), PE (X.blk s H scope (compEnvC scope cl C X.env) fp) elt te) (hs : ∀ x, foldedSetIterable iter X.env x = pure x := by intro _; rfl) :
    PE X (.ListComp elt [⟨tg, iter, ifs, 0⟩] scope pos) (tLc wi g tt te (own.map (·.2))) := by
  constructor
  intro pins s σ H Q I h
  rw [eval_ListComp]
  refine lc_core hc hN I hi ok hg ht he hs h fun D C s' m H' I' q hn f => ⟨m, hn, fun h'' sb => ?_⟩
  obtain ⟨f0, f1, f2, f3, f4, f5⟩ := f
  exact ⟨.ref D, H', I'.turned (t' := s'.toks) (fun b o hb e => (sb.2 b hb).trans e) f0 f1 f3 f4 f5, rfl, q⟩

end



theorem lc_list {K : PySem.W.Frag} {a : Addr} {xs : List V} {g : TG} {tt : TT} {te : TE} {vs : List Nat} {σ : St} {H1 : Hp} {D : Addr} {Qd : Hp → Prop} (Pv : Nat → Hp → Prop) (h0 : Pv 0 (upd H1 D (.lst []))) (hl : ∀ i H, i ≤ xs.length → Pv i H → SqL K H a xs)
    (hs : ∀ i x H, xs[i]? = some x → Pv i H → g x (wipe σ vs) H fun σ2 H2 => wipe σ2 vs = wipe σ vs ∧ tt σ2 H2 fun b H3 =>
      if b = true then te σ2 H3 fun y H4 => ∃ acc, H4 D = some (.lst acc) ∧ acc.length < sizeLine ∧ Pv (i + 1) (upd H4 D (.lst (acc ++ [y]))) else Pv (i + 1) H3) (hd : ∀ H, Pv xs.length H → Qd H) :
    ∃ W : Nat → Nat → Hp → Prop, (∃ m, W 0 m (upd H1 D (.lst []))) ∧ ∀ i m H, W i m H →
      ((Itl K a).stop i H ∧ Qd H) ∨ ((Itl K a).go i H ∧ ∃ Nx : Hp → Prop, (∀ H', Nx H' → ∃ m', m' < m ∧ W (i + 1) m' H') ∧ ∀ x H', (Itl K a).yld i H x H' → g x (wipe σ vs) H' fun σ2 H2 => wipe σ2 vs = wipe σ vs ∧ tt σ2 H2 fun b H3 =>
        if b = true then te σ2 H3 fun y H4 => ∃ acc, H4 D = some (.lst acc) ∧ acc.length < sizeLine ∧ Nx (upd H4 D (.lst (acc ++ [y]))) else Nx H3) := by
  refine ⟨fun i m H => m = xs.length - i ∧ i ≤ xs.length ∧ Pv i H, ⟨xs.length, by simp, Nat.zero_le _, h0⟩, ?_⟩
  rintro i m H ⟨rfl, hi, p⟩
  have q := hl i H hi p
  by_cases hlt : i < xs.length
  · refine .inr ⟨⟨xs, xs[i], q, by simp [hlt]⟩, Pv (i + 1), fun H' p' => ⟨xs.length - (i + 1), by omega, rfl, hlt, p'⟩, fun x H' y => ?_⟩
    obtain ⟨e, y⟩ := y
    subst e
    exact hs i x _ (y xs q) p
  · have e : i = xs.length := by omega
    subst e
    exact .inl ⟨⟨xs, q, Nat.le_refl _⟩, hd H p⟩

theorem lc_tup {K : PySem.W.Frag} {a : Addr} {xs : List V} {g : TG} {tt : TT} {te : TE} {vs : List Nat} {σ : St} {H1 : Hp} {D : Addr} {Qd : Hp → Prop} (Pv : Nat → Hp → Prop) (h0 : Pv 0 (upd H1 D (.lst []))) (hl : ∀ i H, i ≤ xs.length → Pv i H → SqT K H a xs)
    (hs : ∀ i x H, xs[i]? = some x → Pv i H → g x (wipe σ vs) H fun σ2 H2 => wipe σ2 vs = wipe σ vs ∧ tt σ2 H2 fun b H3 =>
      if b = true then te σ2 H3 fun y H4 => ∃ acc, H4 D = some (.lst acc) ∧ acc.length < sizeLine ∧ Pv (i + 1) (upd H4 D (.lst (acc ++ [y]))) else Pv (i + 1) H3) (hd : ∀ H, Pv xs.length H → Qd H) :
    ∃ W : Nat → Nat → Hp → Prop, (∃ m, W 0 m (upd H1 D (.lst []))) ∧ ∀ i m H, W i m H →
      ((Itt K a).stop i H ∧ Qd H) ∨ ((Itt K a).go i H ∧ ∃ Nx : Hp → Prop, (∀ H', Nx H' → ∃ m', m' < m ∧ W (i + 1) m' H') ∧ ∀ x H', (Itt K a).yld i H x H' → g x (wipe σ vs) H' fun σ2 H2 => wipe σ2 vs = wipe σ vs ∧ tt σ2 H2 fun b H3 =>
        if b = true then te σ2 H3 fun y H4 => ∃ acc, H4 D = some (.lst acc) ∧ acc.length < sizeLine ∧ Nx (upd H4 D (.lst (acc ++ [y]))) else Nx H3) := by
  refine ⟨fun i m H => m = xs.length - i ∧ i ≤ xs.length ∧ Pv i H, ⟨xs.length, by simp, Nat.zero_le _, h0⟩, ?_⟩
  rintro i m H ⟨rfl, hi, p⟩
  have q := hl i H hi p
  by_cases hlt : i < xs.length
  · refine .inr ⟨⟨xs, xs[i], q, by simp [hlt]⟩, Pv (i + 1), fun H' p' => ⟨xs.length - (i + 1), by omega, rfl, hlt, p'⟩, fun x H' y => ?_⟩
    obtain ⟨e, y⟩ := y
    subst e
    exact hs i x _ (y xs q) p
  · have e : i = xs.length := by omega
    subst e
    exact .inl ⟨⟨xs, q, Nat.le_refl _⟩, hd H p⟩
noncomputable def blkC (N : List Str) (sc scope : Scope) (own : List (Str × Nat)) : Bool :=
  (match scope.kind with | .function => true | _ => false) && (scope.names.all fun y => decide (scope.names.lookup y.1 = some y.2)) && (own.all fun p => decide (N[p.2]? = some p.1)) &&
    (scope.names.all fun y => match y.2 with
      | .free => (match sc.names.lookup y.1 with | some .cell => true | some .free => true | _ => false)
      | .local => decide (y.1 ∈ own.map (·.1)) || decide (y.1 ∉ N)
      | .cell => decide (y.1 ∈ own.map (·.1)) || decide (y.1 ∉ N)
      | _ => true)
theorem blkOk_by {N : List Str} {sc scope : Scope} {own : List (Str × Nat)} (h : blkC N sc scope own = true) : BlkOk N sc scope own := by
  unfold blkC at h
  simp only [Bool.and_eq_true, List.all_eq_true, decide_eq_true_eq] at h
  obtain ⟨⟨⟨h1, h2⟩, h3⟩, h4⟩ := h
  refine ⟨?_, h2, h3, fun y hy e => ?_, fun y hy e => ?_⟩
  · split at h1
    · assumption
    · cases h1
  · have q := h4 y hy
    simp only [e] at q
    split at q <;> first | exact .inl (by assumption) | exact .inr (by assumption) | cases q
  · have q := h4 y hy
    rcases e with e | e <;> (simp only [e, Bool.or_eq_true, decide_eq_true_eq] at q; exact q)
end L2

namespace L2
open PySem PySem.Spec PyProof.Rows

section
variable {prog : Program} {w : World} {A : Around} {R : Result → Shared → Prop} {s : Shared} {elt t0 i0 t1 i1 : Expr} {ifs0 ifs1 : List Expr} {scope : Scope} {pos : Pos} {it acc : Value} {env : Env}

end

section
variable {X : Cx}

end
end L2

namespace L2
open PySem PySem.Spec PyProof.Rows


section
variable {κ : Type} [DecidableEq κ]
end



section
variable {P : Program} {w : World} {H : Hp} {h : Heap} {a : Addr}
end


section
variable {X : Cx} {pins : List (Addr × Obj)} {σ : St} {H : Hp} {s : Shared} {a : Addr} {y v : V} {u r : Value} {o : Option V} {A : Around} {E : Value → Shared → Prop}

end

section
variable {X : Cx} {pins : List (Addr × Obj)} {σ : St} {H : Hp} {s : Shared} {a : Addr} {kvs : List (Key × V)} {k : Key} {u : Value} {A : Around} {E : Value → Shared → Prop}

end




section
variable {X : Cx} {o i e value : Expr} {pos pos' tpos : Pos} {td ty tv : TE}
end



section
variable {X : Cx} {pos : Pos}
end


section
variable {X : Cx} {pins : List (Addr × Obj)} {σ : St} {H : Hp} {s : Shared} {a : Addr} {y d : V} {u r : Value} {o : Option V} {A : Around} {E : Value → Shared → Prop}

end

section
variable {X : Cx} {o e f : Expr} {apos cpos : Pos} {td ty tx : TE}
end


section
variable {X : Cx} {pins : List (Addr × Obj)} {σ : St} {H : Hp} {s : Shared} {a : Addr} {kvs : List (Key × V)} {A : Around} {E : Value → Shared → Prop}
end


section
variable {X : Cx} {pins : List (Addr × Obj)} {σ : St} {H : Hp} {s : Shared} {a : Addr} {y : V} {u : Value} {A : Around} {E : Value → Shared → Prop}

end
end L2

namespace L2
open PySem PySem.Spec PyProof.Rows

section
variable {prog : Program} {w : World} {A : Around} {E : Value → Shared → Prop}

end

section
variable {X : Cx}
end
end L2

namespace L2
open PySem PySem.Spec PyProof.Rows

section
variable {X : Cx} {pins : List (Addr × Obj)} {σ : St} {H : Hp} {s : Shared} {h' : Heap}

theorem Inv.turnedL {t' : Nat} {ch : List Addr} (I : Inv X pins σ H s) (k : ∀ b o, b ∉ ch → s.heap.get? b = some o → h'.get? b = some o) (hf : ∀ b ∈ ch, FpOk X pins H b) : Inv X pins σ H { s with heap := h', toks := t' } := by
  have nit : ∀ b u, H b = some u → b ∉ ch := fun b u e z => by
    have q := (hf b z).1
    rw [q] at e; cases e
  refine I.step (g' := s.gens) (d' := s.drawn) (ch := ch) (fun b hb => ⟨(hf b hb).2.2.2.1, (hf b hb).2.1, (hf b hb).2.2.2.2.1, (hf b hb).2.2.2.2.2⟩) (fun b o _ _ hc e _ => k b o hc e) (fun b o _ _ hc e _ => ⟨o.slots, k b o hc e⟩)
    (fun _ _ _ _ n => n) (fun b o hc e => ⟨o, k b o hc e⟩) (fun _ _ e => e) (fun _ _ _ e => e) (fun b ps e => ⟨#[], by rw [e]; simp⟩) (fun m hm => ?_) (fun b u e => ?_) I.bare
  · obtain ⟨o, es, ep, ho, r⟩ := hm
    exact ⟨o, es, ep, k _ o (fun z => (hf _ z).2.1 rfl) ho, r⟩
  · refine (I.hok b u e).stay (fun c v hc q => k c v ?_ q) (fun _ q => q) fun _ _ q => q
    rcases hc with z | z
    · rw [z]; exact nit b u e
    · exact nit c _ z

theorem Inv.turnedNew {t' : Nat} {ch : List Addr} {T : Addr} {ob : HO} (I : Inv X pins σ H s) (k : ∀ b o, b ∉ ch → s.heap.get? b = some o → h'.get? b = some o) (hf : ∀ b ∈ ch, FpOk X pins H b) (hT : s.heap.objs.size ≤ T)
    (new : ObjOk X.prog X.w (upd H T ob) h' T ob) : Inv X pins σ (upd H T ob) { s with heap := h', toks := t' } := by
  have hn : H T = none := I.hok.fresh hT
  have nit : ∀ b u, H b = some u → b ∉ ch := fun b u e z => by
    have q := (hf b z).1
    rw [q] at e; cases e
  refine I.step (g' := s.gens) (d' := s.drawn) (ch := ch) (fun b hb => ⟨(hf b hb).2.2.2.1, (hf b hb).2.1, (hf b hb).2.2.2.2.1, (hf b hb).2.2.2.2.2⟩) (fun b o _ _ hc e _ => k b o hc e) (fun b o _ _ hc e _ => ⟨o.slots, k b o hc e⟩)
    (fun b o _ e n => ?_) (fun b o hc e => ⟨o, k b o hc e⟩) (fun b xs e => ?_) (fun b o u e => ?_) (fun b ps e => ⟨#[], ?_⟩) (fun m hm => ?_) (fun b u e => ?_) I.bare
  · rw [upd_ne (Nat.ne_of_lt (Nat.lt_of_lt_of_le (Heap.lt_size e) hT))]; exact n
  · rw [upd_ne (ne_of_none e hn)]; exact e
  · rw [upd_ne (ne_of_none e hn)]; exact e
  · rw [upd_ne (ne_of_none e hn), e]; simp
  · obtain ⟨o, es, ep, ho, r⟩ := hm
    exact ⟨o, es, ep, k _ o (fun z => (hf _ z).2.1 rfl) ho, r⟩
  · by_cases hb : b = T
    · subst hb
      rw [upd_same] at e
      cases e
      exact new
    · rw [upd_ne hb] at e
      refine (I.hok b u e).stay (fun c v hc q => k c v ?_ q) (fun c q => by rw [upd_ne (ne_of_none q hn)]; exact q) fun c xs q => by rw [upd_ne (ne_of_none q hn)]; exact q
      rcases hc with z | z
      · rw [z]; exact nit b u e
      · exact nit c _ z


end

section
variable {X : Cx}
end



section
variable {X : Cx} {tg : Expr}
end

section
variable {X : Cx} {tg : Expr}
end


section
variable {prog : Program} {w : World} {A : Around} {E : Value → Shared → Prop} {s : Shared}
end


section
variable {X : Cx} {pins : List (Addr × Obj)} {σ : St} {H : Hp} {s : Shared} {d : Addr} {o : Obj}
end


section
variable {P : Program} {w : World} {K : PySem.W.Frag} {tg : Expr} {d : Addr} {o : Obj} {es : Array DictEntry} {ep : Nat}
end



section
variable {X : Cx} {tg e : Expr} {td : TE} {apos cpos : Pos}
end



theorem boot_zip5 : bootBuiltins "zip" = some (.type "zip") := by decide +kernel

end L2

section 
namespace Bits
open PySem PyProof.Rows

end Bits
end 

section 
namespace TL
open PySem PySem.Builtin PySem.Builtin.Str PySem.StrLaws

noncomputable abbrev tl (x : Str) : List Nat := x.cps.toList
theorem len_tl (x : Str) : x.length = (tl x).length := by simp [tl, Str.length]
theorem ext_tl {x y : Str} (h : tl x = tl y) : x = y := Str.ext' (Array.toList_inj.mp h)
theorem tl_append (x y : Str) : tl (x ++ y) = tl x ++ tl y := by
  show (x ++ y).cps.toList = _
  rw [Str.cps_append, Array.toList_append]
noncomputable def pre (S l : List Nat) : Bool := l.take S.length == S

noncomputable def par (S : List Nat) : List Nat → List Nat → Option (List Nat × List Nat)
  | _, [] => none
  | acc, c :: r => if pre S (c :: r) = true then some (acc, (c :: r).drop S.length) else par S (acc ++ [c]) r

noncomputable def joinL (S : List Nat) : List (List Nat) → List Nat
  | [] => []
  | [p] => p
  | p :: q :: r => p ++ (S ++ joinL S (q :: r))
theorem tl_join (y : Str) : ∀ parts : List Str, tl (Str.join y parts) = joinL (tl y) (parts.map tl)
  | [] => rfl
  | [_] => rfl
  | x :: z :: r => by
    show tl (x ++ y ++ Str.join y (z :: r)) = tl x ++ (tl y ++ joinL (tl y) ((z :: r).map tl))
    rw [tl_append, tl_append, tl_join y (z :: r), List.append_assoc]
theorem join_eq (y : Str) (parts : List Str) : Txt.join y parts = Str.join y parts := glued_eq_join y parts

end TL
end 

namespace L2
open PySem PySem.Spec PyProof.Rows

theorem strs_of_vals : ∀ {ys : List Str} {us : List Value}, Vals (ys.map V.str) us → StrsAre us ys
  | [], _, .nil => .nil
  | y :: ys, _, .cons r t => by
    obtain ⟨k, rfl⟩ := r
    exact .cons y k (strs_of_vals t)


section
variable {X : Cx} {pins : List (Addr × Obj)} {σ : St} {H : Hp} {s : Shared} {Q : VK}
end

section
variable {X : Cx}


theorem mt_join : MtR X "str.join" (fun x xs H Q => ∃ a p, ∃ ys : List Str, x = .str a ∧ xs = [.ref p] ∧ (SqL X.K H p (ys.map V.str) ∨ SqT X.K H p (ys.map V.str)) ∧
    (ys.map (·.length)).sum + ys.length * a.length ≤ 16777216 ∧ Q (.str (Txt.join a ys)) H) := by
  constructor
  intro pins s σ H x xs v us Q I rx rs h
  obtain ⟨a, p, ys, rfl, rfl, hp, hz, h⟩ := h
  obtain ⟨t, rfl⟩ := rx
  cases rs with
  | cons r1 rs =>
    cases rs
    cases r1
    rcases hp with hp | hp
    · obtain ⟨its, r, ⟨o, n, ho, hc, _, hd⟩, _⟩ := I.list hp
      exact PyProof.Rows.join_list (items := its.toArray) ⟨o, ho, hc, n, hd⟩ (by rw [List.toList_toArray]; exact strs_of_vals r) hz fun t' k => ⟨.str _, H, I.tok k, ⟨t', rfl⟩, h⟩
    · obtain ⟨its, r, ht, _⟩ := I.tuple hp
      exact PyProof.Rows.join_tuple (items := its.toArray) ht (by rw [List.toList_toArray]; exact strs_of_vals r) hz fun t' k => ⟨.str _, H, I.tok k, ⟨t', rfl⟩, h⟩


end

section
variable {X : Cx} {o e : Expr} {to te : TE}
noncomputable def tM1 (r : V → List V → Hp → VK → Prop) (to te : TE) : TE := fun σ H Q => to σ H fun x H1 => (∃ a, x = .str a) ∧ te σ H1 fun y H2 => r x [y] H2 Q
theorem pe_m1 {id : String} {name : Str} {apos pos : Pos} {r : V → List V → Hp → VK → Prop} (slot : Slot "str" name id) (ty : typeOf (.builtin id) = pure (.type "method_descriptor")) (rule : MtR X id r) (ho : PE X o to) (he : PE X e te)
    (hs : starEach [e] X.env = [(false, eval e X.env)] := by rfl) (hbase : attributeBase o name X.env (eval o X.env) = eval o X.env := by rfl) (hline : (apos.endLine == pos.line) = true := by rfl) :
    PE X (.Call (.Attribute o name apos) [e] [] pos) (tM1 r to te) := by
  constructor
  intro pins s σ H Q I h
  refine PySem.Call_method1 hbase hs hline (thn (ho pins s σ H _ I h) fun v s1 ⟨x, H1, I1, r1, q1⟩ => ?_)
  obtain ⟨⟨a, rfl⟩, q1⟩ := q1
  obtain ⟨t, rfl⟩ := _root_.id r1
  refine ⟨"str", _, F.plainAttrs_str, slot, ty, typeIs_str _ _ _, (fun _ e => nomatch e), Calls.callWith_builtin rfl (Calls.evalArgs_plain (Calls.spliced_cons ?_))⟩
  exact thn (he pins s1 σ H1 _ I1 q1) fun u s2 ⟨y, H2, I2, r2, q2⟩ => Calls.spliced_nil (rule pins s2 σ H2 _ [y] _ [u] Q I2 r1 (.cons r2 .nil) q2)

theorem pe_join {apos pos : Pos} (ho : PE X o to) (he : PE X e te) (hs : starEach [e] X.env = [(false, eval e X.env)] := by rfl) (hbase : attributeBase o "join" X.env (eval o X.env) = eval o X.env := by rfl) (hline : (apos.endLine == pos.line) = true := by rfl) :
    PE X (.Call (.Attribute o "join" apos) [e] [] pos) (tM1 (fun x xs H Q => ∃ a p, ∃ ys : List Str, x = .str a ∧ xs = [.ref p] ∧ (SqL X.K H p (ys.map V.str) ∨ SqT X.K H p (ys.map V.str)) ∧
      (ys.map (·.length)).sum + ys.length * a.length ≤ 16777216 ∧ Q (.str (Txt.join a ys)) H) to te) :=
  pe_m1 F.slot_str_join F.type_str_join mt_join ho he hs hbase hline
end
end L2

namespace L2
open PySem PySem.Spec PyProof.Rows

section
variable {X : Cx}
end


end L2

namespace Att
open PySem PySem.W PySem.Calls PyProof.Rows


theorem ints_of_wellAll {P : Params} {h : Heap} : ∀ (ns : List Int) (vs : List Value), WellAll P h vs (ns.map WData.int) → IntsAre vs ns := by
  intro ns
  induction ns with
  | nil =>
    intro vs w
    rw [List.map_nil] at w
    cases w
    exact .nil
  | cons n ns ih =>
    intro vs w
    rw [List.map_cons] at w
    cases w with
    | cons a b =>
      cases a
      exact .cons _ _ (ih _ b)

theorem script_of {l : OpenLaw} {n : Nat} (hn : l.most = some n) {P : Params} {h : Heap} {args : List WData} {vals : List Value}
    (hpre : l.row.toRowW.claim.pre args = true) (hwl : WellAll P h vals args) :
    ∃ a vs ns, vals = [Value.ref a] ∧ args = [WData.list (ns.map WData.int)] ∧ h.get? a = some { cls := .type "list", data := .seq vs.toArray } ∧ IntsAre vs ns ∧ ns.length ≤ n := by
  have hsh : WShape.hasAll [] args [.list .int] = true := (pre_splitW hpre).1
  have hc : l.pre.holds [] { args := args } = true := (pre_splitW hpre).2
  obtain ⟨d, r, rfl, h1, h2⟩ := hasAllW_cons hsh
  obtain rfl := hasAllW_nil h2
  obtain ⟨xs, rfl, h3⟩ := hasW_list h1
  obtain ⟨ns, rfl⟩ := items_int h3
  have hlen : ns.length ≤ n := by
    unfold OpenLaw.pre at hc
    have h4 : (WTm.not (.lt (.lit (.int (n : Int))) (.len (.arg 0)))).holds [] { args := [.list (ns.map .int)] } = true := by
      have h4 := (holds_andW hc).1
      rw [hn] at h4
      exact h4
    have h5 := condW_of h4 (w_not (w_lt w_lit (w_len_list (w_arg rfl))))
    rw [List.length_map] at h5
    refine Nat.le_of_not_lt fun q => ?_
    have q' : (n : Int) < ((ns.length : Nat) : Int) := by omega
    first
      | (rw [decide_eq_true q'] at h5; exact absurd h5 (by decide))
      | (simp at h5; omega)
  cases hwl with
  | cons w1 w2 =>
    cases w2
    cases w1 with
    | list ho hall => exact ⟨_, _, ns, rfl, rfl, ho, ints_of_wellAll ns _ hall, hlen⟩

theorem post_true (l : OpenLaw) (args : List WData) : l.row.toRowW.claim.post args (.bool true) args = true :=
  postW_of (r := l.row.toRowW) (X := (true == true))
    (show WShape.has [] (.bool true) .bool = true by first | rfl | decide | simp [WShape.has, WShape.arms, WShape.armsAll])
    (show (WTm.eq .res (.lit (.bool true))).value [] { args := args, res := some (.bool true), after := args } = some (.bool (true == true)) from w_eq_bool (w_res rfl) w_lit) rfl


theorem attach_call {l : OpenLaw} {n : Nat} {q : Program} {loose : List Str} {XP : (Str → Option Value) → Heap → Prop} {YP : World → Heap → Prop} {d : DefRec}
    (hn : l.most = some n) (hdf : d.params.defaults = [])
    (call : ∀ (w : World) (s₀ s₁ : Shared) (mg mb : Str → Option Value) (fa : Addr) (o : Obj) (pm cd doc : Value) (a : Addr) (vs : List Value) (ns : List Int),
      Ground q loose [] XP w s₀ mg mb s₁.heap → YP w s₁.heap →
      s₁.heap.get? fa = some o → o.data = .func (docDef d.name d.params d.body d.scope pm cd doc) → s₁.heap.CodeRec cd d.name → mg d.name = some (.ref fa) →
      s₁.heap.get? a = some { cls := .type "list", data := .seq vs.toArray } → IntsAre vs ns → ns.length ≤ n → s₁.gens = #[] →
      codeAny (model l.prog w) callerA (.call (.ref fa) ⟨[.ref a], []⟩) (fun r s' => r = .ok (.ret (.bool true)) ∧ OldK s₁.heap s'.heap ∧ s'.os = s₁.os ∧ AllBare s'.gens) s₁) :
    WalkO q loose XP YP l.row.toRowW d [] (fun f vs => PySem.call f vs) := by
  intro w s₀ s₁ mg mb G Y fa o pm cd doc dV kV ho hd hcd hD hmg hg args vals as hpre hlay hrd hwl hlo
  obtain rfl : dV = .none := Dflts.none hD hdf
  obtain rfl : kV = .none := Dflts.noKw hD
  obtain ⟨a, vs, ns, rfl, rfl, hobj, hints, hlen⟩ := script_of hn hpre hwl
  refine enter_call (codeAny_mono (call w s₀ s₁ mg mb fa o pm cd doc a vs ns G Y ho (fd_plain hd) hcd hmg hobj hints hlen hg) fun r s' hq => ?_)
  obtain ⟨rfl, h2, h3, h4⟩ := hq
  exact ⟨.inl ⟨.bool true, .bool true, [], rfl, fun _ => rfl, .bool true, post_true l _, fun _ => ⟨List.Pairwise.nil, fun _ hm => (nomatch hm)⟩⟩, h2, h3, h4⟩


section
variable {prog : Program} {w : World} {A : Around} {E : Value → Shared → Prop} {s : Shared} {K : Frag}


end
end Att

namespace L2
open PySem PySem.Spec PyProof.Rows

theorem vals_ints : ∀ {vs : List Value} {ns : List Int}, IntsAre vs ns → Vals (ns.map V.int) vs
  | _, _, .nil => .nil
  | _, _, .cons n t h => .cons ⟨t, rfl⟩ (vals_ints h)


noncomputable def Only (H : Hp) : Prop := ∀ b, H b = none ∨ ∃ o xs, H b = some (.frz o (.lst xs))


theorem law_call {P : Program} {w : World} {K : PySem.W.Frag} {mg mb : Str → Option Value} {CX : CXT} {k : Nat} {fa a : Addr} {fd : FuncData} {x : Str} {sp : Sp} {s₁ : Shared} {vs : List Value} {ns : List Int}
    (KX : K.In s₁.heap) (hns : s₁.heap.Ns mainGlobals mg) (hb : s₁.heap.Ns builtinsNs mb) (hbb : ∀ x : Str, x ≠ "__name__" → mb x = bootBuiltins x) (hlim : s₁.heap.NoLimit) (hg : s₁.gens = #[])
    (ha : s₁.heap.get? a = some { cls := .type "list", data := .seq vs.toArray }) (hi : IntsAre vs ns) (hl : ns.length ≤ sizeLine) (hr : Room k callerA)
    (F : ∀ base : Heap, K.In base → base.Ns mainGlobals mg → FnOk P w K mg base CX k fa fd [x] sp) (hbind : ∀ (s : Shared) (u : Value), BindsTo s fd ⟨[u], []⟩ [(x, u)])
    (hsp : ∀ H : Hp, Only H → SqL K H a (ns.map V.int) → sp [.ref a] H (fun v _ => v = .bl true) fun _ _ _ => False)
    (hCX : ∀ H e s', CX [] H s₁ (fun _ _ _ => False) e s' → False) :
    codeAny (model P w) callerA (.call (.ref fa) ⟨[.ref a], []⟩) (fun r s' => r = .ok (.ret (.bool true)) ∧ OldK s₁.heap s'.heap ∧ s'.os = s₁.os ∧ AllBare s'.gens) s₁ := by
  have rv := vals_ints hi
  have lenV := hi.length
  -- from an abstract heap in which nothing but the script may be tracked
  have core : ∀ H : Hp, Only H → SqL K H a (ns.map V.int) → HOk P w H s₁.heap → (∀ b, H b ≠ none → b = a) → (H a ≠ none → K.lookup a = none) →
      codeAny (model P w) callerA (.call (.ref fa) ⟨[.ref a], []⟩) (fun r s' => r = .ok (.ret (.bool true)) ∧ OldK s₁.heap s'.heap ∧ s'.os = s₁.os ∧ AllBare s'.gens) s₁ := by
    intro H hO hS hok hA hK
    have base_of : ∀ {b : Addr} {o : Obj}, s₁.heap.get? b = some o → H b = none → (hidT s₁.heap H).get? b = some o := fun e n => hidT_get e n
    have noA : ∀ {b : Addr} {o : Obj} {es : Array DictEntry} {ep : Nat}, s₁.heap.get? b = some o → o.data = .dict es ep → H b = none := fun {b o es ep} e d => by
      cases q : H b with
      | none => rfl
      | some u =>
        have e' : b = a := hA b (by rw [q]; simp)
        subst e'
        rw [ha] at e; cases e
        have d' : Data.seq vs.toArray _ = Data.dict es ep := d
        cases d'
    have nsK : ∀ {b : Addr} {m : Str → Option Value}, s₁.heap.Ns b m → (hidT s₁.heap H).Ns b m := fun {b m} ⟨o, es, ep, e, d, r⟩ => ⟨o, es, ep, base_of e (noA e d), d, r⟩
    have hKb : K.In (hidT s₁.heap H) := fun b o e => base_of (KX b o e) (by
      cases q : H b with
      | none => rfl
      | some u =>
        have e' : b = a := hA b (by rw [q]; simp)
        subst e'
        rw [hK (by rw [q]; simp)] at e; cases e)
    have hM : Mod K mg (hidT s₁.heap H) := ⟨hKb, nsK hns, ⟨mb, nsK hb, hbb⟩, let ⟨mc, h1, h2⟩ := hlim; ⟨mc, nsK h1, h2⟩⟩
    have e0 : Env0 P w K mg (hidT s₁.heap H) callerA [] s₁ H := ⟨rfl, hM, fun b o e => of_hidT e, Nat.le_of_eq (hidT_size _ _), trivial, fun b hb => absurd (show b ∈ ([] : List Addr) from hb) (by simp), hok, .of_eq hg⟩
    refine codeAny_mono ((F _ hKb (nsK hns)).run callerA [] s₁ H ⟨[.ref a], []⟩ [.ref a] [.ref a] _ _ hr e0 (hbind s₁ (.ref a)) (.cons rfl .nil) (hsp H hO hS)) fun r s' h => ?_
    cases r with
    | error e => exact (hCX H e s' h).elim
    | ok fl =>
      cases fl with
      | next => exact False.elim h
      | brk => exact False.elim h
      | cont => exact False.elim h
      | ret u =>
        obtain ⟨v, H', os, bare, un, hok', r', q⟩ := h
        have q' : v = .bl true := q
        subst q'
        obtain rfl : u = Value.bool true := r'
        refine ⟨rfl, OldK.of_keep fun b o e => ?_, os, bare⟩
        cases q : H b with
        | none => exact un.keep b o e q (by intro z; exact absurd (show b ∈ ([] : List Addr) from z) (by simp)) (by simp)
        | some u =>
          rcases hO b with z | ⟨ob, xs, z⟩
          · rw [q] at z; cases z
          · have z2 := un.frzs b ob _ z
            obtain ⟨e1, _⟩ := hok b _ z
            obtain ⟨e2, _⟩ := hok' b _ z2
            rw [e] at e1; cases e1
            exact e2
  cases hk : K.lookup a with
  | some o =>
    -- the script is one of the module's own objects
    have e := KX a o hk
    rw [ha] at e
    cases e
    refine core (fun _ => none) (fun _ => .inl rfl) (.inr ⟨_, vs.toArray, _, hk, rfl, rfl, rfl, by rw [List.size_toArray, lenV]; exact hl, by simpa using rv⟩) (fun b u z => by have z' : (none : Option HO) = some u := z; cases z') (fun b z => absurd rfl z) fun z => absurd rfl z
  | none =>
    refine core (fun b => if b = a then some (.frz { cls := .type "list", data := .seq vs.toArray } (.lst (ns.map V.int))) else none) (fun b => ?_) (.inl (.inr ⟨{ cls := .type "list", data := .seq vs.toArray }, if_pos rfl⟩)) (fun b u z => ?_) (fun b z => ?_) fun _ => hk
    · by_cases hb : b = a
      · exact .inr ⟨_, _, if_pos hb⟩
      · exact .inl (if_neg hb)
    · by_cases hb : b = a
      · have z' := (if_pos hb).symm.trans z
        cases z'
        subst hb
        exact ⟨ha, by rw [List.length_map]; exact hl, vs, _, rv, ha⟩
      · have z' := (if_neg hb).symm.trans z
        cases z'
    · by_cases hb : b = a
      · exact hb
      · exact absurd (if_neg hb) z
end L2

namespace L2
open PySem PySem.Spec PyProof.Rows

theorem walk_of {l : PySem.W.OpenLaw} {n k : Nat} {q : Program} {loose : List Str} {XP : (Str → Option Value) → Heap → Prop} {YP : World → Heap → Prop} {d : DefRec} {K : Params → PySem.W.Frag} {CX : World → CXT} {sp : World → Sp} {x : Str}
    (hn : l.most = some n) (hn2 : n ≤ sizeLine) (hdf : d.params.defaults = []) (hr : Room k callerA)
    (hY : ∀ (w : World) (h : Heap), YP w h → (K w.params).In h)
    (F : ∀ (w : World) (mg : Str → Option Value) (fa : Addr) (h : Heap), (K w.params).In h → h.Ns mainGlobals mg → mg d.name = some (.ref fa) →
      ∃ fd : FuncData, (∀ (s : Shared) (u : Value), BindsTo s fd ⟨[u], []⟩ [(x, u)]) ∧
        ∀ base : Heap, (K w.params).In base → base.Ns mainGlobals mg → FnOk l.prog w (K w.params) mg base (CX w) k fa fd [x] (sp w))
    (hsp : ∀ (w : World) (H : Hp) (a : Addr) (ns : List Int), ns.length ≤ n → Only H → SqL (K w.params) H a (ns.map V.int) → sp w [.ref a] H (fun v _ => v = .bl true) fun _ _ _ => False)
    (hCX : ∀ (w : World) (H : Hp) (s : Shared) (e : Value) (s' : Shared), CX w [] H s (fun _ _ _ => False) e s' → False) :
    PySem.W.WalkO q loose XP YP l.row.toRowW d [] (fun f vs => PySem.call f vs) := by
  refine Att.attach_call hn hdf fun w s₀ s₁ mg mb fa o pm cd doc a vs ns G Y ho hd hcd hmg hobj hints hlen hg => ?_
  have KX := hY w _ Y
  obtain ⟨fd, hb, hF⟩ := F w mg fa _ KX G.T.g hmg
  exact law_call KX G.T.g G.T.b G.T.builtins G.T.nolimit hg hobj hints (Nat.le_trans hlen hn2) hr hF hb (fun H hO hS => hsp w H a ns hlen hO hS) fun H e s' => hCX w H s₁ e s'

end L2




namespace L2
open PySem PySem.Spec PyProof.Rows



noncomputable def inClass (s : Stmt) (j : Nat) : Stmt := match s with
  | .ClassDef _ _ _ body _ _ _ _ _ _ _ => body.getD j (.Pass ⟨0, 0, 0, 0⟩)
  | _ => .Pass ⟨0, 0, 0, 0⟩
noncomputable def defArgs (s : Stmt) : Arguments := match s with
  | .FunctionDef _ a _ _ _ _ _ _ _ _ => a
  | _ => { posonlyargs := [], args := [], vararg := none, kwonlyargs := [], kw_defaults := [], kwarg := none, defaults := [] }
noncomputable def defBody (s : Stmt) : List Stmt := match s with
  | .FunctionDef _ _ b _ _ _ _ _ _ _ => b
  | _ => []
noncomputable def defScope (s : Stmt) : Scope := match s with
  | .FunctionDef _ _ _ _ _ _ sc _ _ _ => sc
  | _ => { kind := .function, names := [], isGenerator := false, isCoroutine := false }


noncomputable abbrev CX0 : CXT := fun _ _ _ _ _ _ => False
noncomputable abbrev E0 : XK := fun _ _ _ => False
theorem pass0 {X : Cx} : Passes CX0 X E0 := fun _ _ _ _ _ _ _ h => h.elim


structure Fun (K : PySem.W.Frag) (x qual : Str) (st : Stmt) (f : Addr) (fd : FuncData) : Prop where
  ex : ∃ (oc : Value) (od : Option Addr) (kV doc pm : Value) (an : Option Addr) (cdv ct : Value) (osl : Array (Option Value)),
    fd = PySem.W.fnOf x qual (defArgs st) (defBody st) (defScope st) .none kV doc pm an cdv ct ∧ K.lookup f = some ⟨oc, od, .func fd, osl⟩ ∧ PySem.W.codeIn K cdv qual = true
  kp : PySem.W.keepIn K (.ref f) = true
section
variable {P : Program} {w : World} {K : PySem.W.Frag} {mg : Str → Option Value} {base : Heap}

theorem Fun.ok {x qual : Str} {st : Stmt} {f : Addr} {fd : FuncData} {N ps : List Str} {k : Nat} {sp : Sp} (F : Fun K x qual st f fd) (S : FnScope N ps (defScope st)) (len : ∀ vs H Q E, sp vs H Q E → vs.length = ps.length)
    (hbody : ∀ (cdv : Value) (A : Around) (outer : List Env) (s : Shared) (H : Hp) (vs : List V) (Q : VK) (E : XK), Room k (A.deeper (envOfC qual (defScope st) s.heap.objs.size f cdv)) → sp vs H Q E →
      ∃ t, PSs (cxOf CX0 P w K mg base N qual (defScope st) f cdv A outer s H E).nox (defBody st) t ∧ t { nx := fun _ H' => Q .non H', rt := Q } (start N vs) H) : FnOk P w K mg base CX0 (k + 1) f fd ps sp := by
  obtain ⟨oc, od, kV, doc, pm, an, cdv, ct, osl, rfl, lk, hcd⟩ := F.ex
  refine fn_of lk hcd S len fun A outer s H vs Q E hr hsp => ?_
  obtain ⟨t, h, q⟩ := hbody cdv A outer s H vs Q E hr hsp
  exact ⟨t, h.nox, q⟩

theorem Fun.binds {x qual : Str} {st : Stmt} {f : Addr} {fd : FuncData} {ps : List Str} (F : Fun K x qual st f fd)
    (h : ∀ (kV doc pm : Value) (an : Option Addr) (cdv ct : Value) (us : List Value), us.length = ps.length → bindArgs (PySem.W.fnOf x qual (defArgs st) (defBody st) (defScope st) .none kV doc pm an cdv ct) ⟨us, []⟩ = pure (ps.zip us)) : Binds K fd ps [] := by
  obtain ⟨oc, od, kV, doc, pm, an, cdv, ct, osl, rfl, lk, hcd⟩ := F.ex
  exact .all (h kV doc pm an cdv ct)
theorem fun_mk {x qual : Str} {st : Stmt} {f : Addr} {oc : Value} {od an : Option Addr} {osl : Array (Option Value)} {kV doc pm cdv ct : Value} (l : K.lookup f = some ⟨oc, od, .func (PySem.W.fnOf x qual (defArgs st) (defBody st) (defScope st) .none kV doc pm an cdv ct), osl⟩)
    (c : PySem.W.codeIn K cdv qual = true) (k : PySem.W.keepIn K (.ref f) = true) : Fun K x qual st f (PySem.W.fnOf x qual (defArgs st) (defBody st) (defScope st) .none kV doc pm an cdv ct) := ⟨⟨oc, od, kV, doc, pm, an, cdv, ct, osl, rfl, l, c⟩, k⟩
end
section
variable {X : Cx}
theorem pv (i : Nat) {x : Str} {pos : Pos} (hN : X.N[i]? = some x := by rfl) (hv : Vis X.env.scope x := by first | exact Or.inl rfl | exact Or.inr (Or.inl rfl) | exact Or.inr (Or.inr rfl)) (hd : (x == ("__debug__" : Str)) = false := by decide)
    (hcd : (x == ("__classdict__" : Str)) = false := by decide) : PE X (.Name x pos) (tVar i) := pe_var hN hv hd hcd

end


theorem iteF {A B : Prop} (h : B) : if false = true then A else B := by
  rw [if_neg Bool.false_ne_true]
  exact h
theorem iteT {A B : Prop} (h : A) : if true = true then A else B := by
  rw [if_pos rfl]
  exact h
theorem ite2 {c A B : Prop} [Decidable c] (h1 : c → A) (h2 : ¬ c → B) : if c then A else B := by
  by_cases h : c
  · rw [if_pos h]
    exact h1 h
  · rw [if_neg h]
    exact h2 h
noncomputable def Same (H H' : Hp) : Prop := ∀ b o, H b = some o → H' b = some o
theorem Same.refl (H : Hp) : Same H H := fun _ _ h => h
theorem Same.trans {H H1 H2 : Hp} (a : Same H H1) (b : Same H1 H2) : Same H H2 := fun c o h => b c o (a c o h)
theorem Same.free {H H' : Hp} (e : Same H H') {l : Addr} (h : H' l = Option.none) : H l = Option.none := by
  cases q : H l with
  | none => rfl
  | some o =>
    rw [e l o q] at h
    cases h
theorem Same.seq {K : PySem.W.Frag} {H H' : Hp} {a : Addr} {xs : List V} (e : Same H H') (h : SqL K H a xs) : SqL K H' a xs := by
  rcases h with (h | ⟨o, h⟩) | h
  · exact .inl (.inl (e _ _ h))
  · exact .inl (.inr ⟨o, e _ _ h⟩)
  · exact .inr h


section
variable {κ : Type} [DecidableEq κ]
end

theorem Same.made {H H1 : Hp} {x dx C : Addr} (nx : H x = Option.none) (nd : H dx = Option.none) (k : ∀ b o, (upd (upd H dx (.own x)) x (.ins C dx [])) b = some o → b ≠ x → H1 b = some o) : Same H H1 := fun b o e =>
  k b o (by rw [upd_ne (ne_of_none e nx), upd_ne (ne_of_none e nd)]; exact e) (ne_of_none e nx)
end L2

set_option Elab.async false
set_option linter.all false
set_option maxRecDepth 100000

namespace L2
open PySem PySem.Spec PyProof.Rows
section
variable {X : Cx}

noncomputable def rIsI (K : PySem.W.Frag) : List V → Hp → VK → Prop := fun vs H Q => ∃ x n t b, vs = [x, .ty n] ∧ TyOf K H x t ∧ PySem.W.kitOne K t (.type n) = some b ∧ Q (.bl b) H
theorem call_isinst : CallR X (.builtin "isinstance") (rIsI X.K) := by
  constructor
  intro pins s σ H xs us Q I r h
  obtain ⟨x, n, t, b, rfl, ty, e, q⟩ := h
  cases r with
  | cons r1 rr =>
    cases rr with
    | cons r2 rr =>
      cases rr
      cases r2
      exact isinst_ok I r1 ty e fun tk => ⟨.bl b, H, I.tok tk, rfl, q⟩

end


theorem bt_len : bootBuiltins "len" = some (.builtin "len") := by decide +kernel
theorem bt_abs : bootBuiltins "abs" = some (.builtin "abs") := by decide +kernel
theorem bt_max : bootBuiltins "max" = some (.builtin "max") := by decide +kernel
theorem bt_min : bootBuiltins "min" = some (.builtin "min") := by decide +kernel
theorem bt_isinstance : bootBuiltins "isinstance" = some (.builtin "isinstance") := by decide +kernel
theorem bt_all : bootBuiltins "all" = some (.builtin "all") := by decide +kernel
theorem bt_any : bootBuiltins "any" = some (.builtin "any") := by decide +kernel
theorem bt_repr : bootBuiltins "repr" = some (.builtin "repr") := by decide +kernel
theorem bt_int : bootBuiltins "int" = some (.type "int") := by decide +kernel
theorem bt_str : bootBuiltins "str" = some (.type "str") := by decide +kernel
theorem bt_bool : bootBuiltins "bool" = some (.type "bool") := by decide +kernel
theorem bt_list : bootBuiltins "list" = some (.type "list") := by decide +kernel
theorem bt_tuple : bootBuiltins "tuple" = some (.type "tuple") := by decide +kernel
end L2

set_option Elab.async false
set_option linter.all false
set_option maxRecDepth 100000

namespace My
open PySem PySem.Spec PyProof.Rows L2


structure Def (K : PySem.W.Frag) (mg : Str → Option Value) (x : Str) (st : Stmt) (fa : Addr) (fd : FuncData) : Prop where
  mg : mg x = some (.ref fa)
  fn : Fun K x x st fa fd


theorem same_new {H : Hp} {p : Addr} {o : HO} (h : H p = none) : Same H (upd H p o) := fun b u e => by
  rw [upd_ne (ne_of_none e h)]; exact e
noncomputable def Bag (H : Hp) (b : Addr) : Prop := ∃ g x : Int, H b = some (.lst [.int g, .int x]) ∧ 0 ≤ g ∧ 0 ≤ x ∧ x < 2147483648

noncomputable def Eff (b : Addr) (H H' : Hp) : Prop := Bag H' b ∧ ∀ c o, c ≠ b → H c = some o → H' c = some o
theorem Bag.same {H H' : Hp} {b : Addr} (h : Bag H b) (s : Same H H') : Bag H' b := by
  obtain ⟨g, x, e, r⟩ := h
  exact ⟨g, x, s _ _ e, r⟩
theorem Bag.eff {H : Hp} {b : Addr} (h : Bag H b) {H' : Hp} (s : Same H H') : Eff b H H' := ⟨h.same s, fun c o _ e => s c o e⟩
theorem Eff.trans {H H1 H2 : Hp} {b : Addr} (h : Eff b H H1) (h' : Eff b H1 H2) : Eff b H H2 := ⟨h'.1, fun c o n e => h'.2 c o n (h.2 c o n e)⟩
theorem Eff.same {H H1 H2 : Hp} {b : Addr} (h : Eff b H H1) (s : Same H1 H2) : Eff b H H2 := h.trans (h.1.eff s)
theorem Bag.ne {H : Hp} {b p : Addr} (h : Bag H b) (e : H p = none) : b ≠ p := by
  obtain ⟨g, x, e1, _⟩ := h
  exact ne_of_none e1 e
noncomputable def Tyd (H : Hp) : V → Prop
  | .non => True
  | .bl _ => True
  | .int _ => True
  | .str s => s.length ≤ 1000
  | .ref a => (∃ xs, H a = some (.lst xs)) ∨ (∃ xs, H a = some (.tup xs))
  | _ => False
theorem Tyd.same {H H' : Hp} {v : V} (h : Tyd H v) (s : Same H H') : Tyd H' v := by
  cases v with
  | ref a =>
    rcases h with ⟨xs, e⟩ | ⟨xs, e⟩
    · exact .inl ⟨xs, s _ _ e⟩
    · exact .inr ⟨xs, s _ _ e⟩
  | _ => exact h
noncomputable def tyN (H : Hp) : V → String
  | .non => "NoneType"
  | .bl _ => "bool"
  | .int _ => "int"
  | .str _ => "str"
  | .ref a => match H a with
    | some (.lst _) => "list"
    | _ => "tuple"
  | _ => ""
theorem Tyd.ty {K : PySem.W.Frag} {H : Hp} {v : V} (h : Tyd H v) : TyOf K H v (.type (tyN H v)) := by
  cases v with
  | ref a =>
    rcases h with ⟨xs, e⟩ | ⟨xs, e⟩
    · have z : tyN H (.ref a) = "list" := by show (match H a with | some (.lst _) => "list" | _ => "tuple") = _; rw [e]
      rw [z]; exact .lst e
    · have z : tyN H (.ref a) = "tuple" := by show (match H a with | some (.lst _) => "list" | _ => "tuple") = _; rw [e]
      rw [z]; exact .tup e
  | non => exact .non
  | bl b => exact .bl b
  | int i => exact .int i
  | str x => exact .str x
  | byt _ => exact h.elim
  | flt _ => exact h.elim
  | ty _ => exact h.elim


noncomputable def instB (H : Hp) (v : V) (n : String) : Bool := decide (tyN H v = n) || (decide (n = "int") && decide (tyN H v = "bool"))
noncomputable def okTy (n : String) : Bool := decide (n = "int") || decide (n = "bool") || decide (n = "str") || decide (n = "list") || decide (n = "tuple")
theorem kit_T (K : PySem.W.Frag) {H : Hp} {v : V} (h : Tyd H v) {n : String} (hn : okTy n = true) : PySem.W.kitOne K (.type (tyN H v)) (.type n) = some (instB H v n) := by
  have hv : tyN H v = "NoneType" ∨ tyN H v = "bool" ∨ tyN H v = "int" ∨ tyN H v = "str" ∨ tyN H v = "list" ∨ tyN H v = "tuple" := by
    cases v with
    | ref a =>
      rcases h with ⟨xs, e⟩ | ⟨xs, e⟩
      · have z : tyN H (.ref a) = "list" := by show (match H a with | some (.lst _) => "list" | _ => "tuple") = _; rw [e]
        simp [z]
      · have z : tyN H (.ref a) = "tuple" := by show (match H a with | some (.lst _) => "list" | _ => "tuple") = _; rw [e]
        simp [z]
    | non => exact .inl rfl
    | bl b => exact .inr (.inl rfl)
    | int i => exact .inr (.inr (.inl rfl))
    | str x => exact .inr (.inr (.inr (.inl rfl)))
    | byt _ => exact h.elim
    | flt _ => exact h.elim
    | ty _ => exact h.elim
  have hn' : n = "int" ∨ n = "bool" ∨ n = "str" ∨ n = "list" ∨ n = "tuple" := by
    simp only [okTy, Bool.or_eq_true, decide_eq_true_eq] at hn
    rcases hn with (((h | h) | h) | h) | h
    · exact .inl h
    · exact .inr (.inl h)
    · exact .inr (.inr (.inl h))
    · exact .inr (.inr (.inr (.inl h)))
    · exact .inr (.inr (.inr (.inr h)))
  unfold instB
  rcases hv with e | e | e | e | e | e <;> rw [e] <;> rcases hn' with rfl | rfl | rfl | rfl | rfl <;> rfl
noncomputable def rIsT : List V → Hp → VK → Prop := fun vs H Q => ∃ x n, vs = [x, .ty n] ∧ Tyd H x ∧ okTy n = true ∧ Q (.bl (instB H x n)) H
theorem call_isT {X : Cx} : CallR X (.builtin "isinstance") rIsT := by
  constructor
  intro pins s σ H xs us Q I r h
  obtain ⟨x, n, rfl, ty, hn, q⟩ := h
  exact call_isinst pins s σ H _ us Q I r ⟨x, n, _, _, rfl, ty.ty, kit_T _ ty hn, q⟩
theorem instB_ref {H : Hp} {a : Addr} {n : String} (h : Tyd H (.ref a)) (h1 : n ≠ "list") (h2 : n ≠ "tuple") : instB H (.ref a) n = false := by
  unfold instB
  rcases h with ⟨xs, e⟩ | ⟨xs, e⟩
  · have z : tyN H (.ref a) = "list" := by show (match H a with | some (.lst _) => "list" | _ => "tuple") = _; rw [e]
    rw [z, decide_eq_false (Ne.symm h1), decide_eq_false (show ¬ ("list" = "bool") by decide)]; simp
  · have z : tyN H (.ref a) = "tuple" := by show (match H a with | some (.lst _) => "list" | _ => "tuple") = _; rw [e]
    rw [z, decide_eq_false (Ne.symm h2), decide_eq_false (show ¬ ("tuple" = "bool") by decide)]; simp
noncomputable def wholeV : V → Bool
  | .int _ => true
  | _ => false
theorem inst_int {H : Hp} {v : V} (h : Tyd H v) : (∃ i, v = .int i ∧ instB H v "int" = true ∧ instB H v "bool" = false) ∨ (∃ b, v = .bl b ∧ instB H v "int" = true ∧ instB H v "bool" = true) ∨ (instB H v "int" = false ∧ instB H v "bool" = false ∧ wholeV v = false) := by
  cases v with
  | int i => exact .inl ⟨i, rfl, rfl, rfl⟩
  | bl i => exact .inr (.inl ⟨i, rfl, rfl, rfl⟩)
  | ref a => exact .inr (.inr ⟨instB_ref h (by decide) (by decide), instB_ref h (by decide) (by decide), rfl⟩)
  | byt _ => exact h.elim
  | flt _ => exact h.elim
  | ty _ => exact h.elim
  | _ => exact .inr (.inr ⟨rfl, rfl, rfl⟩)


theorem at_all {xs : List V} (P : V → Prop) (h : ∀ x ∈ xs, P x) {i : Int} (h0 : 0 ≤ i) (h1 : i < (xs.length : Int)) : ∃ v, atI xs i = some v ∧ P v := by
  have hl : i.toNat < xs.length := by omega
  have e : xs[i.toNat]? = some xs[i.toNat] := by simp [hl]
  refine ⟨xs[i.toNat], ?_, h _ (List.getElem_mem _)⟩
  have q := atI_nat e
  have z : ((i.toNat : Nat) : Int) = i := by omega
  rw [z] at q
  exact q


structure WordS (z : Str) : Prop where
  lo : 1 ≤ z.length
  hi : z.length ≤ 8
  all : ∀ c ∈ z.cps.toList, 97 ≤ c ∧ c ≤ 122
end My
namespace My
open PySem PySem.Spec PyProof.Rows L2
end My
namespace My
open PySem PySem.Spec PyProof.Rows L2
theorem at_int {ns : List Int} {k : Int} (h0 : 0 ≤ k) (h1 : k < (ns.length : Int)) : ∃ c, atI (ns.map V.int) k = some (.int c) := by
  obtain ⟨v, e, c, rfl⟩ := at_all (xs := ns.map V.int) (fun v => ∃ c, v = .int c) (fun x hx => by obtain ⟨c, _, rfl⟩ := List.mem_map.mp hx; exact ⟨c, rfl⟩) h0 (by rw [List.length_map]; exact h1)
  exact ⟨c, e⟩
end My
namespace My
open PySem PySem.Spec PyProof.Rows L2
end My
namespace My
open PySem PySem.Spec PyProof.Rows L2
noncomputable def sp_is_whole : Sp := fun vs H Q _ => ∃ v, vs = [v] ∧ Tyd H v ∧ Q (.bl (wholeV v)) H
end My
namespace My
open PySem PySem.Spec PyProof.Rows L2

end My

set_option Elab.async false
set_option linter.all false
set_option maxRecDepth 100000

namespace L2
open PySem PySem.Spec PyProof.Rows
open PySem.MeetsSeq PySem.MeetsSeq2 PySem.MeetsSeq3
section
variable {X : Cx}
theorem same_push {H : Hp} {p : Addr} {o : HO} (h : H p = none) : Same H (upd H p o) := fun b u e => by
  rw [upd_ne (ne_of_none e h)]; exact e

section
variable {CX : CXT} {k : Nat} {f C : Addr} {fd : FuncData} {ps ks : List Str} {sp : Sp} {E : XK} {x m : Str} {p pos apos kpos : Pos} {kws : List Keyword} {tk : TA} {g : List Value → List Value → List Value} {gV : List V → List V → List V}

end


theorem ix_listK {K : PySem.W.Frag} (h : X.K = K := by rfl) : IxR X (rIxL K) := by subst h; exact ix_list
theorem op_eqDK {K : PySem.W.Frag} (hu : X.A.units + 64 < cLine) (h : X.K = K := by rfl) : OpR X (compareOp .Eq) (rEqD K) := by subst h; exact op_eqD hu
theorem op_neDK {K : PySem.W.Frag} (hu : X.A.units + 64 < cLine) (h : X.K = K := by rfl) : OpR X (compareOp .NotEq) (rNeD K) := by subst h; exact op_neD hu
end
end L2

set_option Elab.async false
set_option linter.all false
set_option maxRecDepth 100000

namespace L2
open PySem PySem.Spec PyProof.Rows
section
variable {prog : Program} {w : World} {A : Around} {E : Value → Shared → Prop} {s : Shared}

theorem nx_tup {it t : Addr} {i : Nat} {items : Array Value} {x : Value} {Q : Value → Shared → Prop} (hit : s.heap.IsTupleIter it t i) (ht : s.heap.IsTuple t items) (hx : items[i]? = some x)
    (hQ : ∀ h', h'.IsTupleIter it t (i + 1) → Heap.SameBut it s.heap h' → Q x { s with heap := h' }) : wpAny (model prog w) A (Builtin.SmallTypes.nextOf (.ref it)) Q E s := by
  obtain ⟨o, ho, hc, hd⟩ := id hit
  obtain ⟨ol, hol, _, nl, hdl⟩ := ht
  unfold Builtin.SmallTypes.nextOf
  refine wpAny_bind (wpAny_callSpecial?_slot (name := Str.ofString "__next__") hit.typeIs F.slot_tuple_iterator_next (wpAny_call_entry F.slot_tuple_iterator_next hit.typeIs F.entry_tuple_iterator_next ?_ (F.args_tuple_iterator_next_1 _)))
  show wpAny _ _ (field (.ref it) 0 >>= _) _ _ s; refine wpAny_bind (wpAny_field ho hd (x := .ref t) rfl ?_)
  show wpAny _ _ (if (Value.ref t == Value.none) = true then _ else _) _ _ s; rw [if_neg (show ¬ ((Value.ref t == Value.none) = true) from Bool.false_ne_true)]
  show wpAny _ _ (field (.ref it) 1 >>= _) _ _ s; refine wpAny_bind (wpAny_field ho hd (x := .int i 0) rfl ?_)
  show wpAny _ _ (seqItems? (.ref t) >>= _) _ _ s; refine wpAny_bind (wpAny_seqItems hol hdl ?_)
  simp only [Int.toNat_natCast, hx]; refine wpAny_bind (wpAny_setField ho hd (by simp) (wpAny_pure ⟨x, rfl, wpAny_pure (hQ _ ?_ (Heap.SameBut.update ..))⟩))
  exact ⟨_, Heap.get?_update_self _ ho (Obj.isFreed_of_fields (Obj.data_mapFields hd _)), (Obj.cls_mapFields ..).trans hc, by rw [Obj.data_mapFields hd]; simp [rawInt]⟩
theorem nx_tup_end {it t : Addr} {i : Nat} {items : Array Value} {Q : Value → Shared → Prop} (hh : A.handled = none) (hit : s.heap.IsTupleIter it t i) (ht : s.heap.IsTuple t items) (hx : items[i]? = none)
    (hE : ∀ h' e, Heap.ExtBut it s.heap h' → (∃ o, h'.get? e = some o ∧ o.cls = .type "StopIteration") → E (.ref e) { s with heap := h' }) : wpAny (model prog w) A (Builtin.SmallTypes.nextOf (.ref it)) Q E s := by
  obtain ⟨o, ho, hc, hd⟩ := id hit
  obtain ⟨ol, hol, _, nl, hdl⟩ := ht
  unfold Builtin.SmallTypes.nextOf
  refine wpAny_bind (wpAny_callSpecial?_slot (name := Str.ofString "__next__") hit.typeIs F.slot_tuple_iterator_next (wpAny_call_entry F.slot_tuple_iterator_next hit.typeIs F.entry_tuple_iterator_next ?_ (F.args_tuple_iterator_next_1 _)))
  show wpAny _ _ (field (.ref it) 0 >>= _) _ _ s; refine wpAny_bind (wpAny_field ho hd (x := .ref t) rfl ?_)
  show wpAny _ _ (if (Value.ref t == Value.none) = true then _ else _) _ _ s; rw [if_neg (show ¬ ((Value.ref t == Value.none) = true) from Bool.false_ne_true)]
  show wpAny _ _ (field (.ref it) 1 >>= _) _ _ s; refine wpAny_bind (wpAny_field ho hd (x := .int i 0) rfl ?_)
  show wpAny _ _ (seqItems? (.ref t) >>= _) _ _ s; refine wpAny_bind (wpAny_seqItems hol hdl ?_)
  simp only [Int.toNat_natCast, hx]; refine wpAny_bind (wpAny_rule (wpAny_bind (wpAny_setField ho hd (by simp) ?_)))
  show wpAny _ _ (newExc (.type "StopIteration") [] >>= _) _ _ _; refine wpAny_bind ?_
  simp only [newExc, newTuple]; refine wpAny_bind (wpAny_newObj_type ?_ (by size_fits))
  refine wpAny_bind (m := firstArgMember _ _) (wpAny_of_eq (a := Value.none) (by first | rfl | (simp only [firstArgMember]; rfl)) ?_); refine wpAny_newObj_type ?_ (by size_fits)
  simp only [raiseNew]; refine wpAny_bind (wpAny_handled ?_)
  first | rw [show A.in1.handled = none from hh] | rw [hh]
  refine wpAny_bind (wpAny_pure (wpAny_throw ?_)); exact hE _ _ (((Heap.SameBut.update ..).extBut.push _).push _) ⟨_, Heap.get?_push_size _ rfl, rfl⟩


noncomputable abbrev Src := Bool × Addr
noncomputable def SIt (h : Heap) (it : Addr) (c : Src) (k : Nat) : Prop := match c.1 with
  | true => h.IsListIter it c.2 k
  | false => h.IsTupleIter it c.2 k
noncomputable def SSq (h : Heap) (c : Src) (xs : Array Value) : Prop := match c.1 with
  | true => h.IsList c.2 xs
  | false => h.IsTuple c.2 xs
theorem SIt.obj {h : Heap} {it : Addr} {c : Src} {k : Nat} (p : SIt h it c k) : ∃ o, h.get? it = some o ∧ ∀ v, o.data ≠ .cell v := by
  obtain ⟨b, a⟩ := c
  cases b <;> (obtain ⟨o, e, _, d⟩ := p; exact ⟨o, e, fun v q => by rw [d] at q; cases q⟩)
theorem SIt.at {h h' : Heap} {it : Addr} {c : Src} {k : Nat} (p : SIt h it c k) (q : ∀ o, h.get? it = some o → h'.get? it = some o) : SIt h' it c k := by
  obtain ⟨b, a⟩ := c
  cases b
  · exact Heap.IsTupleIter.at (show h.IsTupleIter it a k from p) q
  · exact Heap.IsListIter.at (show h.IsListIter it a k from p) q
theorem SSq.at {h h' : Heap} {c : Src} {xs : Array Value} (p : SSq h c xs) (q : ∀ o, h.get? c.2 = some o → h'.get? c.2 = some o) : SSq h' c xs := by
  obtain ⟨b, a⟩ := c
  cases b
  · obtain ⟨o, e, r⟩ := (show h.IsTuple a xs from p); exact ⟨o, q o e, r⟩
  · obtain ⟨o, e, r⟩ := (show h.IsList a xs from p); exact ⟨o, q o e, r⟩
theorem SSq.lt {h : Heap} {c : Src} {xs : Array Value} (p : SSq h c xs) : c.2 < h.objs.size := by
  obtain ⟨b, a⟩ := c
  cases b <;> (obtain ⟨o, e, _⟩ := p; exact Heap.lt_size e)
theorem nx_item {it : Addr} {c : Src} {i : Nat} {items : Array Value} {x : Value} {Q : Value → Shared → Prop} (hit : SIt s.heap it c i) (ht : SSq s.heap c items) (hx : items[i]? = some x)
    (hQ : ∀ h', SIt h' it c (i + 1) → Heap.SameBut it s.heap h' → Q x { s with heap := h' }) : wpAny (model prog w) A (Builtin.SmallTypes.nextOf (.ref it)) Q E s := by
  obtain ⟨b, a⟩ := c
  cases b
  · exact nx_tup hit ht hx hQ
  · exact wpAny_nextOf_list_item hit ht hx hQ
theorem nx_end {it : Addr} {c : Src} {i : Nat} {items : Array Value} {Q : Value → Shared → Prop} (hh : A.handled = none) (hit : SIt s.heap it c i) (ht : SSq s.heap c items) (hx : items[i]? = none)
    (hE : ∀ h' e, Heap.ExtBut it s.heap h' → (∃ o, h'.get? e = some o ∧ o.cls = .type "StopIteration") → E (.ref e) { s with heap := h' }) : wpAny (model prog w) A (Builtin.SmallTypes.nextOf (.ref it)) Q E s := by
  obtain ⟨b, a⟩ := c
  cases b
  · exact nx_tup_end hh hit ht hx hE
  · exact wpAny_nextOf_list_end hh hit ht hx hE

theorem SSq.but {h h' : Heap} {c : Src} {xs : Array Value} {x : Addr} (p : SSq h c xs) (q : Heap.ExtBut x h h') (n : c.2 ≠ x) : SSq h' c xs := p.at fun o e => q _ _ n e
theorem SIt.but {h h' : Heap} {it x : Addr} {c : Src} {k : Nat} (p : SIt h it c k) (q : Heap.ExtBut x h h') (n : it ≠ x) : SIt h' it c k := p.at fun o e => q _ _ n e
theorem SIt.lt {h : Heap} {it : Addr} {c : Src} {k : Nat} (p : SIt h it c k) : it < h.objs.size := let ⟨_, e, _⟩ := p.obj; Heap.lt_size e

theorem z2_open {z TI TO i1 i2 : Addr} {Q : Fin → Shared → Prop} (hz : IsZip s.heap z TI TO .none) (hTI : IsPair s.heap TI (.ref i1) (.ref i2)) {a b : Value} (hTO : IsPair s.heap TO a b) {c1 c2 : Src} {k : Nat} {xs ys : Array Value}
    (D : ZipApart z TI TO i1 i2 c1.2 c2.2) (h1 : SIt s.heap i1 c1 k) (h2 : SIt s.heap i2 c2 k) (hl1 : SSq s.heap c1 xs) (hl2 : SSq s.heap c2 ys)
    (hi : ∀ x y h', xs[k]? = some x → ys[k]? = some y → IsZip h' z TI TO (rawInt s.heap.objs.size) → IsPair h' TO x y → SIt h' i1 c1 (k + 1) → SIt h' i2 c2 (k + 1) → IsPair h' s.heap.objs.size x y → h'.objs.size = s.heap.objs.size + 1 →
      (∀ c o, c ≠ z → c ≠ TO → c ≠ i1 → c ≠ i2 → s.heap.get? c = some o → h'.get? c = some o) → Q (.done (.ret (.ref s.heap.objs.size))) { s with heap := h' })
    (he : xs[k]? = none ∨ ys[k]? = none → A.handled = none ∧ ∀ h' e, (∀ c o, c ≠ z → c ≠ TO → c ≠ i1 → c ≠ i2 → s.heap.get? c = some o → h'.get? c = some o) → (∃ o, h'.get? e = some o ∧ o.cls = .type "StopIteration") → E (.ref e) { s with heap := h' }) :
    wpAny (model prog w) A (Builtin.«zip.__next__» ⟨[.ref z], []⟩) Q E s := by
  show wpAny _ _ (field (.ref z) 2 >>= _) _ _ _; refine wpAny_bind (wpAny_field hz rfl (x := .bool false) rfl ?_)
  show wpAny _ _ (field (.ref z) 3 >>= _) _ _ _; refine wpAny_bind (wpAny_field hz rfl (x := .ref TI) rfl (wpAny_bind (wpAny_seqItems hTI rfl ?_)))
  show wpAny _ _ (Builtin.SmallTypes.ownedTupleIsFree (.ref z) >>= _) _ _ _; refine wpAny_bind ?_; unfold Builtin.SmallTypes.ownedTupleIsFree
  refine wpAny_bind (wpAny_field hz rfl (x := .none) rfl (wpAny_pure ?_)); simp only [if_true]
  refine wpAny_bind (wpAny_rule (wpAny_bind (wpAny_field hz rfl (x := .ref TO) rfl (wpAny_bind (wpAny_setField_rec hz (by simp) fun g1 hz1 s1 => ?_)))))
  replace hz1 : IsZip g1 z TI TO .ellipsis := hz1
  refine wpAny_bind ?_; simp only [List.zipIdx_cons, List.zipIdx_nil, List.forIn_cons, List.forIn_nil]
  refine wpAny_bind (wpAny_bind (wpAny_onRaise ?_)); show wpAny _ _ (Builtin.SmallTypes.nextOf (.ref i1) >>= _) _ _ _
  cases hx : xs[k]? with
  | none =>
    obtain ⟨hh, he⟩ := he (.inl hx)
    refine wpAny_bind (nx_end hh (h1.but s1.extBut D.i1z) (hl1.but s1.extBut D.l1z) hx fun g2 e s2 q => ?_)
    obtain ⟨oe, hoe, hce⟩ := q
    have hz2 : IsZip g2 z TI TO .ellipsis := s2 _ _ D.i1z.symm hz1
    have hez : e ≠ z := fun x => by subst x; rw [hz2] at hoe; cases hoe; simp at hce
    exact wpAny_setField_rec hz2 (by simp) fun g3 _ s3 => he g3 e (fun c o c1 _ c3 _ x => s3.extBut _ _ c1 (s2 _ _ c3 (s1.extBut _ _ c1 x))) ⟨oe, s3.extBut _ _ hez hoe, hce⟩
  | some x =>
    refine wpAny_bind (nx_item (h1.but s1.extBut D.i1z) (hl1.but s1.extBut D.l1z) hx fun g2 h12 s2 => wpAny_pure ?_)
    have hTO2 : IsPair g2 TO a b := s2.extBut _ _ D.TOi1 (s1.extBut _ _ D.TOz hTO)
    refine wpAny_bind (wpAny_seqItems hTO2 rfl (wpAny_bind (wpAny_updateSeq_pair hTO2 fun g3 hTO3 s3 => wpAny_bind (wpAny_letGo (wpAny_pure ?_)))))
    replace hTO3 : IsPair g3 TO x b := hTO3
    have k2 : SIt g3 i2 c2 k := ((h2.but s1.extBut D.i2z).but s2.extBut D.i12.symm).but s3.extBut D.TOi2.symm
    have l2 : SSq g3 c2 ys := ((hl2.but s1.extBut D.l2z).but s2.extBut D.l2i1).but s3.extBut D.l2TO
    have hz3 : IsZip g3 z TI TO .ellipsis := s3.extBut _ _ D.TOz.symm (s2.extBut _ _ D.i1z.symm hz1)
    refine wpAny_bind (wpAny_bind (wpAny_onRaise ?_)); show wpAny _ _ (Builtin.SmallTypes.nextOf (.ref i2) >>= _) _ _ _
    cases hy : ys[k]? with
    | none =>
      obtain ⟨hh, he⟩ := he (.inr hy)
      refine wpAny_bind (nx_end hh k2 l2 hy fun g4 e s4 q => ?_)
      obtain ⟨oe, hoe, hce⟩ := q
      have hz4 : IsZip g4 z TI TO .ellipsis := s4 _ _ D.i2z.symm hz3
      have hez : e ≠ z := fun x => by subst x; rw [hz4] at hoe; cases hoe; simp at hce
      exact wpAny_setField_rec hz4 (by simp) fun g5 _ s5 => he g5 e (fun c o c1 c2 c3 c4 x => s5.extBut _ _ c1 (s4 _ _ c4 (s3.extBut _ _ c2 (s2.extBut _ _ c3 (s1.extBut _ _ c1 x))))) ⟨oe, s5.extBut _ _ hez hoe, hce⟩
    | some y =>
      refine wpAny_bind (nx_item k2 l2 hy fun g4 h24 s4 => wpAny_pure ?_)
      have hTO4 : IsPair g4 TO x b := s4.extBut _ _ D.TOi2 hTO3
      refine wpAny_bind (wpAny_seqItems hTO4 rfl (wpAny_bind (wpAny_updateSeq_pair hTO4 fun g5 hTO5 s5 => wpAny_bind (wpAny_letGo (wpAny_pure (wpAny_pure ?_))))))
      replace hTO5 : IsPair g5 TO x y := hTO5
      have hsz : g5.objs.size = s.heap.objs.size := by rw [s5.1, s4.1, s3.1, s2.1, s1.1]
      have hz5 : IsZip g5 z TI TO .ellipsis := s5.extBut _ _ D.TOz.symm (s4.extBut _ _ D.i2z.symm hz3)
      have kp : ∀ c o, c ≠ z → c ≠ TO → c ≠ i1 → c ≠ i2 → s.heap.get? c = some o → g5.get? c = some o := fun c o c1 c2 c3 c4 e => s5.extBut _ _ c2 (s4.extBut _ _ c4 (s3.extBut _ _ c2 (s2.extBut _ _ c3 (s1.extBut _ _ c1 e))))
      have h15 : SIt g5 i1 c1 (k + 1) := ((h12.but s3.extBut D.TOi1.symm).but s4.extBut D.i12).but s5.extBut D.TOi1.symm
      have h25 : SIt g5 i2 c2 (k + 1) := h24.but s5.extBut D.TOi2.symm
      have zl : z < g5.objs.size := Heap.lt_size hz5
      refine wpAny_bind (wpAny_seqItems hTO5 rfl (wpAny_bind (wpAny_newTuple ?_)))
      show wpAny _ _ (Builtin.SmallTypes.ownedTupleHandOut (.ref z) (.ref g5.objs.size) >>= _) _ _ _; refine wpAny_bind ?_; unfold Builtin.SmallTypes.ownedTupleHandOut
      have hz6 : IsZip (g5.push { cls := .type "tuple", data := .seq #[x, y] }) z TI TO .ellipsis := Heap.get?_push_of_some _ hz5
      refine wpAny_bind (wpAny_setField_rec hz6 (by simp) fun g7 hz7 s7 => ?_)
      replace hz7 : IsZip g7 z TI TO (rawInt g5.objs.size) := hz7
      refine wpAny_setField_rec hz7 (by simp) fun g8 hz8 s8 => ?_
      replace hz8 : IsZip g8 z TI TO (rawInt g5.objs.size) := hz8
      have up : ∀ c o, c ≠ z → g5.get? c = some o → g8.get? c = some o := fun c o c1 e => s8.extBut _ _ c1 (s7.extBut _ _ c1 (Heap.get?_push_of_some _ e))
      have hT8 : IsPair g8 g5.objs.size x y := s8.extBut _ _ (Nat.ne_of_gt zl) (s7.extBut _ _ (Nat.ne_of_gt zl) (Heap.get?_push_size _ rfl))
      have z8 : g8.objs.size = g5.objs.size + 1 := by rw [s8.1, s7.1, Heap.size_push]
      rw [hsz] at hz8 hT8 z8
      refine wpAny_pure ?_
      show Q (.done (.ret (.ref g5.objs.size))) _
      rw [hsz]
      exact hi x y g8 hx hy hz8 (up _ _ D.TOz hTO5) (h15.at fun o e => up _ o D.i1z e) (h25.at fun o e => up _ o D.i2z e) hT8 z8 fun c o c1 c2 c3 c4 e => up c o c1 (kp c o c1 c2 c3 c4 e)

theorem z2_next {z TI TO i1 i2 : Addr} {Q : Option Value → Shared → Prop} (hz : IsZip s.heap z TI TO .none) (hTI : IsPair s.heap TI (.ref i1) (.ref i2)) {a b : Value} (hTO : IsPair s.heap TO a b) {c1 c2 : Src} {k : Nat} {xs ys : Array Value}
    (D : ZipApart z TI TO i1 i2 c1.2 c2.2) (h1 : SIt s.heap i1 c1 k) (h2 : SIt s.heap i2 c2 k) (hl1 : SSq s.heap c1 xs) (hl2 : SSq s.heap c2 ys)
    (hi : ∀ x y h', xs[k]? = some x → ys[k]? = some y → IsZip h' z TI TO (rawInt s.heap.objs.size) → IsPair h' TO x y → SIt h' i1 c1 (k + 1) → SIt h' i2 c2 (k + 1) → IsPair h' s.heap.objs.size x y → h'.objs.size = s.heap.objs.size + 1 →
      (∀ c o, c ≠ z → c ≠ TO → c ≠ i1 → c ≠ i2 → s.heap.get? c = some o → h'.get? c = some o) → Q (some (.ref s.heap.objs.size)) { s with heap := h' })
    (he : xs[k]? = none ∨ ys[k]? = none → A.handled = none ∧ ∀ h', (∀ c o, c ≠ z → c ≠ TO → c ≠ i1 → c ≠ i2 → s.heap.get? c = some o → h'.get? c = some o) → Q none { s with heap := h' }) :
    wpAny (model prog w) A (pyNext (.ref z)) Q E s := by
  have hT : s.TypeIs (.ref z) "zip" := ⟨_, hz, rfl⟩
  unfold pyNext
  refine wpAny_bind (wpAny_attempt (wpAny_callSpecial?_slot (name := Str.ofString "__next__") hT F.slot_zip_next (wpAny_call_entry F.slot_zip_next hT F.entry_zip_next (z2_open hz hTI hTO D h1 h2 hl1 hl2 ?_ ?_) (F.args_zip_next_1 _))))
  · exact fun x y h' e1 e2 q1 q2 q3 q4 q5 q6 q7 => ⟨_, rfl, wpAny_pure (hi x y h' e1 e2 q1 q2 q3 q4 q5 q6 q7)⟩
  · intro q
    obtain ⟨hh, he⟩ := he q
    refine ⟨hh, fun h' e kp hx => ?_⟩
    obtain ⟨o, ho, hc⟩ := hx
    exact wpAny_bind (wpAny_isInstance (T := "StopIteration") (b := true) ⟨o, ho, hc⟩ isSubtype_stop (wpAny_pure (he h' kp)))
noncomputable def itN (c : Src) : String := match c.1 with
  | true => "list_iterator"
  | false => "tuple_iterator"
theorem it_seq {c : Src} {xs : Array Value} {Q : Value → Shared → Prop} (p : SSq s.heap c xs) (h : Q (.ref s.heap.objs.size) { s with heap := s.heap.push { cls := .type (itN c), data := .fields #[.ref c.2, .int 0 0] } }) :
    wpAny (model prog w) A (pyIter (.ref c.2)) Q E s := by
  obtain ⟨b, a⟩ := c
  cases b
  · exact wpAny_pyIter_tuple p h
  · exact wpAny_pyIter_list p h
theorem SIt.new {h : Heap} {it : Addr} {c : Src} (e : h.get? it = some { cls := .type (itN c), data := .fields #[.ref c.2, .int 0 0] }) : SIt h it c 0 := by
  obtain ⟨b, a⟩ := c
  cases b <;> exact ⟨_, e, rfl, rfl⟩
theorem SSq.push {h : Heap} {c : Src} {xs : Array Value} (p : SSq h c xs) (o : Obj) : SSq (h.push o) c xs := p.at fun _ e => Heap.get?_push_of_some _ e
noncomputable abbrev zh2 (h : Heap) (c1 c2 : Src) : Heap := (h.push { cls := .type (itN c1), data := .fields #[.ref c1.2, .int 0 0] }).push { cls := .type (itN c2), data := .fields #[.ref c2.2, .int 0 0] }
noncomputable abbrev zh5 (h : Heap) (c1 c2 : Src) : Heap := (((zh2 h c1 c2).push { cls := .type "tuple", data := .seq #[.ref h.objs.size, .ref (h.push { cls := .type (itN c1), data := .fields #[.ref c1.2, .int 0 0] }).objs.size] }).push { cls := .type "tuple", data := .seq #[.none, .none] }).push
  { cls := .type "zip", data := .fields #[.none, .bool false, .bool false, .ref (zh2 h c1 c2).objs.size, .ref ((zh2 h c1 c2).push { cls := .type "tuple", data := .seq #[.ref h.objs.size, .ref (h.push { cls := .type (itN c1), data := .fields #[.ref c1.2, .int 0 0] }).objs.size] }).objs.size] }
theorem z2_new (c1 c2 : Src) (xs ys : Array Value) :
    Meets (Builtin.«zip.__new__» ⟨[.type "zip", .ref c1.2, .ref c2.2], []⟩) (fun _ R s => SSq s.heap c1 xs ∧ SSq s.heap c2 ys ∧ R (.ok (.ret (.ref (s.heap.objs.size + 4)))) { s with heap := zh5 s.heap c1 c2 }) :=
  .of_wp fun prog w A R s h => by
    obtain ⟨hp, g, d, tk, os⟩ := s
    obtain ⟨p1, p2, h⟩ := h
    have hsub := sub_zip
    have q1 : SSq (Shared.heap ⟨hp, g, d, tk, os⟩) c1 xs := p1
    have q2 : SSq (Shared.heap ⟨hp.push { cls := .type (itN c1), data := .fields #[.ref c1.2, .int 0 0] }, g, d, tk, os⟩) c2 ys := SSq.push p2 _
    wp_walk using it_seq q1, it_seq q2
    have e : (((zh2 hp c1 c2).push { cls := .type "tuple", data := .seq #[.ref hp.objs.size, .ref (hp.push { cls := .type (itN c1), data := .fields #[.ref c1.2, .int 0 0] }).objs.size] }).push { cls := .type "tuple", data := .seq #[.none, .none] }).objs.size = hp.objs.size + 4 := by
      simp only [Heap.size_push]
    refine ⟨_, rfl, ?_⟩
    have h' : R (.ok (.ret (.ref (hp.objs.size + 4)))) _ := h
    rw [← e] at h'
    exact h'
theorem z2_call {c1 c2 : Src} {xs ys : Array Value} {Q : Value → Shared → Prop} (p1 : SSq s.heap c1 xs) (p2 : SSq s.heap c2 ys)
    (h : ∀ h', IsZip h' (s.heap.objs.size + 4) (s.heap.objs.size + 2) (s.heap.objs.size + 3) .none → IsPair h' (s.heap.objs.size + 2) (.ref s.heap.objs.size) (.ref (s.heap.objs.size + 1)) → IsPair h' (s.heap.objs.size + 3) .none .none →
      SIt h' s.heap.objs.size c1 0 → SIt h' (s.heap.objs.size + 1) c2 0 → (∀ c o, s.heap.get? c = some o → h'.get? c = some o) → Q (.ref (s.heap.objs.size + 4)) { s with heap := h' }) :
    wpAny (model prog w) A (call (.type "zip") [.ref c1.2, .ref c2.2]) Q E s := by
  refine callType_new F.called_zip (by decide) (F.typeCall_zip_2 _ _) (F.newCall_zip_2 _ _) (fun obj => F.args_object_init_3 obj _ _) F.entry_zip_new (z2_new c1 c2 xs ys) ⟨p1, p2, ?_⟩
  have up : ∀ {g : Heap} {o : Obj} {c : Addr} {u : Obj}, g.get? c = some u → (g.push o).get? c = some u := fun e => Heap.get?_push_of_some _ e
  have nw : ∀ {g : Heap} {o : Obj} {c : Addr}, o.isFreed = false → c = g.objs.size → (g.push o).get? c = some o := fun f e => by rw [e]; exact Heap.get?_push_size _ f
  have g5 : IsZip (zh5 s.heap c1 c2) (s.heap.objs.size + 4) (s.heap.objs.size + 2) (s.heap.objs.size + 3) .none := by
    refine nw rfl (by simp only [Heap.size_push]) |>.trans ?_
    simp only [Heap.size_push]
  have g3 : IsPair (zh5 s.heap c1 c2) (s.heap.objs.size + 2) (.ref s.heap.objs.size) (.ref (s.heap.objs.size + 1)) := by
    refine (up (up (nw rfl (by simp only [Heap.size_push])))).trans ?_
    simp only [Heap.size_push]
  have g4 : IsPair (zh5 s.heap c1 c2) (s.heap.objs.size + 3) .none .none := up (nw rfl (by simp only [Heap.size_push]))
  have g1 : SIt (zh5 s.heap c1 c2) s.heap.objs.size c1 0 := .new (up (up (up (up (nw rfl rfl)))))
  have g2 : SIt (zh5 s.heap c1 c2) (s.heap.objs.size + 1) c2 0 := .new (up (up (up (nw rfl (by simp only [Heap.size_push])))))
  exact ⟨⟨_, g5, rfl⟩, h _ g5 g3 g4 g1 g2 fun c o x => up (up (up (up (up x))))⟩
end

noncomputable def SqS (K : PySem.W.Frag) (H : Hp) (c : Src) (xs : List V) : Prop := match c.1 with
  | true => SqL K H c.2 xs
  | false => SqT K H c.2 xs
theorem SqS.inv {X : Cx} {pins : List (Addr × Obj)} {σ : St} {H : Hp} {s : Shared} {c : Src} {xs : List V} (I : Inv X pins σ H s) (h : SqS X.K H c xs) : ∃ its : List Value, Vals xs its ∧ SSq s.heap c its.toArray := by
  obtain ⟨b, a⟩ := c
  cases b
  · obtain ⟨its, r, p, _⟩ := I.tuple (show SqT X.K H a xs from h)
    exact ⟨its, r, (show s.heap.IsTuple a its.toArray from p)⟩
  · obtain ⟨its, r, p, _⟩ := I.list (show SqL X.K H a xs from h)
    exact ⟨its, r, p.isList⟩
theorem SqS.inj {X : Cx} {pins : List (Addr × Obj)} {σ : St} {H : Hp} {s : Shared} {c : Src} {xs ys : List V} (I : Inv X pins σ H s) (h : SqS X.K H c xs) (h' : SqS X.K H c ys) : xs = ys := by
  obtain ⟨b, a⟩ := c
  cases b
  · exact I.tuple_inj h h'
  · exact I.list_inj h h'
noncomputable def Itz2 (K : PySem.W.Frag) (c1 c2 : Src) : It :=
  ⟨fun i H => ∃ (xs ys : List V) (x y : V), SqS K H c1 xs ∧ SqS K H c2 ys ∧ xs[i]? = some x ∧ ys[i]? = some y,
    fun i H v H' => ∃ T x y, v = .ref T ∧ H T = none ∧ H' = upd H T (.tup [x, y]) ∧ (∀ xs, SqS K H c1 xs → xs[i]? = some x) ∧ ∀ ys, SqS K H c2 ys → ys[i]? = some y,
    fun i H => ∃ xs ys : List V, SqS K H c1 xs ∧ SqS K H c2 ys ∧ (xs.length ≤ i ∨ ys.length ≤ i)⟩
theorem turn_zip2 {P : Program} {w : World} {K : PySem.W.Frag} {elts : List Expr} {kk : Nat} {tpos : Pos} {c1 c2 : Src} {z TI TO i1 i2 : Addr} (D : ZipApart z TI TO i1 i2 c1.2 c2.2) :
    Turn P w K (.Tuple elts kk tpos) (Itz2 K c1 c2) [z, TI, TO, i1, i2] z (fun i h => IsZip h z TI TO .none ∧ IsPair h TI (.ref i1) (.ref i2) ∧ (∃ x y, IsPair h TO x y) ∧ SIt h i1 c1 i ∧ SIt h i2 c2 i) where
  mem := by simp
  obj := fun i h st c hc => by
    obtain ⟨hz, hTI, ⟨x, y, hTO⟩, h1, h2⟩ := st
    have e' : c = z ∨ c = TI ∨ c = TO ∨ c = i1 ∨ c = i2 := by simpa using hc
    rcases e' with q | q | q | q | q
    · rw [q]; exact ⟨_, hz, fun v q => nomatch q⟩
    · rw [q]; exact ⟨_, hTI, fun v q => nomatch q⟩
    · rw [q]; exact ⟨_, hTO, fun v q => nomatch q⟩
    · rw [q]; exact h1.obj
    · rw [q]; exact h2.obj
  keep := fun i h h' st k => by
    obtain ⟨hz, hTI, ⟨x, y, hTO⟩, h1, h2⟩ := st
    exact ⟨k z (by simp) _ hz, k TI (by simp) _ hTI, ⟨x, y, k TO (by simp) _ hTO⟩, h1.at fun o q => k i1 (by simp) o q, h2.at fun o q => k i2 (by simp) o q⟩
  item := by
    intro X hP hw hK hc i pins s σ H E I hf st hg
    subst hP hw hK
    obtain ⟨hz, hTI, ⟨x0, y0, hTO⟩, h1, h2⟩ := st
    obtain ⟨xs, ys, x, y, hqx, hqy, hx, hy⟩ := hg
    obtain ⟨its, rv, p⟩ := hqx.inv I
    obtain ⟨its2, rv2, p2⟩ := hqy.inv I
    obtain ⟨u, hu, ru⟩ := rv.get hx
    obtain ⟨u2, hu2, ru2⟩ := rv2.get hy
    have hzl : z < s.heap.objs.size := Heap.lt_size hz
    refine z2_next hz hTI hTO D h1 h2 p p2 (fun v v2 h' e1 e2 z' TO' h1' h2' hT hsz hk => ?_) (fun q => ?_)
    · have ev : v = u := by
        have : its.toArray[i]? = some u := by simpa using hu
        rw [this] at e1; exact (Option.some.inj e1).symm
      have ev2 : v2 = u2 := by
        have : its2.toArray[i]? = some u2 := by simpa using hu2
        rw [this] at e2; exact (Option.some.inj e2).symm
      subst ev ev2
      refine ⟨_, rfl, wpAny_letOwnedTupleGo_zip (s := { s with heap := h' }) z' fun h'' z'' sb => ?_⟩
      have hT2 : h''.get? s.heap.objs.size = some { cls := .type "tuple", data := .seq #[v, v2] } := (sb.2 _ (Nat.ne_of_gt hzl)).trans hT
      have new : ObjOk X.prog X.w (upd H s.heap.objs.size (.tup [x, y])) h'' s.heap.objs.size (.tup [x, y]) :=
        ⟨by show 2 ≤ sizeLine; decide, [v, v2], .cons ru (.cons ru2 .nil), ⟨_, hT2, rfl, ⟨_, rfl⟩, rfl⟩⟩
      have I1 : Inv X pins σ (upd H s.heap.objs.size (.tup [x, y])) { s with heap := h'' } :=
        I.turnedNew (t' := s.toks) (ch := [z, TI, TO, i1, i2]) (fun c o hb q => (sb.2 c (fun q' => hb (by simp [q']))).trans (hk c o (fun q' => hb (by simp [q'])) (fun q' => hb (by simp [q'])) (fun q' => hb (by simp [q'])) (fun q' => hb (by simp [q'])) q)) hf (Nat.le_refl _) new
      refine ⟨.ref s.heap.objs.size, _, I1, rfl, ⟨_, x, y, rfl, I.hok.fresh (Nat.le_refl _), rfl, fun l hl => by rw [hl.inj I hqx]; exact hx, fun l hl => by rw [hl.inj I hqy]; exact hy⟩, ⟨z'', ?_, ⟨v, v2, ?_⟩, ?_, ?_⟩, fun c hcm => ?_⟩
      · exact (sb.2 _ D.TIz).trans (hk _ _ D.TIz D.TITO D.TIi1 D.TIi2 hTI)
      · exact (sb.2 _ D.TOz).trans TO'
      · exact h1'.at fun o q => (sb.2 _ D.i1z).trans q
      · exact h2'.at fun o q => (sb.2 _ D.i2z).trans q
      · have hlt : c < s.heap.objs.size := by
          have e' : c = z ∨ c = TI ∨ c = TO ∨ c = i1 ∨ c = i2 := by simpa using hcm
          rcases e' with q | q | q | q | q
          · rw [q]; exact hzl
          · rw [q]; exact Heap.lt_size hTI
          · rw [q]; exact Heap.lt_size hTO
          · rw [q]; exact h1.lt
          · rw [q]; exact h2.lt
        rw [upd_ne (Nat.ne_of_lt hlt)]
        exact (hf c hcm).1
    · exfalso
      have h1' : its.toArray[i]? = some u := by simpa using hu
      have h2' : its2.toArray[i]? = some u2 := by simpa using hu2
      rcases q with q | q
      · rw [h1'] at q; cases q
      · rw [h2'] at q; cases q
  done := by
    intro X hP hw hK hc i pins s σ H E I hf st hg
    subst hP hw hK
    obtain ⟨hz, hTI, ⟨x0, y0, hTO⟩, h1, h2⟩ := st
    obtain ⟨xs, ys, hqx, hqy, hend⟩ := hg
    obtain ⟨its, rv, p⟩ := hqx.inv I
    obtain ⟨its2, rv2, p2⟩ := hqy.inv I
    have l1 := rv.length
    have l2 := rv2.length
    refine z2_next hz hTI hTO D h1 h2 p p2 (fun v v2 h' e1 e2 => ?_) (fun _ => ⟨I.ok.hd hc, fun h' hk => ⟨rfl, I.turnedL (t' := s.toks) (ch := [z, TI, TO, i1, i2]) (fun c o hb q =>
      hk c o (fun q' => hb (by simp [q'])) (fun q' => hb (by simp [q'])) (fun q' => hb (by simp [q'])) (fun q' => hb (by simp [q'])) q) hf⟩⟩)
    exfalso
    rcases hend with q | q
    · have : its.toArray[i]? = none := by simp; omega
      rw [this] at e1; cases e1
    · have : its2.toArray[i]? = none := by simp; omega
      rw [this] at e2; cases e2
  self := fun A i s Q E st h => wpAny_pyIter_zip st.1 h
noncomputable def iZip2 (K : PySem.W.Frag) (ta : TA) : TI := fun σ H R => ta σ H fun vs H1 => ∃ c1 c2 xs ys, vs = [.ref c1.2, .ref c2.2] ∧ SqS K H1 c1 xs ∧ SqS K H1 c2 ys ∧ R (Itz2 K c1 c2) H1
theorem pi_zip2 {X : Cx} {e e2 : Expr} {ta : TA} {p pos tpos : Pos} {elts : List Expr} {kk : Nat} (hg : Gl X "zip") (hm : X.mg "zip" = none) (ha : PA X [e, e2] ta)
    (hs : starEach [e, e2] X.env = (false, eval e X.env) :: starEach [e2] X.env := by rfl) (hpl : (backTo pos (starEach [e2] X.env)).any (·.1) = false := by rfl) :
    PI X (.Tuple elts kk tpos) (.Call (.Name "zip" p) [e, e2] [] pos) (iZip2 X.K ta) := by
  constructor
  intro pins s σ H R I h
  refine Call_ (ld_blt I hg hm boot_zip5 (PyProof.Rows.callWith_type1 (thn (ha pos pins s σ H _ I h) fun us s1 ⟨vs, H1, I1, r1, q1⟩ => ?_) hs hpl))
  obtain ⟨c1, c2, xs, ys, ex, hqx, hqy, q⟩ := q1
  subst ex
  cases r1 with
  | cons r rr =>
    cases rr with
    | cons r' rr =>
      cases rr
      cases r
      cases r'
      obtain ⟨its, rv, p1⟩ := hqx.inv I1
      obtain ⟨its2, rv2, p2⟩ := hqy.inv I1
      have la : c1.2 < s1.heap.objs.size := p1.lt
      have lb : c2.2 < s1.heap.objs.size := p2.lt
      refine z2_call p1 p2 fun h' hz hTI hTO h1 h2 hk => wpAny_pyIter_zip hz ?_
      have I2 : Inv X pins σ H1 { s1 with heap := h' } := I1.kept (t' := s1.toks) hk
      refine ⟨s1.heap.objs.size + 4, [s1.heap.objs.size + 4, s1.heap.objs.size + 2, s1.heap.objs.size + 3, s1.heap.objs.size, s1.heap.objs.size + 1], _, _, H1, rfl, I2, turn_zip2 (PySem.W.ktu_apart s1.heap.objs.size c1.2 c2.2 la lb), ⟨hz, hTI, ⟨_, _, hTO⟩, h1, h2⟩, fun c hcm => ?_, q⟩
      have e' : c = s1.heap.objs.size + 4 ∨ c = s1.heap.objs.size + 2 ∨ c = s1.heap.objs.size + 3 ∨ c = s1.heap.objs.size ∨ c = s1.heap.objs.size + 1 := by simpa using hcm
      have hle : s1.heap.objs.size ≤ c := by
        rcases e' with z | z | z | z | z <;> rw [z] <;> first | exact Nat.le_refl _ | exact Nat.le_add_right _ _
      exact I1.fpOk hle (I1.hok.fresh hle)
theorem SqS.same {K : PySem.W.Frag} {H H' : Hp} {c : Src} {xs : List V} (h : SqS K H c xs) (e : Same H H') : SqS K H' c xs := by
  obtain ⟨b, a⟩ := c
  cases b
  · rcases (show SqT K H a xs from h) with (h | ⟨o, h⟩) | h
    · exact .inl (.inl (e _ _ h))
    · exact .inl (.inr ⟨o, e _ _ h⟩)
    · exact .inr h
  · exact e.seq (show SqL K H a xs from h)
theorem SqS.tup {K : PySem.W.Frag} {H : Hp} {a : Addr} {xs : List V} (h : H a = some (.tup xs)) : SqS K H (false, a) xs := SqT.of h
theorem SqS.lst {K : PySem.W.Frag} {H : Hp} {a : Addr} {xs : List V} (h : H a = some (.lst xs)) : SqS K H (true, a) xs := SqL.of h

theorem lc_zip2_map {K : PySem.W.Frag} {c1 c2 : Src} {xs ys : List V} {g : TG} {tt : TT} {te : TE} {vs : List Nat} {σ : St} {H1 : Hp} {D : Addr} {Qd : Hp → Prop} (hD : H1 D = none) (f : Nat → V) (hx : SqS K H1 c1 xs) (hy : SqS K H1 c2 ys) (hz : xs.length ≤ 1000)
    (hs : ∀ i x y T H (R : VK) (F : Hp → Prop), xs[i]? = some x → ys[i]? = some y → Same H1 H → H T = some (.tup [x, y]) → (∀ H', Same H H' → R (f i) H') →
      g (.ref T) (wipe σ vs) H fun σ2 H2 => wipe σ2 vs = wipe σ vs ∧ tt σ2 H2 fun b H3 => if b = true then te σ2 H3 R else F H3)
    (hd : ∀ H', Same H1 H' → H' D = some (.lst ((List.range (min xs.length ys.length)).map f)) → Qd H') :
    ∃ W : Nat → Nat → Hp → Prop, (∃ m, W 0 m (upd H1 D (.lst []))) ∧ ∀ i m H, W i m H →
      ((Itz2 K c1 c2).stop i H ∧ Qd H) ∨ ((Itz2 K c1 c2).go i H ∧ ∃ Nx : Hp → Prop, (∀ H', Nx H' → ∃ m', m' < m ∧ W (i + 1) m' H') ∧ ∀ x H', (Itz2 K c1 c2).yld i H x H' → g x (wipe σ vs) H' fun σ2 H2 => wipe σ2 vs = wipe σ vs ∧ tt σ2 H2 fun b H3 =>
        if b = true then te σ2 H3 fun y H4 => ∃ acc, H4 D = some (.lst acc) ∧ acc.length < sizeLine ∧ Nx (upd H4 D (.lst (acc ++ [y]))) else Nx H3) := by
  refine ⟨fun i m H => m = min xs.length ys.length - i ∧ i ≤ min xs.length ys.length ∧ Same H1 H ∧ H D = some (.lst ((List.range i).map f)), ⟨_, rfl, Nat.zero_le _, same_push hD, upd_same⟩, ?_⟩
  rintro i m H ⟨rfl, hi, hS, hDl⟩
  by_cases hlt : i < min xs.length ys.length
  · have i1 : i < xs.length := Nat.lt_of_lt_of_le hlt (Nat.min_le_left _ _)
    have i2 : i < ys.length := Nat.lt_of_lt_of_le hlt (Nat.min_le_right _ _)
    refine .inr ⟨⟨xs, ys, xs[i], ys[i], hx.same hS, hy.same hS, by simp [i1], by simp [i2]⟩, fun H => Same H1 H ∧ H D = some (.lst ((List.range (i + 1)).map f)), fun H' p' => ⟨min xs.length ys.length - (i + 1), by omega, rfl, hlt, p'⟩, fun v H' y => ?_⟩
    obtain ⟨T, x, y, rfl, hT, rfl, qx, qy⟩ := y
    refine hs i x y T _ _ _ (qx xs (hx.same hS)) (qy ys (hy.same hS)) (hS.trans (same_push hT)) upd_same fun H4 s4 => ⟨_, s4 _ _ (same_push hT _ _ hDl), ?_, ?_, ?_⟩
    · rw [List.length_map, List.length_range]
      exact Nat.lt_of_lt_of_le (Nat.lt_of_lt_of_le i1 hz) (by decide)
    · exact fun b o e => by rw [upd_ne (ne_of_none e hD)]; exact s4 _ _ (same_push hT _ _ (hS _ _ e))
    · rw [upd_same, List.range_succ, List.map_append]; rfl
  · have e : i = min xs.length ys.length := by omega
    subst e
    refine .inl ⟨⟨xs, ys, hx.same hS, hy.same hS, by omega⟩, hd _ hS hDl⟩

theorem for_zip2 {K : PySem.W.Frag} {c1 c2 : Src} {xs ys : List V} {g : TG} {tb : TS} {D : Ends} {σ : St} {H : Hp} (Pv : Nat → St → Hp → Prop) (h0 : Pv 0 σ H) (hx : ∀ i σ H, Pv i σ H → SqS K H c1 xs) (hy : ∀ i σ H, Pv i σ H → SqS K H c2 ys)
    (hs : ∀ i x y T σ H, xs[i]? = some x → ys[i]? = some y → Pv i σ H → H T = none → g (.ref T) σ (upd H T (.tup [x, y])) fun σ2 H2 => tb { D with nx := Pv (i + 1), ct := Pv (i + 1), bk := D.nx } σ2 H2) (hd : ∀ σ H, Pv (min xs.length ys.length) σ H → D.nx σ H) :
    ∃ W : Nat → Nat → St → Hp → Prop, (∃ m, W 0 m σ H) ∧ ∀ i m σ H, W i m σ H →
      ((Itz2 K c1 c2).stop i H ∧ D.nx σ H) ∨ ((Itz2 K c1 c2).go i H ∧ ∃ N : St → Hp → Prop, (∀ σ' H', N σ' H' → ∃ m', m' < m ∧ W (i + 1) m' σ' H') ∧ ∀ x H', (Itz2 K c1 c2).yld i H x H' → g x σ H' fun σ2 H2 => tb { D with nx := N, ct := N, bk := D.nx } σ2 H2) := by
  refine ⟨fun i m σ H => m = min xs.length ys.length - i ∧ i ≤ min xs.length ys.length ∧ Pv i σ H, ⟨_, rfl, Nat.zero_le _, h0⟩, ?_⟩
  rintro i m σ H ⟨rfl, hi, p⟩
  by_cases hlt : i < min xs.length ys.length
  · have i1 : i < xs.length := Nat.lt_of_lt_of_le hlt (Nat.min_le_left _ _)
    have i2 : i < ys.length := Nat.lt_of_lt_of_le hlt (Nat.min_le_right _ _)
    refine .inr ⟨⟨xs, ys, xs[i], ys[i], hx _ _ _ p, hy _ _ _ p, by simp [i1], by simp [i2]⟩, Pv (i + 1), fun σ' H' p' => ⟨min xs.length ys.length - (i + 1), by omega, rfl, hlt, p'⟩, fun v H' y => ?_⟩
    obtain ⟨T, x, y, rfl, hT, rfl, qx, qy⟩ := y
    exact hs i x y T σ H (qx xs (hx _ _ _ p)) (qy ys (hy _ _ _ p)) p hT
  · have e : i = min xs.length ys.length := by omega
    subst e
    exact .inl ⟨⟨xs, ys, hx _ _ _ p, hy _ _ _ p, by omega⟩, hd σ H p⟩
end L2

set_option Elab.async false
set_option linter.all false
set_option maxRecDepth 100000

namespace L2
open PySem PySem.Spec PyProof.Rows
section
variable {X : Cx} {pos : Pos}
theorem pg_tupK {K : PySem.W.Frag} {es : List Expr} {k : Nat} {t : TGs} {n : Nat} (hc : X.calm = true) (h : PGs X es t) (hK : X.K = K := by rfl)
    (hn : (assignEach es X.env).length = n := by rfl) (hst : (assignEach es X.env).findIdx? (·.1) = none := by rfl) : PG X (.Tuple es k pos) (gTup K n t) := by subst hK; exact pg_tup hc h hn hst
theorem MtM.r {id : String} {r : V → List V → Hp → VK → Prop} (h : MtM X id r) : MtR X id r := ⟨h.run⟩

end
end L2

set_option Elab.async false
set_option linter.all false
set_option maxRecDepth 100000

namespace My
open PySem PySem.Spec PyProof.Rows L2
noncomputable abbrev Cols := List (Str × Str)

structure FormAt (H : Hp) (a : Addr) (cols : Cols) : Prop where
  ex : ∃ ts : List Addr, H a = some (.tup (ts.map V.ref)) ∧ ts.length = cols.length ∧ ∀ (i : Nat) (t : Addr) (c : Str × Str), ts[i]? = some t → cols[i]? = some c → H t = some (.tup [.str c.1, .str c.2])
noncomputable def Kinds (cols : Cols) : Prop := ∀ c ∈ cols, c.2 = "number" ∨ c.2 = "word"

end My
namespace My
open PySem PySem.Spec PyProof.Rows L2
noncomputable def NamesOK (ws : List Str) : Prop := ∀ (i : Nat) (w : Str), ws[i]? = some w → WordS w ∧ ∃ cs, w.cps.toList = cs ++ [97 + i]
end My
namespace My
open PySem PySem.Spec PyProof.Rows L2
end My
namespace My
open PySem PySem.Spec PyProof.Rows L2
theorem big {n : Nat} (h : n ≤ 1000) : n ≤ sizeLine := Nat.le_trans h (by decide)
end My
namespace My
open PySem PySem.Spec PyProof.Rows L2

end My
namespace My
open PySem PySem.Spec PyProof.Rows L2
end My

set_option Elab.async false
set_option linter.all false
set_option maxRecDepth 100000

namespace My
open PySem PySem.Spec PyProof.Rows L2
end My

set_option Elab.async false
set_option linter.all false
set_option maxRecDepth 100000

namespace My
open PySem PySem.Spec PyProof.Rows L2
mutual
inductive Dt (H : Hp) : V → PyData → Prop
  | non : Dt H .non .none
  | bl (b : Bool) : Dt H (.bl b) (.bool b)
  | int (i : Int) : Dt H (.int i) (.int i)
  | str (x : Str) : Dt H (.str x) (.str x)
  | lst {a : Addr} {xs : List V} {ds : List PyData} : H a = some (.lst xs) → DtAll H xs ds → Dt H (.ref a) (.list ds)
  | tup {a : Addr} {xs : List V} {ds : List PyData} : H a = some (.tup xs) → DtAll H xs ds → Dt H (.ref a) (.tuple ds)
inductive DtAll (H : Hp) : List V → List PyData → Prop
  | nil : DtAll H [] []
  | cons {v : V} {vs : List V} {d : PyData} {ds : List PyData} : Dt H v d → DtAll H vs ds → DtAll H (v :: vs) (d :: ds)
end
mutual
theorem Dt.map {H H' : Hp} (s : ∀ a o, H a = some o → (∃ xs, o = .lst xs ∨ o = .tup xs) → H' a = some o) : ∀ {d : PyData} {v : V}, Dt H v d → Dt H' v d
  | _, _, .non => .non
  | _, _, .bl b => .bl b
  | _, _, .int i => .int i
  | _, _, .str x => .str x
  | _, _, .lst e r => .lst (s _ _ e ⟨_, .inl rfl⟩) (DtAll.map s r)
  | _, _, .tup e r => .tup (s _ _ e ⟨_, .inr rfl⟩) (DtAll.map s r)
theorem DtAll.map {H H' : Hp} (s : ∀ a o, H a = some o → (∃ xs, o = .lst xs ∨ o = .tup xs) → H' a = some o) : ∀ {ds : List PyData} {vs : List V}, DtAll H vs ds → DtAll H' vs ds
  | _, _, .nil => .nil
  | _, _, .cons h r => .cons (Dt.map s h) (DtAll.map s r)
end
theorem Dt.same {H H' : Hp} {v : V} {d : PyData} (h : Dt H v d) (s : Same H H') : Dt H' v d := h.map fun a o e _ => s a o e
theorem DtAll.same {H H' : Hp} {v : List V} {d : List PyData} (h : DtAll H v d) (s : Same H H') : DtAll H' v d := h.map fun a o e _ => s a o e
mutual
theorem Dt.dp {K : PySem.W.Frag} {H : Hp} : ∀ {d : PyData} {v : V}, Dt H v d → Dp K H v d
  | _, _, .non => .non
  | _, _, .bl b => .bl b
  | _, _, .int i => .int i
  | _, _, .str x => .str x
  | _, _, .lst e r => .lst (SqL.of e) (DtAll.dp r)
  | _, _, .tup e r => .tup (SqT.of e) (DtAll.dp r)
theorem DtAll.dp {K : PySem.W.Frag} {H : Hp} : ∀ {ds : List PyData} {vs : List V}, DtAll H vs ds → DpAll K H vs ds
  | _, _, .nil => .nil
  | _, _, .cons h r => .cons (Dt.dp h) (DtAll.dp r)
end
theorem DtAll.length {H : Hp} : ∀ {ds : List PyData} {vs : List V}, DtAll H vs ds → vs.length = ds.length
  | _, _, .nil => rfl
  | _, _, .cons _ r => by rw [List.length_cons, List.length_cons, r.length]
theorem DtAll.get {H : Hp} : ∀ {ds : List PyData} {vs : List V} {i : Nat} {v : V}, DtAll H vs ds → vs[i]? = some v → ∃ d, ds[i]? = some d ∧ Dt H v d
  | _, _, 0, v, .cons h _, e => by cases e; exact ⟨_, rfl, h⟩
  | _, _, i + 1, v, .cons _ r, e => by
    obtain ⟨d, q, h⟩ := DtAll.get (i := i) r (by simpa using e)
    exact ⟨d, by simpa using q, h⟩
mutual
def shortD : PyData → Bool
  | .str x => decide (x.length ≤ 1000)
  | .list xs => shortAll xs
  | .tuple xs => shortAll xs
  | _ => true
def shortAll : List PyData → Bool
  | [] => true
  | x :: r => shortD x && shortAll r
end
theorem Dt.tyd {H : Hp} {v : V} {d : PyData} (h : Dt H v d) (s : shortD d = true) : Tyd H v := by
  cases h with
  | non => trivial
  | bl b => trivial
  | int i => trivial
  | str x => exact (of_decide_eq_true s : x.length ≤ 1000)
  | lst e r => exact .inl ⟨_, e⟩
  | tup e r => exact .inr ⟨_, e⟩

end My

namespace L2
open PySem PySem.Spec PyProof.Rows
section
variable {X : Cx}

end
end L2

set_option Elab.async false
set_option linter.all false
set_option maxRecDepth 100000

namespace My
open PySem PySem.Spec PyProof.Rows L2
mutual
def wtD : PyData → Nat
  | .list xs => wtAll xs + 2
  | .tuple xs => wtAll xs + 3
  | d => d.shown.length
def wtAll : List PyData → Nat
  | [] => 0
  | x :: r => wtD x + 2 + wtAll r
end
end My

set_option Elab.async false
set_option linter.all false
set_option maxRecDepth 100000

namespace L2
open PySem PySem.Spec PyProof.Rows
section
variable {X : Cx}

end
end L2

set_option Elab.async false
set_option linter.all false
set_option maxRecDepth 100000

namespace L2
open PySem PySem.Spec PyProof.Rows
section
variable {X : Cx} {pins : List (Addr × Obj)} {σ : St} {H : Hp} {s : Shared}
end
section
variable {X : Cx}

end
end L2

set_option Elab.async false
set_option linter.all false
set_option maxRecDepth 100000

namespace L2
open PySem PySem.Spec PyProof.Rows
theorem same_put {H H' : Hp} {D : Addr} {o : HO} (s : Same H H') (hD : H D = none) : Same H (upd H' D o) := fun b u e => by
  rw [upd_ne (ne_of_none e hD)]; exact s b u e
theorem lc_list_map {K : PySem.W.Frag} {a : Addr} {xs : List V} {g : TG} {tt : TT} {te : TE} {vs : List Nat} {σ : St} {H1 : Hp} {D : Addr} {Qd : Hp → Prop} (hD : H1 D = none) (f : Nat → V) (ha : H1 a = some (.lst xs)) (hz : xs.length < sizeLine)
    (hs : ∀ i x H (R : VK) (F : Hp → Prop), xs[i]? = some x → Same H1 H → (∀ H', Same H H' → R (f i) H') → g x (wipe σ vs) H fun σ2 H2 => wipe σ2 vs = wipe σ vs ∧ tt σ2 H2 fun b H3 => if b = true then te σ2 H3 R else F H3)
    (hd : ∀ H', Same H1 H' → H' D = some (.lst ((List.range xs.length).map f)) → Qd H') :
    ∃ W : Nat → Nat → Hp → Prop, (∃ m, W 0 m (upd H1 D (.lst []))) ∧ ∀ i m H, W i m H →
      ((Itl K a).stop i H ∧ Qd H) ∨ ((Itl K a).go i H ∧ ∃ Nx : Hp → Prop, (∀ H', Nx H' → ∃ m', m' < m ∧ W (i + 1) m' H') ∧ ∀ x H', (Itl K a).yld i H x H' → g x (wipe σ vs) H' fun σ2 H2 => wipe σ2 vs = wipe σ vs ∧ tt σ2 H2 fun b H3 =>
        if b = true then te σ2 H3 fun y H4 => ∃ acc, H4 D = some (.lst acc) ∧ acc.length < sizeLine ∧ Nx (upd H4 D (.lst (acc ++ [y]))) else Nx H3) := by
  refine lc_list (xs := xs) (fun i H => Same H1 H ∧ H D = some (.lst ((List.range i).map f))) ⟨same_put (Same.refl _) hD, upd_same⟩ (fun i H _ ⟨s, _⟩ => SqL.of (s _ _ ha)) (fun i x H hx ⟨s, e⟩ => ?_) (fun H ⟨s, e⟩ => hd H s e)
  refine hs i x H _ _ hx s fun H' s' => ⟨_, s' _ _ e, ?_, same_put (s.trans s') hD, ?_⟩
  · rw [List.length_map, List.length_range]
    exact Nat.lt_trans (List.getElem?_eq_some_iff.mp hx).1 hz
  · rw [upd_same, List.range_succ, List.map_append]; rfl
section
variable {X : Cx} {T : String} {name : Str} {id : String} {r : V → List V → Hp → VK → Prop} {o e : Expr} {es : List Expr} {to : TE} {t : TA} {apos cpos : Pos}

end

end L2
namespace My
open PySem PySem.Spec PyProof.Rows L2
noncomputable def hide (H : Hp) (b : Addr) : Hp := fun a => if a = b then none else H a
theorem hide_at {H : Hp} {a b : Addr} {o : HO} (h : H a = some o) (n : a ≠ b) : hide H b a = some o := by
  unfold hide; rw [if_neg n]; exact h
theorem hide_of {H : Hp} {a b : Addr} {o : HO} (h : hide H b a = some o) : H a = some o ∧ a ≠ b := by
  unfold hide at h
  by_cases n : a = b
  · rw [if_pos n] at h; cases h
  · rw [if_neg n] at h; exact ⟨h, n⟩
noncomputable def g0 (d : PyData) : Bool := d.showable && !d.hasDict && decide (d.depth ≤ 3) && decide (wtD d ≤ 300) && shortD d && d.canLay0
noncomputable def g1 (m : Nat) : PyData → Bool
  | .tuple ds => decide (ds.length ≤ m) && ds.all g0
  | .list ds => decide (ds.length ≤ m) && ds.all g0
  | d => g0 d
noncomputable def g2 (n m : Nat) : PyData → Bool
  | .tuple ds => decide (ds.length ≤ n) && ds.all (g1 m)
  | .list ds => decide (ds.length ≤ n) && ds.all (g1 m)
  | d => g0 d
end My

set_option Elab.async false
set_option linter.all false
set_option maxRecDepth 100000

namespace My
open PySem PySem.Spec PyProof.Rows L2
mutual
theorem Dt.fn {H : Hp} : ∀ {d d' : PyData} {v : V}, Dt H v d → Dt H v d' → d = d'
  | _, _, _, .non, h => by cases h; rfl
  | _, _, _, .bl b, h => by cases h; rfl
  | _, _, _, .int i, h => by cases h; rfl
  | _, _, _, .str x, h => by cases h; rfl
  | _, _, _, .lst e r, h => by
    cases h with
    | lst e' r' => rw [e] at e'; cases e'; rw [DtAll.fn r r']
    | tup e' r' => rw [e] at e'; cases e'
  | _, _, _, .tup e r, h => by
    cases h with
    | lst e' r' => rw [e] at e'; cases e'
    | tup e' r' => rw [e] at e'; cases e'; rw [DtAll.fn r r']
theorem DtAll.fn {H : Hp} : ∀ {d d' : List PyData} {v : List V}, DtAll H v d → DtAll H v d' → d = d'
  | _, _, _, .nil, h => by cases h; rfl
  | _, _, _, .cons a r, h => by
    cases h with
    | cons a' r' => rw [Dt.fn a a', DtAll.fn r r']
end
end My
namespace L2
open PySem PySem.Spec PyProof.Rows My
section
variable {X : Cx}
open Classical in

noncomputable def eqO (H : Hp) (d : PyData) (u : Value) : Bool := if h : ∃ (e : PyData) (x : V), RelV x u ∧ Dt H x e then PyData.eqv (Classical.choose h) d else false
end
end L2

namespace PySem.SeqAt
open AutoSeq1 (wpAny_loadPart')
open MeetsSeq MeetsSeq2 MeetsSeq3 SeqRoads2
end PySem.SeqAt

set_option Elab.async false
set_option linter.all false
set_option maxRecDepth 100000

namespace PySem
open Sem (wp)
section
variable {prog : Program} {w : World} {A : Around} {R : Result → Shared → Prop} {I ax : Addr}
end
end PySem
namespace L2
open PySem PySem.Spec PyProof.Rows My
section
variable {X : Cx}

end
end L2

set_option Elab.async false
set_option linter.all false
set_option maxRecDepth 100000

namespace L2
open PySem PySem.Spec PyProof.Rows My
section
variable {X : Cx}

end
section
variable {X : Cx} {CX : CXT} {k : Nat} {f C : Addr} {fd : FuncData} {ps ks : List Str} {sp : Sp} {E : XK} {x m : Str} {p pos apos kpos : Pos} {e o : Expr} {es : List Expr} {kws : List Keyword} {te ta : TE} {t tk : TA} {nm : Option Str} {g : List Value → List Value → List Value} {gV : List V → List V → List V}

noncomputable def tMakeK (C : Addr) (sp : Sp) (gV : List V → List V → List V) (E : XK) (t tk : TA) : TE := fun σ H Q => t σ H fun vs H1 => tk σ H1 fun zs H2 => ∀ x dx, H2 x = none → H2 dx = none → dx ≠ x →
  sp (gV (.ref x :: vs) zs) (upd (upd H2 dx (.own x)) x (.ins C dx [])) (fun v H3 => v = .non ∧ Q (.ref x) H3) E
theorem run_makek {pins : List (Addr × Obj)} {σ : St} {H : Hp} {s : Shared} {Q : VK} {us ws : List Value} {vs zs : List V} (M : Mk X.K C f) (F : FnOk X.prog X.w X.K X.mg X.base CX k f fd ps sp) (hr : Room (k + 1) X.A) (hb : KBinds X.K fd ps ks g gV)
    (hx : Passes CX X E) (I : Inv X pins σ H s) (r : Vals vs us) (rz : Vals zs ws)
    (h : ∀ x dx, H x = none → H dx = none → dx ≠ x → sp (gV (.ref x :: vs) zs) (upd (upd H dx (.own x)) x (.ins C dx [])) (fun v H2 => v = .non ∧ Q (.ref x) H2) E) :
    wpAny (model X.prog X.w) X.A (call (.ref C) us (ks.zip ws)) (EP X pins σ Q) X.xe s := by
  have hq := h (s.heap.objs.size + 1) s.heap.objs.size (I.hok.fresh (Nat.le_succ _)) (I.hok.fresh (Nat.le_refl _)) (Nat.ne_of_lt (Nat.lt_succ_self _))
  have I2 := Inv.made (C := C) I
  have r2 : Vals (gV (V.ref (s.heap.objs.size + 1) :: vs) zs) (g (Value.ref (s.heap.objs.size + 1) :: us) ws) := hb.rel (.cons rfl r) rz
  have hl : (g (Value.ref (s.heap.objs.size + 1) :: us) ws).length = ps.length := by
    rw [← r2.length]; exact F.len _ _ _ _ hq
  refine wpAny_call (make_map (f := f) I.kIn M.makes M.init (beq_iff_eq.mp M.fn) (codeAny_mono (F.run _ X.stack _ _ ⟨Value.ref (s.heap.objs.size + 1) :: us, ks.zip ws⟩ _ _ _ E (hr.make C us (ks.zip ws))
    (I2.env0.make C us (ks.zip ws)) (hb.to _ (Value.ref (s.heap.objs.size + 1) :: us) ws I2.kIn hl) r2 hq) fun r s' hq' => ?_))
  cases r with
  | error e => exact hx pins σ _ _ e s' I2 hq'
  | ok fl =>
    cases fl with
    | ret u =>
      obtain ⟨v, H', I3, rv, ev, q3⟩ := I2.after hq'
      subst ev
      exact ⟨rv, ⟨V.ref (s.heap.objs.size + 1), H', I3, rfl, q3⟩⟩
    | next => exact False.elim hq'
    | brk => exact False.elim hq'
    | cont => exact False.elim hq'

theorem pe_makeK0 (M : Mk X.K C f) (F : FnOk X.prog X.w X.K X.mg X.base CX k f fd ps sp) (hr : Room (k + 1) X.A) (hg : Gl X x) (hm : X.mg x = some (.ref C)) (hb : KBinds X.K fd ps ks g gV) (hx : Passes CX X E)
    (hkw : PK X kws tk) (hall : (backToKw pos (keywordEach kws X.env)).all (·.1.isSome) = true := by rfl) (hks : (backToKw pos (keywordEach kws X.env)).filterMap (·.1) = ks := by rfl)
    (hdb : (x == ("__debug__" : Str)) = false := by decide)
    (hpl : ((backTo pos (starEach [] X.env)).any (·.1) || (backToKw pos (keywordEach kws X.env)).any (·.1.isNone)) = false := by rfl) :
    PE X (.Call (.Name x p) [] kws pos) (tMakeK C sp gV E tNil tk) := by
  constructor
  intro pins s σ H Q I h
  refine wpAny_Call_Name_kw (ld_glob I hg hm ?_ hdb)
  refine PySem.W.callWith_KW0 (h₀ := X.base) I.ok.mod.kin M.kp hall (thn (hkw pos pins s σ H _ I h) fun ws s2 ⟨zs, H2, I2, rz, q2⟩ => ⟨I2.kIn, ?_⟩) hpl
  rw [hks]
  exact run_makek (us := []) (vs := []) M F hr hb hx I2 .nil rz q2

end
end L2

set_option Elab.async false
set_option linter.all false
set_option maxRecDepth 100000

namespace My
open PySem PySem.Spec PyProof.Rows L2

structure Frm (g : List Addr) (H H' : Hp) : Prop where
  keep : ∀ c o, c ∉ g → H c = some o → H' c = some o
  tups : ∀ c xs, H c = some (.tup xs) → H' c = some (.tup xs)
  live : ∀ c o, H c = some o → ∃ o', H' c = some o'
theorem Frm.of_same {g : List Addr} {H H' : Hp} (s : Same H H') : Frm g H H' := ⟨fun c o _ e => s c o e, fun c xs e => s c _ e, fun c o e => ⟨o, s c o e⟩⟩
noncomputable def Dis (f g : List Addr) : Prop := ∀ x, x ∈ f → x ∈ g → False
noncomputable def Liv (H : Hp) (f : List Addr) : Prop := ∀ x ∈ f, ∃ o, H x = some o
noncomputable abbrev Th := List Key × Int
noncomputable def dK : Key → PyData
  | .inl i => .int i
  | .inr x => .str x
noncomputable def ThAt (H : Hp) (v : V) (t : Th) : Prop := ∃ p q, v = .ref p ∧ H p = some (.tup [.ref q, .int t.2]) ∧ H q = some (.tup (t.1.map kV))
noncomputable abbrev Ths (H : Hp) : List V → List Th → Prop := Paired (ThAt H)
noncomputable def keyOk : Key → Prop
  | .inl i => -999 ≤ i ∧ i ≤ 999
  | .inr x => WordS x
structure ThOk (t : Th) : Prop where
  ks : ∀ k ∈ t.1, keyOk k
  hi : t.1.length ≤ 4
  n1 : 1 ≤ t.2
  n2 : t.2 ≤ 999
noncomputable abbrev Own (α : Type) := Hp → Addr → α → List Addr → Prop
structure OwnOk {α : Type} (R : Own α) : Prop where
  frm : ∀ {H H' : Hp} {a : Addr} {d : α} {f g : List Addr}, R H a d f → Frm g H H' → Dis f g → R H' a d f
  liv : ∀ {H : Hp} {a : Addr} {d : α} {f : List Addr}, R H a d f → Liv H f
  slf : ∀ {H : Hp} {a : Addr} {d : α} {f : List Addr}, R H a d f → a ∈ f ∧ ∃ xs, H a = some (.lst xs)
noncomputable def Pg : Own (List Th) := fun H a ts f => f = [a] ∧ ∃ xs, H a = some (.lst xs) ∧ Ths H xs ts
inductive LAll {α : Type} (R : Own α) (H : Hp) : List Addr → List α → List Addr → Prop
  | nil : LAll R H [] [] []
  | cons {b : Addr} {d : α} {f : List Addr} {as : List Addr} {ds : List α} {fs : List Addr} : R H b d f → LAll R H as ds fs → Dis f fs → LAll R H (b :: as) (d :: ds) (f ++ fs)
section
variable {α : Type} {R : Own α} {H H' : Hp}
end
noncomputable def LOf {α : Type} (R : Own α) : Own (List α) := fun H a ds f => ∃ as fs, H a = some (.lst (as.map V.ref)) ∧ LAll R H as ds fs ∧ a ∉ fs ∧ f = a :: fs
noncomputable abbrev Ch : Own (List (List Th)) := LOf Pg
noncomputable abbrev Bk : Own (List (List (List Th))) := LOf Ch
section
variable {α : Type} {R : Own α} {H H' : Hp} {a : Addr} {ds : List α} {fp : List Addr}

end

end My
namespace L2
open PySem PySem.Spec PyProof.Rows
end L2
namespace My
open PySem PySem.Spec PyProof.Rows L2
structure MDef (K : PySem.W.Frag) (C : Addr) (m qual : Str) (st : Stmt) (fa : Addr) (fd : FuncData) : Prop where
  meth : Meth K C m fa
  fn : Fun K m qual st fa fd
end My

set_option Elab.async false
set_option linter.all false
set_option maxRecDepth 100000

namespace L2
open PySem PySem.Spec PyProof.Rows My
end L2
namespace My
open PySem PySem.Spec PyProof.Rows L2
theorem lt_line {n : Nat} (h : n ≤ 100000) : n < sizeLine := Nat.lt_of_le_of_lt h (by decide)

end My

set_option Elab.async false
set_option linter.all false
set_option maxRecDepth 100000

namespace L2
open PySem PySem.Spec PyProof.Rows My
section
variable {X : Cx}

end
end L2
namespace My
open PySem PySem.Spec PyProof.Rows L2

noncomputable def kindOf : Key → Str
  | .inl _ => "number"
  | .inr _ => "word"

structure ThK (ks : List Str) (t : Th) : Prop where
  ok : ThOk t
  kd : t.1.map kindOf = ks
mutual
def wideD : PyData → Bool
  | .list xs => decide (xs.length ≤ 1000) && wideAll xs
  | .tuple xs => decide (xs.length ≤ 1000) && wideAll xs
  | _ => true
def wideAll : List PyData → Bool
  | [] => true
  | x :: r => wideD x && wideAll r
end
theorem wideAll_iff : ∀ {ds : List PyData}, wideAll ds = true ↔ ∀ d ∈ ds, wideD d = true
  | [] => by simp [wideAll]
  | x :: r => by simp [wideAll, wideAll_iff (ds := r)]
theorem shortAll_iff : ∀ {ds : List PyData}, shortAll ds = true ↔ ∀ d ∈ ds, shortD d = true
  | [] => by simp [shortAll]
  | x :: r => by simp [shortAll, shortAll_iff (ds := r)]
theorem canAll_iff : ∀ {ds : List PyData}, PyData.canLayAll0 ds = true ↔ ∀ d ∈ ds, d.canLay0 = true
  | [] => by simp [PyData.canLayAll0]
  | x :: r => by simp [PyData.canLayAll0, canAll_iff (ds := r)]
theorem depthAll_le {n : Nat} : ∀ {ds : List PyData}, PyData.depthAll ds ≤ n ↔ ∀ d ∈ ds, d.depth ≤ n
  | [] => by simp [PyData.depthAll]
  | x :: r => by simp [PyData.depthAll, depthAll_le (ds := r), Nat.max_le]

structure Eas (n : Nat) (d : PyData) : Prop where
  can : d.canLay0 = true
  sh : shortD d = true
  wd : wideD d = true
  dp : d.depth ≤ n
theorem Eas.shaped {n : Nat} {d : PyData} (h : Eas n d) (hn : n ≤ 64) : SeqAt.shaped d = true := by
  simp only [SeqAt.shaped, h.can, Bool.true_and, decide_eq_true_eq]
  exact Nat.le_trans h.dp hn
theorem Eas.lst {n : Nat} {ds : List PyData} (hl : ds.length ≤ 1000) (h : ∀ d ∈ ds, Eas n d) : Eas (n + 1) (.list ds) where
  can := by rw [PyData.canLay0]; exact canAll_iff.mpr fun d hd => (h d hd).can
  sh := by rw [shortD]; exact shortAll_iff.mpr fun d hd => (h d hd).sh
  wd := by rw [wideD, decide_eq_true hl, Bool.true_and]; exact wideAll_iff.mpr fun d hd => (h d hd).wd
  dp := by rw [PyData.depth]; exact Nat.succ_le_succ (depthAll_le.mpr fun d hd => (h d hd).dp)
theorem Eas.tup {n : Nat} {ds : List PyData} (hl : ds.length ≤ 1000) (h : ∀ d ∈ ds, Eas n d) : Eas (n + 1) (.tuple ds) where
  can := by rw [PyData.canLay0]; exact canAll_iff.mpr fun d hd => (h d hd).can
  sh := by rw [shortD]; exact shortAll_iff.mpr fun d hd => (h d hd).sh
  wd := by rw [wideD, decide_eq_true hl, Bool.true_and]; exact wideAll_iff.mpr fun d hd => (h d hd).wd
  dp := by rw [PyData.depth]; exact Nat.succ_le_succ (depthAll_le.mpr fun d hd => (h d hd).dp)
theorem Eas.int (n : Nat) (i : Int) : Eas n (.int i) := ⟨rfl, rfl, rfl, Nat.zero_le _⟩
theorem Eas.non (n : Nat) : Eas n .none := ⟨rfl, rfl, rfl, Nat.zero_le _⟩
end My
namespace My
open PySem PySem.Spec PyProof.Rows L2
end My
namespace L2
open PySem PySem.Spec PyProof.Rows My
section
variable {X : Cx}
end
end L2
namespace L2
open PySem PySem.Spec PyProof.Rows My
section
variable {X : Cx}
theorem pi_tupK {K : PySem.W.Frag} {tg l : Expr} {tl : TE} (h : PE X l tl) (hK : X.K = K := by rfl) : PI X tg l (iTup K tl) := by subst hK; exact pi_tup h
end
end L2
namespace L2
open PySem PySem.Spec PyProof.Rows My
section
variable {X : Cx} {pos : Pos}

end
end L2
namespace My
open PySem PySem.Spec PyProof.Rows L2
end My

set_option Elab.async false
set_option linter.all false
set_option maxRecDepth 100000

namespace My
open PySem PySem.Spec PyProof.Rows L2
noncomputable abbrev Pgs := List (List Th)
noncomputable def BkAt (C : Addr) (H : Hp) (x : Addr) (m : Int) (bs : List Pgs) (f : List Addr) : Prop := ∃ dx a g, H x = some (.ins C dx [("most", .int m), ("chains", .ref a)]) ∧ Bk H a bs g ∧ x ∉ g ∧ f = x :: g
section
variable {H H1 : Hp} {b : Addr} {ps : Pgs} {f : List Addr} {v : V} {t : Th}

end

theorem same_eff {H H1 H2 : Hp} {b : Addr} (s : Same H H1) (n : H b = none) (e : Eff b H1 H2) : Same H H2 := fun c o h => e.2 c o (fun z => by rw [z, n] at h; cases h) (s c o h)

end My

set_option Elab.async false
set_option linter.all false
set_option maxRecDepth 100000

namespace My
open PySem PySem.Spec PyProof.Rows L2

section
open PySem.SeqAt
open PySem.AutoSeq1 (wpAny_loadPart')
open PySem.MeetsSeq PySem.MeetsSeq2 PySem.MeetsSeq3
end
end My

set_option Elab.async false
set_option linter.all false
set_option maxRecDepth 100000

namespace PySem.W

noncomputable def KasT.val {α : Type} (lt : Nat → Nat → Bool) : KasT α → α
  | .ret a => a
  | .ask i j k => (k (lt i j)).val lt

section
variable {n : Nat} (h0 : 0 < n)
include h0
end
end PySem.W
namespace My
open PySem PySem.W PyProof.Rows PySem.Spec

noncomputable def ordOf (lt : Nat → Nat → Bool) (n : Nat) : List Nat := if n < 2 then List.range n else ((kas_sort n).val lt).toList
section
variable {prog : Program} {w : World} {A : Around} {E : Value → Shared → Prop} {s : Shared}
end
end My
namespace My
open PySem PySem.W PyProof.Rows PySem.Spec L2
noncomputable def keyLt : Key → Key → Bool
  | .inl a, .inl b => decide (a < b)
  | .inr x, .inr y => decide (x.cps.toList < y.cps.toList)
  | _, _ => false
noncomputable def lexK : List Key → List Key → Bool
  | [], [] => false
  | [], _ :: _ => true
  | _ :: _, [] => false
  | x :: xs, y :: ys => if x = y then lexK xs ys else keyLt x y
noncomputable def thLt (s t : Th) : Bool := if s.1 = t.1 then decide (s.2 < t.2) else lexK s.1 t.1
noncomputable def srtTh (ts : List Th) : List Th := (ordOf (fun i j => thLt (ts.getD i ([], 0)) (ts.getD j ([], 0))) ts.length).map fun i => ts.getD i ([], 0)
end My
namespace L2
open PySem PySem.W PyProof.Rows PySem.Spec My
section
variable {X : Cx}

end
end L2

set_option Elab.async false
set_option linter.all false
set_option maxRecDepth 100000
namespace My
open PySem PySem.Spec PyProof.Rows L2

theorem up_lt {n f : Nat} (hn : 2 ≤ n) (hf : 2 ≤ f) : (n + f - 1) / f < n := by
  obtain ⟨a, rfl⟩ : ∃ a, n = a + 2 := ⟨n - 2, by omega⟩
  obtain ⟨b, rfl⟩ : ∃ b, f = b + 2 := ⟨f - 2, by omega⟩
  refine Nat.div_lt_of_lt_mul ?_
  rw [Nat.add_mul, Nat.mul_add]
  have : 0 ≤ b * a := Nat.zero_le _
  omega
noncomputable def lvs (f n : Nat) : Nat × Nat :=
  if h : 2 ≤ n ∧ 2 ≤ f then
    let r := lvs f ((n + f - 1) / f)
    (r.1 + 1, r.2 + (n + f - 1) / f)
  else (0, 0)
termination_by n
decreasing_by exact up_lt h.1 h.2
noncomputable def RunAt (C : Addr) (H : Hp) (x : Addr) (m fa : Nat) (ls : List (List Th)) (f : List Addr) : Prop := ∃ dx a g, H x = some (.ins C dx [("most", .int m), ("spread", .int fa), ("held", .ref a)]) ∧ Ch H a ls g ∧ x ∉ g ∧ f = x :: g
theorem peek_load {α : Type} {K : PySem.W.Frag} {S : Setting} {a : Addr} {o : Obj} {p : Option Value} {k : Obj → Sem α} (e : K.lookup a = some o) : PySem.W.peek K S (.load a p k) = PySem.W.peek K S (k o) := by
  simp only [PySem.W.peek, e]
end My

set_option Elab.async false
set_option linter.all false
set_option maxRecDepth 100000

namespace My
open PySem PySem.Spec PyProof.Rows L2

section
open PySem.SeqAt
open PySem.AutoSeq1 (wpAny_loadPart')
open PySem.MeetsSeq PySem.MeetsSeq2 PySem.MeetsSeq3
end
noncomputable def lexKe : List Key → List Key → Bool
  | [], _ => true
  | _ :: _, [] => false
  | x :: ks, y :: ms => if x = y then lexKe ks ms else keyLt x y
noncomputable def thLe (s t : Th) : Bool := if s.1 = t.1 then decide (s.2 ≤ t.2) else lexKe s.1 t.1
end My
namespace L2
open PySem PySem.W PyProof.Rows PySem.Spec My
section
variable {X : Cx}
end
end L2

set_option Elab.async false
set_option linter.all false
set_option maxRecDepth 100000

namespace My
open PySem PySem.Spec PyProof.Rows L2
noncomputable abbrev hd0 (p : List Th) : Th := p.headD ([], 0)

noncomputable def leafAt (ls : List (List Th)) (t : Th) : Nat → Nat
  | 0 => 0
  | n + 1 => if thLe (hd0 (ls.getD (n + 1) [])) t = true then n + 1 else leafAt ls t n
noncomputable def leafFor (ls : List (List Th)) (t : Th) : Nat := leafAt ls t (ls.length - 1)
theorem ixN_of {n j : Nat} (h : j < n) : ixN n (j : Int) = some j := by
  unfold ixN
  rw [if_pos (by omega), if_pos (by omega)]
  simp
noncomputable def leafPut (ls : List (List Th)) (t : Th) : List Th := srtTh (ls.getD (leafFor ls t) [] ++ [t])

noncomputable def putT (m fa : Nat) (ls : List (List Th)) (t : Th) : Nat :=
  if ls = [] then 1 else if (leafPut ls t).length ≤ m then (lvs fa ls.length).1 + 2 else (lvs fa ls.length).1 + 3
end My
namespace L2
open PySem PySem.Spec PyProof.Rows
section
variable {X : Cx} {pos p2 : Pos} {o lo hi : Expr} {to tl th : TE}

end
end L2

set_option Elab.async false
set_option linter.all false
set_option maxRecDepth 100000

namespace My
open PySem PySem.W PyProof.Rows PySem.Spec

structure TotB (n : Nat) (lt : Nat → Nat → Bool) : Prop where
  asym : ∀ i j, i < n → j < n → lt i j = true → lt j i = false
  tot : ∀ i j, i < n → j < n → i ≠ j → lt i j = false → lt j i = true
  trans : ∀ i j k, i < n → j < n → k < n → lt i j = true → lt j k = true → lt i k = true
section
variable {n : Nat} {lt : Nat → Nat → Bool} (T : TotB n lt) (h0 : 0 < n)
include T h0
omit T h0 in
omit T h0 in
end
open L2

noncomputable abbrev Ris (ts : List Th) : Prop := ts.Pairwise (fun s t => thLt s t = true)
end My

set_option Elab.async false
set_option linter.all false
set_option maxRecDepth 100000

namespace My
open PySem PySem.W PyProof.Rows PySem.Spec
section
variable {prog : Program} {w : World} {A : Around} {E : Value → Shared → Prop} {κ : SortKind} {it : Array Keyed}
variable {s : Shared}
end
end My
namespace L2
open PySem PySem.W PyProof.Rows PySem.Spec My
section
variable {X : Cx}
end
end L2

set_option Elab.async false
set_option linter.all false
set_option maxRecDepth 100000

namespace My
open PySem PySem.Spec PyProof.Rows L2
structure Lv (m : Nat) (ks : List Str) (ls : List (List Th)) : Prop where
  pg : ∀ p ∈ ls, p ≠ [] ∧ p.length ≤ m ∧ ∀ t ∈ p, ThK ks t
  ris : Ris ls.flatten
section
variable {m : Nat} {ks : List Str} {ls : List (List Th)} {t : Th} (L : Lv m ks ls) (hk : ThK ks t) (h0 : 0 < ls.length)
include L hk h0
end
end My

set_option Elab.async false
set_option linter.all false
set_option maxRecDepth 100000

namespace My
open PySem PySem.Spec PyProof.Rows L2
section
variable {C : Addr} {H H1 H2 : Hp} {x D L : Addr} {m fa : Nat} {ks : List Str} {ls : List (List Th)} {f1 f2 : List Addr}
end
end My

set_option Elab.async false
set_option linter.all false
set_option maxRecDepth 100000

namespace PySem
open Sem (wp)
open AutoSeq1 (wpAny_loadPart')
section
variable {prog : Program} {w : World} {A : Around} {E : Value → Shared → Prop} {s : Shared} {r : Addr} {a b c : Int} {t u v : Tok} {n : Nat}
end
end PySem
namespace L2
open PySem PySem.W PyProof.Rows PySem.Spec My
section
variable {X : Cx}
end
end L2

set_option Elab.async false
set_option linter.all false
set_option maxRecDepth 100000

namespace L2
open PySem PySem.W PyProof.Rows PySem.Spec My
structure FunD (K : PySem.W.Frag) (dV kV : Value) (x qual : Str) (st : Stmt) (f : Addr) (fd : FuncData) : Prop where
  ex : ∃ (oc : Value) (od : Option Addr) (doc pm : Value) (an : Option Addr) (cdv ct : Value) (osl : Array (Option Value)),
    fd = PySem.W.fnOf x qual (defArgs st) (defBody st) (defScope st) dV kV doc pm an cdv ct ∧ K.lookup f = some ⟨oc, od, .func fd, osl⟩ ∧ PySem.W.codeIn K cdv qual = true
  kp : PySem.W.keepIn K (.ref f) = true
section
variable {P : Program} {w : World} {K : PySem.W.Frag} {mg : Str → Option Value} {base : Heap}
theorem FunD.ok {dV kV : Value} {x qual : Str} {st : Stmt} {f : Addr} {fd : FuncData} {N ps : List Str} {k : Nat} {sp : Sp} (F : FunD K dV kV x qual st f fd) (S : FnScope N ps (defScope st)) (len : ∀ vs H Q E, sp vs H Q E → vs.length = ps.length)
    (hbody : ∀ (cdv : Value) (A : Around) (outer : List Env) (s : Shared) (H : Hp) (vs : List V) (Q : VK) (E : XK), Room k (A.deeper (envOfC qual (defScope st) s.heap.objs.size f cdv)) → sp vs H Q E →
      ∃ t, PSs (cxOf CX0 P w K mg base N qual (defScope st) f cdv A outer s H E).nox (defBody st) t ∧ t { nx := fun _ H' => Q .non H', rt := Q } (start N vs) H) : FnOk P w K mg base CX0 (k + 1) f fd ps sp := by
  obtain ⟨oc, od, doc, pm, an, cdv, ct, osl, rfl, lk, hcd⟩ := F.ex
  refine fn_of lk hcd S len fun A outer s H vs Q E hr hsp => ?_
  obtain ⟨t, h, q⟩ := hbody cdv A outer s H vs Q E hr hsp
  exact ⟨t, h.nox, q⟩
theorem funD_mk {dV kV : Value} {x qual : Str} {st : Stmt} {f : Addr} {oc : Value} {od an : Option Addr} {osl : Array (Option Value)} {doc pm cdv ct : Value} (l : K.lookup f = some ⟨oc, od, .func (PySem.W.fnOf x qual (defArgs st) (defBody st) (defScope st) dV kV doc pm an cdv ct), osl⟩)
    (c : PySem.W.codeIn K cdv qual = true) (k : PySem.W.keepIn K (.ref f) = true) : FunD K dV kV x qual st f (PySem.W.fnOf x qual (defArgs st) (defBody st) (defScope st) dV kV doc pm an cdv ct) := ⟨⟨oc, od, doc, pm, an, cdv, ct, osl, rfl, l, c⟩, k⟩
end
end L2

set_option Elab.async false
set_option linter.all false
set_option maxRecDepth 100000

namespace L2
open PySem PySem.W PyProof.Rows PySem.Spec
section
variable {X : Cx}
end
end L2
namespace My
open PySem PySem.Spec PyProof.Rows L2
section
variable {α β : Type} {K : PySem.W.Frag} {a : Addr} {xs : List V} {ds : List α} {g : TG} {tt : TT} {te : TE} {vs : List Nat} {σ : L2.St} {H1 : Hp} {D : Addr} {Qd : Hp → Prop} {F : Hp → V → α → Prop} {G : Hp → V → β → Prop}
end

noncomputable abbrev Of := Int × List Nat
noncomputable def opn (cs : List Nat) (o : Of) : Bool := o.2.all fun k => decide (k ∈ cs)
noncomputable def least (ns : List Int) : Int := open Classical in if h : ∃ m, m ∈ ns ∧ ∀ y ∈ ns, m ≤ y then h.choose else 0
noncomputable abbrev It := Int × List Of
noncomputable def cost (cs : List Nat) (it : It) : Int := it.1 * least ((it.2.filter (opn cs)).map (·.1))
noncomputable def keepOf (ks : List Int) (cs : List Nat) : Int := (cs.map fun k => ks.getD k 0).sum
noncomputable def tot (its : List It) (ks : List Int) (cs : List Nat) : Int := (its.map (cost cs)).sum + keepOf ks cs
theorem dt_ints (H : Hp) : ∀ ks : List Int, DtAll H (ks.map V.int) (ks.map PyData.int)
  | [] => .nil
  | k :: r => .cons (.int _) (dt_ints H r)
end My

set_option Elab.async false
set_option linter.all false
set_option maxRecDepth 100000

namespace My
open PySem PySem.Spec PyProof.Rows L2
end My
namespace L2
open PySem PySem.W PyProof.Rows PySem.Spec My
section
variable {X : Cx}
end
end L2

set_option Elab.async false
set_option linter.all false
set_option maxRecDepth 100000

namespace My
open PySem PySem.Spec PyProof.Rows L2
section
variable {C : Addr} {H H1 H2 : Hp} {x S L b : Addr} {m : Nat} {ks : List Str} {ls : List (List Th)} {ts : List Th} {f : List Addr}
end
end My

set_option Elab.async false
set_option linter.all false
set_option maxRecDepth 100000

namespace L2
open PySem PySem.W PyProof.Rows PySem.Spec My
section
variable {X : Cx}
end
end L2
namespace My
open PySem PySem.Spec PyProof.Rows L2
section
variable {C : Addr} {Hs H1 H2 : Hp} {x E : Addr} {m fa : Nat} {f0 : List Addr} {ls : List (List Th)} {es : List Th} {f : List Addr}
end
end My

set_option Elab.async false
set_option linter.all false
set_option maxRecDepth 100000

namespace My
open PySem PySem.W PyProof.Rows PySem.Spec
section
variable {prog : Program} {w : World} {A : Around} {E : Value → Shared → Prop} {s : Shared}
end
end My
namespace L2
open PySem PySem.W PyProof.Rows PySem.Spec My
section
variable {X : Cx} {x : Str} {p pos : Pos} {e : Expr} {es : List Expr} {kws : List Keyword} {t tk : TA} {id : String} {ks : List Str}

end
end L2

set_option Elab.async false
set_option linter.all false
set_option maxRecDepth 100000

namespace My
open PySem PySem.Spec PyProof.Rows L2
end My
namespace L2
open PySem PySem.Spec PyProof.Rows My
section
variable {X : Cx}

end
end L2
namespace My
open PySem PySem.Spec PyProof.Rows L2
end My
namespace L2
open PySem PySem.Spec PyProof.Rows My
end L2
namespace My
open PySem PySem.Spec PyProof.Rows L2
section
variable {C : Addr} {H H1 H2 H3 H5 : Hp} {x hl kp L : Addr} {m n n' c : Nat} {ks : List Str} {ts ts' : List Th} {bs bs' bs0 : List Pgs} {f1 f1' fb : List Addr} {ws : List (List Pgs × List Addr)} {vs xs' : List V} {p : Addr}
end

end My
namespace My
open PySem PySem.Spec PyProof.Rows L2
end My

set_option Elab.async false
set_option linter.all false
set_option maxRecDepth 100000

namespace My
open PySem PySem.W PyProof.Rows PySem.Spec L2
section
variable {prog : Program} {w : World} {A : Around} {E : Value → Shared → Prop} {s : Shared}
end
end My
namespace L2
open PySem PySem.W PyProof.Rows PySem.Spec My
section
variable {X : Cx}

end
end L2

set_option Elab.async false
set_option linter.all false
set_option maxRecDepth 100000

namespace My
open PySem PySem.Spec PyProof.Rows L2
noncomputable abbrev Bs := List (Key × List Int)
noncomputable def bsAt (bs : Bs) (k : Key) : Option (List Int) := (bs.find? fun kv => decide (kv.1 = k)).map (·.2)
section
variable {H H' : Hp} {kvs : List (Key × V)} {bs : Bs} {f g : List Addr} {k : Key} {ns : List Int} {p : Addr}
theorem bsAt_neg {b : Key × List Int} {r : Bs} (e : b.1 ≠ k) : bsAt (b :: r) k = bsAt r k := by simp [bsAt, List.find?_cons, e]
theorem any_some (h : bsAt bs k = some ns) : (bs.any fun kv => decide (kv.1 = k)) = true := by
  induction bs with
  | nil => cases h
  | cons b r ih =>
    by_cases c : b.1 = k
    · simp [c]
    · rw [bsAt_neg c] at h
      have := ih h
      simp only [List.any_cons, this, Bool.or_true]
end
end My
namespace L2
open PySem PySem.Spec PyProof.Rows
theorem u1 {n : Nat} (h : n + 64 < cLine) : n + 1 < cLine := by omega

end L2

set_option Elab.async false
set_option linter.all false
set_option maxRecDepth 100000

namespace My
open PySem PySem.Spec PyProof.Rows L2

noncomputable def fnd (its : List It) (cs : List Nat) : Int := (its.map (cost cs)).sum
noncomputable def free (n : Nat) (l : List Nat) : List Nat := (List.range n).filter fun k => decide (k ∉ l)
end My

set_option Elab.async false
set_option linter.all false
set_option maxRecDepth 100000

namespace L2
open PySem PySem.W PyProof.Rows PySem.Spec My
section
variable {X : Cx}

end
end L2
namespace My
open PySem PySem.Spec PyProof.Rows L2
section
variable {α β : Type} {K : PySem.W.Frag} {a : Addr} {xs : List V} {ds : List α} {g : TG} {tt : TT} {te : TE} {vs : List Nat} {σ : L2.St} {H1 : Hp} {D : Addr} {Qd : Hp → Prop} {F : Hp → V → α → Prop} {G : Hp → V → β → Prop}

end
end My

set_option Elab.async false
set_option linter.all false
set_option maxRecDepth 100000

namespace My
open PySem PySem.Spec PyProof.Rows L2
noncomputable abbrev Res := Hp → List Addr → Prop
noncomputable def one (a : Addr) (o : HO) : Res := fun H f => H a = some o ∧ f = [a]
section
variable {ι : Type} [DecidableEq ι]
noncomputable def put {α : Type} (f : ι → α) (i : ι) (x : α) : ι → α := fun j => if j = i then x else f j
variable {R : ι → Res} {F : ι → List Addr} {H H' : Hp}
end

mutual
inductive DtF (H : Hp) : V → PyData → List Addr → Prop
  | non : DtF H .non .none []
  | bl (b : Bool) : DtF H (.bl b) (.bool b) []
  | int (i : Int) : DtF H (.int i) (.int i) []
  | str (x : Str) : DtF H (.str x) (.str x) []
  | tup {a : Addr} {xs : List V} {ds : List PyData} {f : List Addr} : H a = some (.tup xs) → DtFs H xs ds f → DtF H (.ref a) (.tuple ds) f
  | lst {a : Addr} {xs : List V} {ds : List PyData} {f : List Addr} : H a = some (.lst xs) → DtFs H xs ds f → DtF H (.ref a) (.list ds) (a :: f)
inductive DtFs (H : Hp) : List V → List PyData → List Addr → Prop
  | nil : DtFs H [] [] []
  | cons {v : V} {d : PyData} {f : List Addr} {vs : List V} {ds : List PyData} {g : List Addr} : DtF H v d f → DtFs H vs ds g → DtFs H (v :: vs) (d :: ds) (f ++ g)
end
mutual
theorem DtF.frm {g : List Addr} {H H' : Hp} (F : Frm g H H') : ∀ {d : PyData} {v : V} {f : List Addr}, DtF H v d f → Dis f g → DtF H' v d f
  | _, _, _, .non, _ => .non
  | _, _, _, .bl b, _ => .bl b
  | _, _, _, .int i, _ => .int i
  | _, _, _, .str x, _ => .str x
  | _, _, _, .tup e r, k => .tup (F.tups _ _ e) (DtFs.frm F r k)
  | _, _, _, .lst e r, k => .lst (F.keep _ _ (fun z => k _ List.mem_cons_self z) e) (DtFs.frm F r fun y a b => k y (List.mem_cons_of_mem _ a) b)
theorem DtFs.frm {g : List Addr} {H H' : Hp} (F : Frm g H H') : ∀ {ds : List PyData} {vs : List V} {f : List Addr}, DtFs H vs ds f → Dis f g → DtFs H' vs ds f
  | _, _, _, .nil, _ => .nil
  | _, _, _, .cons h r, k => .cons (DtF.frm F h fun y a b => k y (List.mem_append_left _ a) b) (DtFs.frm F r fun y a b => k y (List.mem_append_right _ a) b)
end
end My
namespace L2
open PySem PySem.W PyProof.Rows PySem.Spec
section
variable {X : Cx}

noncomputable def gLst (K : PySem.W.Frag) (n : Nat) (t : TGs) : TG := fun v σ H Q => ∃ a xs, v = .ref a ∧ SqL K H a xs ∧ xs.length = n ∧ t xs σ H Q
theorem pg_lstK {K : PySem.W.Frag} {es : List Expr} {k : Nat} {t : TGs} {n : Nat} {pos : Pos} (hc : X.calm = true) (h : PGs X es t) (hK : X.K = K := by rfl)
    (hn : (assignEach es X.env).length = n := by rfl) (hst : (assignEach es X.env).findIdx? (·.1) = none := by rfl) : PG X (.Tuple es k pos) (gLst K n t) := by
  subst hK
  constructor
  intro pins s σ H v u Q I r hw
  obtain ⟨a, xs, e1, hq, hl, hw⟩ := hw
  subst e1
  cases r
  obtain ⟨its, rv, ht, hz⟩ := I.list hq
  rw [PyProof.Rows.assign_Tuple]
  refine wpAny_bind (wpAny_standAt ?_)
  unfold unpack
  have hlen : (assignEach es X.env).length = its.toArray.size := by simp [hn, ← hl, rv.length]
  rw [hlen, hst]
  refine wpAny_bind (wpAny_holding (kun_itemsOf (I.ok.hd hc) ht.isList fun h' hx => ?_))
  have I1 : Inv X pins σ H { s with heap := h' } := I.kept (t' := s.toks) fun b o e => hx b o (Nat.ne_of_lt (Heap.lt_size e)) e
  exact h pins _ σ H xs _ Q I1 (by simpa using rv) hw
end
end L2

set_option Elab.async false
set_option linter.all false
set_option maxRecDepth 100000

namespace My
open PySem PySem.Spec PyProof.Rows L2
inductive Ix
  | hold (tw : Bool) (a : Fin 2) (w : Fin 3)
  | tri (tw : Bool) (a : Fin 2)
  | sets (tw : Bool)
  | known (a : Fin 2) (w : Fin 3)
  | knownL (a : Fin 2)
  | there
  | held
  | kept (n : Nat)
  | kinds
  deriving DecidableEq
inductive Ct
  | run (x : Addr) (ls : List (List Th))
  | bk (x : Addr) (bs : List Pgs)
  | bits (x : Addr) (bt : Bs)
  | obj (a : Addr) (o : HO)
  | things (a : Addr) (ts : List Th)
  | kept (v : V) (d : PyData)
  | nothing
structure Cs where
  C1 : Addr
  C2 : Addr
  C3 : Addr
  m : Nat
section
variable {c : Cs} {t : Ix → Ct} {F : Ix → List Addr} {H H' : Hp}
end

structure Ad where
  x : Bool → Fin 2 → Fin 3 → Addr
  tri : Bool → Fin 2 → Addr
  sets : Bool → Addr
  kn : Fin 2 → Fin 3 → Addr
  knL : Fin 2 → Addr
  th : Addr
  hd : Addr
  kd : Addr
structure V13 where
  ls : Fin 2 → List (List Th)
  bs : Fin 2 → List Pgs
  bt : Fin 2 → Bs
  ts : Fin 2 → Fin 3 → List Th
  ws : List (V × PyData)
noncomputable def V13.putT (s : V13) (a : Fin 2) (w : Fin 3) (ts' : List Th) : V13 := { s with ts := put s.ts a (put (s.ts a) w ts') }
section
variable {m n : Nat} {ks : List Str} {kd : Str} {s : V13} {a : Fin 2} {t : Th}
end

section
variable {m n : Nat} {ks : List Str} {kd : Str} {s : V13} {a : Fin 2} {t : Th} {kk : Key}
end

section
variable {c : Cs} {t : Ix → Ct} {F : Ix → List Addr} {H H' : Hp}
end
section
variable {c : Cs} {t : Ix → Ct} {F : Ix → List Addr} {H0 H H' : Hp}
end
end My

set_option Elab.async false
set_option linter.all false
set_option maxRecDepth 100000

namespace My
open PySem PySem.Spec PyProof.Rows L2
section
variable {C1 C2 C3 : Addr} {m n : Nat} {ks : List Str} {kd : Str} {s : V13} {t : Th} {kk : Key} {r : List Key} {A : Ad}
end
end My

set_option Elab.async false
set_option linter.all false
set_option maxRecDepth 100000

namespace L2
open PySem PySem.Spec PyProof.Rows

structure Prp (K : PySem.W.Frag) (C : Addr) (m : Str) (p f : Addr) : Prop where
  at_ : PySem.W.findIn K (.ref C) m = some (some (.ref p))
  gt : PySem.W.specialIn K (.ref p) "__get__" = some (some (.builtin "property.__get__"))
  tk : PySem.W.takesIn K (.ref p) = some true
  rc : ∃ rest, PySem.W.recIn K p "property" = some (.ref f :: rest)

noncomputable def tProp (C : Addr) (sp : Sp) (ta : TE) : TE := fun σ H Q => ta σ H fun x H1 => ∃ a dx fs, x = .ref a ∧ H1 a = some (.ins C dx fs) ∧ sp [x] H1 Q E0
section
variable {X : Cx} {k : Nat} {f C p : Addr} {fd : FuncData} {ps : List Str} {sp : Sp} {m : Str} {pos : Pos} {e : Expr} {ta : TE}
theorem prop_ok {pins : List (Addr × Obj)} {σ : St} {H : Hp} {s : Shared} {a dx : Addr} {fs : List (Str × V)} {b : Bool} {Q : VK} (I : Inv X pins σ H s) (ea : H a = some (.ins C dx fs)) (c : Cls X.K C) (pr : Prp X.K C m p f)
    (F : FnOk X.prog X.w X.K X.mg X.base CX0 k f fd ps sp) (hr : Room (k + 1) X.A) (hb : Binds X.K fd ps []) (h : sp [.ref a] H Q E0) : wpAny (model X.prog X.w) X.A (getAttr (.ref a) m b) (EP X pins σ Q) X.xe s := by
  obtain ⟨mA, O, r, _, _, _⟩ := ins_get I.hok ea
  obtain ⟨od, J, hl⟩ := O.look
  obtain ⟨rest, hrc⟩ := pr.rc
  have I1 := I.tok (s.toks + 1)
  have hl1 : [Value.ref a].length = ps.length := F.len _ _ _ _ h
  refine PySem.W.get_bind I.kIn J (PySem.W.plainGet_of (c.get m)).1 (PySem.W.findObj_data (by obtain ⟨cd, hc, _⟩ := PySem.W.any_some c.hd; rw [hc]; rfl) pr.at_ pr.gt pr.tk) (PySem.W.plainGet_of (c.get m)).2
    (wpAny_call (PySem.W.prop_get (s := { s with toks := s.toks + 1 }) I.kIn hrc ?_))
  refine codeAny_mono (F.run X.A.in1 X.stack _ H ⟨[.ref a], []⟩ [.ref a] [.ref a] Q E0 hr.in1 I1.env0.in1 (hb _ [.ref a] I1.kIn hl1) (.cons rfl .nil) h) fun r s' hq => ?_
  cases r with
  | error x => exact False.elim hq
  | ok fl =>
    cases fl with
    | ret u =>
      have := I1.after hq
      obtain ⟨v, H', I3, rv, q3⟩ := this
      exact PySem.W.handed_on (handed_of rv) ⟨v, H', I3, rv, q3⟩
    | next => exact False.elim hq
    | brk => exact False.elim hq
    | cont => exact False.elim hq
theorem pe_prop (he : PE X e ta) (c : Cls X.K C) (pr : Prp X.K C m p f) (F : FnOk X.prog X.w X.K X.mg X.base CX0 k f fd ps sp) (hr : Room (k + 1) X.A) (hb : Binds X.K fd ps []) (hb' : attributeBase e m X.env (eval e X.env) = eval e X.env := by rfl) : PE X (.Attribute e m pos) (tProp C sp ta) := by
  constructor
  intro pins s σ H Q I h
  refine attr_of hb' (thn (he pins s σ H _ I h) fun u s1 ⟨x, H1, I1, rx, a, dx, fs, ex, ea, q⟩ => ?_)
  subst ex
  obtain rfl : u = Value.ref a := rx
  exact prop_ok I1 ea c pr F hr hb q
end

structure PDef (K : PySem.W.Frag) (C : Addr) (m qual : Str) (st : Stmt) (fa : Addr) (fd : FuncData) : Prop where
  prp : ∃ p, Prp K C m p fa
  fn : Fun K m qual st fa fd
theorem pe_propE {X : Cx} {k : Nat} {f C : Addr} {fd : FuncData} {ps : List Str} {sp : Sp} {m : Str} {pos : Pos} {e : Expr} {ta : TE} (he : PE X e ta) (c : Cls X.K C) (pr : ∃ p, Prp X.K C m p f) (F : FnOk X.prog X.w X.K X.mg X.base CX0 k f fd ps sp) (hr : Room (k + 1) X.A) (hb : Binds X.K fd ps []) (hb' : attributeBase e m X.env (eval e X.env) = eval e X.env := by rfl) : PE X (.Attribute e m pos) (tProp C sp ta) :=
  let ⟨_, q⟩ := pr
  pe_prop he c q F hr hb hb'

structure MkDefD (K : PySem.W.Frag) (C : Addr) (qual : Str) (st : Stmt) (dV kV : Value) (fa : Addr) (fd : FuncData) : Prop where
  mkc : Mk K C fa
  fn : FunD K dV kV "__init__" qual st fa fd
end L2

set_option Elab.async false
set_option linter.all false
set_option maxRecDepth 100000

namespace My
open PySem PySem.Spec PyProof.Rows L2

theorem nextK {D : Ends} {σ : L2.St} {H : Hp} (h : D.nx σ H) : tNext D σ H := h
structure Sh where
  r : Nat
  e : Nat
  f : Nat
  b : Nat
  c : Nat
structure ShOk (h : Sh) : Prop where
  r : 2 ≤ h.r ∧ h.r ≤ 8
  e : 2 ≤ h.e ∧ h.e ≤ 8
  f : 2 ≤ h.f ∧ h.f ≤ 8
  b : 1 ≤ h.b ∧ h.b ≤ 8
  c : 2 ≤ h.c ∧ h.c ≤ 64
noncomputable def shV (h : Sh) : List V := [.int h.r, .int h.e, .int h.f, .int h.b, .int h.c]
noncomputable def ShAt (C : Addr) (H : Hp) (x : Addr) (h : Sh) : Prop := ∃ dx t, H x = some (.ins C dx [("measures", .ref t)]) ∧ H t = some (.tup (shV h))
noncomputable def sp_first_wrong : Sp := fun vs H Q _ => ∃ (t : Addr) (h : Sh), vs = [.ref t] ∧ H t = some (.tup (shV h)) ∧ ShOk h ∧ ∀ H', Same H H' → Q .non H'
noncomputable def sp_Shape___init__ (C : Addr) : Sp := fun vs H Q _ => ∃ (x dx : Addr) (h : Sh), vs = [.ref x, .int h.r, .int h.e, .int h.f, .int h.b, .int h.c] ∧ H x = some (.ins C dx []) ∧ ShOk h ∧ ∀ H', ShAt C H' x h → (∀ b o, H b = some o → b ≠ x → H' b = some o) → Q .non H'
noncomputable def sp_Shape_of (C : Addr) (g : Sh → Nat) : Sp := fun vs H Q _ => ∃ (x : Addr) (h : Sh), vs = [.ref x] ∧ ShAt C H x h ∧ Q (.int (g h)) H
theorem sfld_m (v : V) : ([("measures", v)] : List (Str × V)).lookup ("measures" : Str) = some v := by rfl

noncomputable def HpAt (C : Addr) (H : Hp) (y : Addr) (m : Int) (ps : Pgs) (f : List Addr) : Prop := ∃ dy a g, H y = some (.ins C dy [("most", .int m), ("held", .ref a)]) ∧ Ch H a ps g ∧ y ∉ g ∧ f = y :: g
theorem SqT.sames {K : PySem.W.Frag} {H H' : Hp} {a : Addr} {xs : List V} (h : SqT K H a xs) (s : Same H H') : SqT K H' a xs := (show SqS K H' (false, a) xs from SqS.same (show SqS K H (false, a) xs from h) s)

theorem lc_tup_mapK {K : PySem.W.Frag} {a : Addr} {xs : List V} {g : TG} {tt : TT} {te : TE} {vs : List Nat} {σ : L2.St} {H1 : Hp} {D : Addr} {Qd : Hp → Prop} (hD : H1 D = none) (f : Nat → V) (ha : SqT K H1 a xs) (hz : xs.length < sizeLine)
    (hs : ∀ i x H (R : VK) (F : Hp → Prop), xs[i]? = some x → Same H1 H → (∀ H', Same H H' → R (f i) H') → g x (wipe σ vs) H fun σ2 H2 => wipe σ2 vs = wipe σ vs ∧ tt σ2 H2 fun b H3 => if b = true then te σ2 H3 R else F H3)
    (hd : ∀ H', Same H1 H' → H' D = some (.lst ((List.range xs.length).map f)) → Qd H') :
    ∃ W : Nat → Nat → Hp → Prop, (∃ m, W 0 m (upd H1 D (.lst []))) ∧ ∀ i m H, W i m H →
      ((Itt K a).stop i H ∧ Qd H) ∨ ((Itt K a).go i H ∧ ∃ Nx : Hp → Prop, (∀ H', Nx H' → ∃ m', m' < m ∧ W (i + 1) m' H') ∧ ∀ x H', (Itt K a).yld i H x H' → g x (wipe σ vs) H' fun σ2 H2 => wipe σ2 vs = wipe σ vs ∧ tt σ2 H2 fun b H3 =>
        if b = true then te σ2 H3 fun y H4 => ∃ acc, H4 D = some (.lst acc) ∧ acc.length < sizeLine ∧ Nx (upd H4 D (.lst (acc ++ [y]))) else Nx H3) := by
  refine lc_tup (xs := xs) (fun i H => Same H1 H ∧ H D = some (.lst ((List.range i).map f))) ⟨same_put (Same.refl _) hD, upd_same⟩ (fun i H _ ⟨s, _⟩ => SqT.sames ha s) (fun i x H hx ⟨s, e⟩ => ?_) (fun H ⟨s, e⟩ => hd H s e)
  refine hs i x H _ _ hx s fun H' s' => ⟨_, s' _ _ e, ?_, same_put (s.trans s') hD, ?_⟩
  · rw [List.length_map, List.length_range]
    exact Nat.lt_trans (List.getElem?_eq_some_iff.mp hx).1 hz
  · rw [upd_same, List.range_succ, List.map_append]; rfl
noncomputable def valAt (names : List Str) (row : List Key) (w : Str) : Key := row.getD (names.idxOf w) (.inl 0)
end My

set_option Elab.async false
set_option linter.all false
set_option maxRecDepth 100000

namespace L2
open PySem PySem.Spec PyProof.Rows
section
variable {X : Cx}
end
end L2

set_option Elab.async false
set_option linter.all false
set_option maxRecDepth 100000

namespace My
open PySem PySem.Spec PyProof.Rows L2
inductive Hd where
  | heap (ps : Pgs)
  | run (ls : Pgs)
  | bk (bs : List Pgs)
noncomputable def Hd.kind : Hd → Str
  | .heap _ => "heap"
  | .run _ => "sorted"
  | .bk _ => "hashed"
structure Cz where
  sh : Addr
  hp : Addr
  rn : Addr
  bk : Addr
  st : Addr
noncomputable def HdAt (c : Cz) (H : Hp) (y : Addr) (h : Sh) : Hd → List Addr → Prop
  | .heap ps, f => HpAt c.hp H y h.r ps f
  | .run ls, f => RunAt c.rn H y h.r h.f ls f
  | .bk bs, f => BkAt c.bk H y h.r bs f
noncomputable abbrev Rs := List (Int × List Key)
noncomputable def RowAt (H : Hp) (v : V) (row : List Key) : Prop := ∃ r, v = .ref r ∧ H r = some (.tup (row.map kV))
noncomputable def RowsAt (H : Hp) (kvs : List (Key × V)) (rs : Rs) : Prop := Paired (fun (p : Key × V) (q : Int × List Key) => p.1 = .inl q.1 ∧ RowAt H p.2 q.2) kvs rs
noncomputable def RowK (cols : Cols) (row : List Key) : Prop := row.map kindOf = cols.map (·.2) ∧ ∀ k ∈ row, keyOk k
structure RsOk (cols : Cols) (ws : List Str) (rs : Rs) (g : Nat) : Prop where
  c1 : 1 ≤ cols.length
  c6 : cols.length ≤ 6
  kd : Kinds cols
  nm : NamesOK (cols.map (·.1))
  wn : ∀ w ∈ ws, w ∈ cols.map (·.1)
  w3 : ws.length ≤ 4
  row : ∀ p ∈ rs, RowK cols p.2
  num : ∀ p ∈ rs, 1 ≤ p.1 ∧ p.1 ≤ g
  ris : rs.Pairwise fun p q => p.1 < q.1
  g60 : g ≤ 61
noncomputable def thOf (cols : Cols) (ws : List Str) (p : Int × List Key) : Th := (ws.map (valAt (cols.map (·.1)) p.2), p.1)
noncomputable def kdsOf (cols : Cols) (ws : List Str) : List Str := ws.map fun w => (cols.map (·.2)).getD ((cols.map (·.1)).idxOf w) ""
noncomputable def stF (kd : Str) (sh fo kp hp d : Addr) (g : Int) : List (Str × V) := [("shape", .ref sh), ("form", .ref fo), ("kind", .str kd), ("key", .ref kp), ("holder", .ref hp), ("by_number", .ref d), ("given", .int g)]

noncomputable def SqK (K : PySem.W.Frag) (H : Hp) (a : Addr) (xs : List V) : Prop := H a = some (.tup xs) ∨ SqT K (fun _ => none) a xs
structure StAt (K : PySem.W.Frag) (c : Cz) (H : Hp) (x y : Addr) (h : Sh) (cols : Cols) (ws : List Str) (hd : Hd) (rs : Rs) (g : Nat) (f : List Addr) : Prop where
  ex : ∃ dx fo kp hp d kvs fh, H x = some (.ins c.st dx (stF hd.kind y fo kp hp d g)) ∧ FormAt H fo cols ∧ SqK K H kp (ws.map V.str) ∧ HdAt c H hp h hd fh ∧ H d = some (.dK kvs) ∧ RowsAt H kvs rs ∧ x ≠ d ∧ x ∉ fh ∧ d ∉ fh ∧ f = x :: d :: fh
  sh : ShAt c.sh H y h
  ok : ShOk h
  nf : y ∉ f
  rs : RsOk cols ws rs g
theorem ShAt.frm {C : Addr} {H H' : Hp} {x : Addr} {h : Sh} {g : List Addr} (k : ShAt C H x h) (F : Frm g H H') (n : x ∉ g) : ShAt C H' x h := by
  obtain ⟨dx, t, h1, h2⟩ := k
  exact ⟨dx, t, F.keep _ _ n h1, F.tups _ _ h2⟩
section
variable (K : PySem.W.Frag) (c : Cz) (P : Hd → Prop)
end
end My

set_option Elab.async false
set_option linter.all false
set_option maxRecDepth 100000

namespace My
open PySem PySem.Spec PyProof.Rows L2
section
variable {K : PySem.W.Frag} {c : Cz} {H H' : Hp} {x y : Addr} {h : Sh} {cols : Cols} {ws : List Str} {hd : Hd} {rs : Rs} {g : Nat} {dx fo kp hp d : Addr} {kvs : List (Key × V)} {fh f : List Addr}
end
end My

set_option Elab.async false
set_option linter.all false
set_option maxRecDepth 100000

namespace My
open PySem PySem.Spec PyProof.Rows L2
end My
namespace My
open PySem PySem.W PyProof.Rows PySem.Spec L2

end My
namespace L2
open PySem PySem.W PyProof.Rows PySem.Spec My
section
variable {X : Cx}

end
end L2

set_option Elab.async false
set_option linter.all false
set_option maxRecDepth 100000

namespace My
open PySem PySem.Spec PyProof.Rows L2
end My
namespace My
open PySem PySem.Spec PyProof.Rows L2
end My
namespace L2
open PySem PySem.Spec PyProof.Rows
end L2
namespace My
open PySem PySem.Spec PyProof.Rows L2
end My

set_option Elab.async false
set_option linter.all false
set_option maxRecDepth 100000

namespace My
open PySem PySem.Spec PyProof.Rows L2
end My
namespace My
open PySem PySem.Spec PyProof.Rows L2
end My

set_option Elab.async false
set_option linter.all false
set_option maxRecDepth 100000

namespace My
open PySem PySem.Spec PyProof.Rows L2
end My

set_option Elab.async false
set_option linter.all false
set_option maxRecDepth 100000

namespace L2
open PySem PySem.Spec PyProof.Rows
end L2
namespace My
open PySem PySem.Spec PyProof.Rows L2
end My
namespace My
open PySem PySem.Spec PyProof.Rows L2
end My

set_option Elab.async false
set_option linter.all false
set_option maxRecDepth 100000

namespace My
open PySem PySem.Spec PyProof.Rows L2
structure StL {α : Type} (R : Own α) (K : PySem.W.Frag) (c : Cz) (H H1 : Hp) (x sh d pg fo : Addr) (h : Sh) (cols : Cols) (ws : List Str) (hd : Hd) (rs : Rs) (g : Nat) (f : List Addr) (kvs : List (Key × V)) (rsD : Rs) (q : α) (f2 : List Addr) : Prop where
  rok : OwnOk R
  same : Same H H1
  st : StAt K c H1 x sh h cols ws hd rs g f
  fm : FormAt H1 fo cols
  hd : H1 d = some (.dK kvs)
  rows : RowsAt H1 kvs rsD
  lp : R H1 pg q f2
  dis : Dis f f2
  df : d ∉ f
  df2 : d ∉ f2
  ds : d ≠ sh
  sf2 : sh ∉ f2
  n1 : ∀ y ∈ f, H y = none
  n2 : ∀ y ∈ f2, H y = none
  nd : H d = none
  ns : H sh = none
section
variable {α : Type} {R : Own α} {K : PySem.W.Frag} {c : Cz} {H H1 H2 : Hp} {x sh d pg fo : Addr} {h : Sh} {cols : Cols} {ws : List Str} {hd hd' : Hd} {rs rs' : Rs} {g g' : Nat} {f f' : List Addr} {kvs kvs' : List (Key × V)} {rsD rsD' : Rs} {q q' : α} {f2 f2' : List Addr}
end

end My
namespace My
open PySem PySem.Spec PyProof.Rows L2
end My

set_option Elab.async false
set_option linter.all false
set_option maxRecDepth 100000

namespace L2
open PySem PySem.Spec PyProof.Rows
section
variable {prog : Program} {w : World} {A : Around} {R : Result → Shared → Prop} {it : Addr} {fp wr : List Addr} {GG : Array GenState → Array GenState → Prop} {n : Nat} {PP : Nat → Value → Prop} {Sx : Nat → Shared → Prop}
end
end L2
namespace PySem
open PySem.Spec PyProof.Rows L2
section
variable {prog : Program} {w : World} {A : Around} {E : Value → Shared → Prop} {s : Shared}
end
end PySem
namespace L2
open PySem PySem.Spec PyProof.Rows
section
variable {X : Cx}

end
end L2

set_option Elab.async false
set_option linter.all false
set_option maxRecDepth 100000

namespace My
open PySem PySem.Spec PyProof.Rows L2
end My

set_option Elab.async false
set_option linter.all false
set_option maxRecDepth 100000

namespace My
open PySem PySem.Spec PyProof.Rows L2
end My

set_option Elab.async false
set_option linter.all false
set_option maxRecDepth 100000

namespace My
open PySem PySem.Spec PyProof.Rows L2
structure StM {α : Type} (R : Own α) (K : PySem.W.Frag) (c : Cz) (H H1 : Hp) (x sh d pg fo ko : Addr) (h : Sh) (cols : Cols) (ws : List Str) (hd : Hd) (rs : Rs) (g : Nat) (f : List Addr) (kvs : List (Key × V)) (rsD : Rs) (q : α) (f2 : List Addr) : Prop where
  s : StL R K c H H1 x sh d pg fo h cols ws hd rs g f kvs rsD q f2
  kt : H1 ko = some (.tup (ws.map V.str))
section
variable {α : Type} {R : Own α} {K : PySem.W.Frag} {c : Cz} {H H1 H2 : Hp} {x sh d pg fo ko : Addr} {h : Sh} {cols : Cols} {ws : List Str} {hd hd' : Hd} {rs rs' : Rs} {g g' : Nat} {f f' : List Addr} {kvs kvs' : List (Key × V)} {rsD rsD' : Rs} {q q' : α} {f2 f2' : List Addr}
end

section
variable {cols : Cols} {ws : List Str} {rs : Rs} {g : Nat}
structure RunIn (m : Nat) (cols : Cols) (ws : List Str) (rs : Rs) (ls : Pgs) : Prop where
  lv : Lv m (kdsOf cols ws) ls
  pm : ls.flatten.Perm (rs.map (thOf cols ws))
variable {m : Nat} {ls : Pgs}
end
end My
namespace My
open PySem PySem.Spec PyProof.Rows L2
end My
namespace L2

end L2
namespace My
open PySem PySem.Spec PyProof.Rows L2
structure P16 where
  (K : PySem.W.Frag) (c : Cz) (H : Hp) (a x sh d pg fo ko : Addr) (m fan : Nat) (cols : Cols) (ws : List Str)
noncomputable abbrev P16.h (p : P16) : Sh := ⟨p.m, 4, p.fan, 4, 16⟩

noncomputable abbrev S16 (p : P16) (H1 : Hp) (g : Nat) (ls : Pgs) (rs : Rs) (f : List Addr) (kvs : List (Key × V)) (f2 : List Addr) : Prop := StM Ch p.K p.c p.H H1 p.x p.sh p.d p.pg p.fo p.ko p.h p.cols p.ws (.run ls) rs g f kvs rs ls f2 ∧ RunIn p.m p.cols p.ws rs ls ∧ g ≤ 60
end My

set_option Elab.async false
set_option linter.all false
set_option maxRecDepth 100000

namespace My
open PySem PySem.Spec PyProof.Rows L2
section
variable {cols : Cols} {ws : List Str} {rs : Rs} {g n c : Nat} {bs : List Pgs}
end
end My
namespace My
open PySem PySem.Spec PyProof.Rows L2
end My
namespace My
open PySem PySem.Spec PyProof.Rows L2
section
variable {cols : Cols} {ws : List Str} {rs : Rs} {g n c : Nat} {bs : List Pgs}
end

end My
namespace My
open PySem PySem.Spec PyProof.Rows L2
end My

set_option Elab.async false
set_option linter.all false
set_option maxRecDepth 100000

namespace L2
open PySem PySem.Spec PyProof.Rows
section
variable {X : Cx}
end
end L2

set_option Elab.async false
set_option linter.all false
set_option maxRecDepth 100000

namespace My
open PySem PySem.Spec PyProof.Rows L2
inductive Hx where
  | run (ls : Pgs)
  | bk (bs : List Pgs)
noncomputable def Hx.kind : Hx → Str
  | .run _ => "tree"
  | .bk _ => "hash"
structure Ci where
  cz : Cz
  ix : Addr
section
variable {c : Ci} {H H' : Hp} {x : Addr} {h : Sh} {cols : Cols} {ws : List Str} {hx hx' : Hx} {f g : List Addr} {dx dp wp cp hp : Addr} {fh fh' : List Addr}
end

section
variable (K : PySem.W.Frag) (c : Ci) (P : Hx → Prop)
end
end My

set_option Elab.async false
set_option linter.all false
set_option maxRecDepth 100000

namespace My
open PySem PySem.Spec PyProof.Rows L2

section
variable {β : Type} {R : Own β} {K : PySem.W.Frag} {c : Ci} {H H1 : Hp} {x ix sh d pg fo : Addr} {h : Sh} {cols : Cols} {ws wk : List Str} {hd : Hd} {rs : Rs} {g : Nat} {f : List Addr} {kvs : List (Key × V)} {rsD : Rs} {hx : Hx} {b : β} {f2 : List Addr}
end

section
variable {β : Type} {R : Own β} {K : PySem.W.Frag} {c : Ci} {H H1 H2 : Hp} {x ix sh d pg fo : Addr} {h : Sh} {cols : Cols} {ws wk : List Str} {hd : Hd} {rs : Rs} {g : Nat} {f : List Addr} {kvs : List (Key × V)} {rsD : Rs} {hx : Hx} {b : β} {f2 fi : List Addr}

end

end My

set_option Elab.async false
set_option linter.all false
set_option maxRecDepth 100000

namespace L2
open PySem PySem.Spec PyProof.Rows
section
variable {X : Cx} {pins : List (Addr × Obj)} {σ : St} {H : Hp} {s : Shared} {a : Addr} {y v : V} {u r : Value} {A : Around} {E : Value → Shared → Prop}
end
section
variable {X : Cx}

end
end L2

set_option Elab.async false
set_option linter.all false
set_option maxRecDepth 100000

namespace L2
open PySem PySem.Spec PyProof.Rows

end L2
namespace My
open PySem PySem.Spec PyProof.Rows L2
inductive Cn where
  | is (col : Str) (v : Key)
  | frm (col : Str) (lo hi : Option Key)
noncomputable def Cn.col : Cn → Str
  | .is w _ => w
  | .frm w _ _ => w
end My

set_option Elab.async false
set_option linter.all false
set_option maxRecDepth 100000

namespace My
open PySem PySem.W PyProof.Rows PySem.Spec L2
end My
namespace L2
open PySem PySem.W PyProof.Rows PySem.Spec My
section
variable {X : Cx}

end
end L2
namespace My
open PySem PySem.W PyProof.Rows PySem.Spec L2
end My

set_option Elab.async false
set_option linter.all false
set_option maxRecDepth 100000

namespace L2
open PySem PySem.Spec PyProof.Rows
end L2
namespace My
open PySem PySem.Spec PyProof.Rows L2

end My

set_option Elab.async false
set_option linter.all false
set_option maxRecDepth 100000

namespace My
open PySem PySem.W PyProof PyProof.Rows PySem.Spec L2
section
variable {prog : Program} {w : World} {A : Around} {E : Value → Shared → Prop} {s : Shared}
end
end My
namespace L2
open PySem PySem.W PyProof PyProof.Rows PySem.Spec My
variable {X : Cx}
end L2

set_option Elab.async false
set_option linter.all false
set_option maxRecDepth 100000

namespace My
open PySem PySem.Spec PyProof.Rows L2

end My

set_option Elab.async false
set_option linter.all false
set_option maxRecDepth 100000

namespace L2
open PySem PySem.W PyProof.Rows PySem.Spec My
section
variable {X : Cx}
end
end L2
namespace My
open PySem PySem.Spec PyProof.Rows L2
end My
namespace My
open PySem PySem.Spec PyProof.Rows L2
end My

set_option Elab.async false
set_option linter.all false
set_option maxRecDepth 100000

namespace L2
open PySem PySem.Spec PyProof.Rows
end L2
namespace My
open PySem PySem.Spec PyProof.Rows L2
section
variable {h : Sh} {cols : Cols} {ws : List Str} {n g : Nat} {rs : Rs} {hd : Hd}
end
end My
namespace My
open PySem PySem.Spec PyProof.Rows L2

end My
namespace My
open PySem PySem.Spec PyProof.Rows L2
section
variable {α : Type} {R : Own α} {K : PySem.W.Frag} {c : Cz} {H H1 H2 : Hp} {x sh d pg fo : Addr} {h : Sh} {cols : Cols} {ws : List Str} {hd hd' : Hd} {rs rs' : Rs} {g g' : Nat} {f f' : List Addr} {kvs kvs' : List (Key × V)} {q q' : α} {f2 f2' : List Addr} {b : Addr}
end
end My
namespace My
open PySem PySem.Spec PyProof.Rows L2
end My
namespace My
open PySem PySem.Spec PyProof.Rows L2
end My

set_option Elab.async false
set_option linter.all false
set_option maxRecDepth 100000

namespace My
open PySem PySem.Spec PyProof.Rows L2
inductive Hy where
  | run (ls : Pgs)
  | bk (bs : List Pgs)
  | bits (bs : Bs)
noncomputable def Hy.kind : Hy → Str
  | .run _ => "tree"
  | .bk _ => "hash"
  | .bits _ => "bits"
structure Cj where
  cz : Cz
  ix : Addr
  bi : Addr
section
variable {c : Cj} {H H' : Hp} {x : Addr} {h : Sh} {cols : Cols} {ws : List Str} {hx hx' : Hy} {f g : List Addr} {dx dp wp cp hp : Addr} {fh fh' : List Addr}
end

end My
namespace My
open PySem PySem.Spec PyProof.Rows L2
section
variable (K : PySem.W.Frag) (c : Cj)
end

section
variable {h : Sh} {cols : Cols} {ws : List Str} {n g : Nat} {rs : Rs} {hx : Hy}
end
end My

set_option Elab.async false
set_option linter.all false
set_option maxRecDepth 100000

namespace My
open PySem PySem.Spec PyProof.Rows L2
section
variable {h : Sh} {cols : Cols} {ws : List Str} {n g : Nat} {rs : Rs} {hd : Hd}
end

section
variable {α : Type} {R : Own α} {K : PySem.W.Frag} {c : Cz} {H H1 H2 : Hp} {x : Fin 3 → Addr} {l sh d pg fo : Addr} {h : Sh} {cols : Cols} {ws : Fin 3 → List Str} {hd : Fin 3 → Hd} {rs : Fin 3 → Rs} {g : Fin 3 → Nat} {f : Fin 3 → List Addr} {kvs kvs' : List (Key × V)} {rsD rsD' : Rs} {q q' : α} {f2 f2' : List Addr} {hd' : Hd} {rs' : Rs} {g' : Nat} {f' : List Addr}
end
end My

set_option Elab.async false
set_option linter.all false
set_option maxRecDepth 100000

namespace My
open PySem PySem.Spec PyProof.Rows L2
section
variable {α : Type} (R : Own α) (K : PySem.W.Frag) (c : Cz)
end
end My
namespace My
open PySem PySem.Spec PyProof.Rows L2

end My
namespace My
open PySem PySem.Spec PyProof.Rows L2
section
variable {α : Type} (R : Own α) (K : PySem.W.Frag) (c : Cz)
end
end My

set_option Elab.async false
set_option linter.all false
set_option maxRecDepth 100000

namespace My
open PySem PySem.Spec PyProof.Rows L2
section
variable {β : Type} {F : Hp → V → β → Prop} {g : TG} {tt : TT} {te : TE} {vs : List Nat} {σ : L2.St} {H1 : Hp} {D : Addr} {Qd : Hp → Prop}
end
end My
namespace My
open PySem PySem.Spec PyProof.Rows L2
end My
namespace My
open PySem PySem.Spec PyProof.Rows L2
end My
namespace My
open PySem PySem.Spec PyProof.Rows L2
noncomputable def tri {α : Type} (a b c : α) : Fin 3 → α
  | 0 => a
  | 1 => b
  | 2 => c
end My

set_option Elab.async false
set_option linter.all false
set_option maxRecDepth 100000

namespace My
open PySem PySem.Spec PyProof.Rows L2
end My

set_option Elab.async false
set_option linter.all false
set_option maxRecDepth 100000

namespace My
open PySem PySem.Spec PyProof.Rows L2
section
variable {β : Type} {R : Own β} {K : PySem.W.Frag} {c : Cj} {H H1 : Hp} {x ix sh d pg fo : Addr} {h : Sh} {cols : Cols} {ws wk : List Str} {hd : Hd} {rs : Rs} {g : Nat} {f : List Addr} {kvs : List (Key × V)} {rsD : Rs} {hx : Hy} {b : β} {f2 : List Addr}
end
section
variable (K : PySem.W.Frag) (c : Cj)
end
end My

set_option Elab.async false
set_option linter.all false
set_option maxRecDepth 100000

namespace My
open PySem PySem.W PyProof.Rows PySem.Spec L2
section
variable {prog : Program} {w : World} {A : Around} {E : Value → Shared → Prop} {s : Shared}
end
end My
namespace L2
open PySem PySem.W PyProof.Rows PySem.Spec My
section
variable {X : Cx}
end
end L2

set_option Elab.async false
set_option linter.all false
set_option maxRecDepth 100000

namespace My
open PySem PySem.Spec PyProof.Rows L2

section
open Classical
variable {α β : Type}
end
section
variable {α : Type} [DecidableEq α]
end
end My

set_option Elab.async false
set_option linter.all false
set_option maxRecDepth 100000

namespace My
open PySem PySem.Spec PyProof.Rows L2
section
variable {h : Sh} {cols : Cols} {ws : List Str} {n g : Nat} {rs : Rs} {hx : Hy}
end
section
variable (c : Cj)
end
end My
namespace My
open PySem PySem.Spec PyProof.Rows L2
end My
namespace My
open PySem PySem.Spec PyProof.Rows L2
end My

set_option Elab.async false
set_option linter.all false
set_option maxRecDepth 100000

namespace L2
open PySem PySem.W PyProof.Rows PySem.Spec My
section
variable {X : Cx}
end
end L2

set_option Elab.async false
set_option linter.all false
set_option maxRecDepth 100000

namespace My
open PySem PySem.Spec PyProof.Rows L2
section
variable {β : Type} {R : Own β} {K : PySem.W.Frag} {c : Cj} {H H1 H2 : Hp} {x ix sh d pg fo : Addr} {h : Sh} {cols : Cols} {ws wk : List Str} {hd : Hd} {rs : Rs} {g : Nat} {f : List Addr} {kvs : List (Key × V)} {rsD : Rs} {hx : Hy} {b : β} {f2 fi : List Addr}
end
end My

set_option Elab.async false
set_option linter.all false
set_option maxRecDepth 100000

namespace My
open PySem PySem.W PyProof.Rows PySem.Spec
structure WkB (n : Nat) (lt : Nat → Nat → Bool) : Prop where
  asym : ∀ i j, i < n → j < n → lt i j = true → lt j i = false
  neg : ∀ i j k, i < n → j < n → k < n → lt i j = false → lt j k = false → lt i k = false
section
variable {n : Nat} {lt : Nat → Nat → Bool} (T : WkB n lt) (h0 : 0 < n)
include T h0
omit T h0 in
end
end My

set_option Elab.async false
set_option linter.all false
set_option maxRecDepth 100000

namespace My
open PySem PySem.W PyProof.Rows PySem.Spec L2

section
variable {prog : Program} {w : World} {A : Around} {s : Shared}
end
section
variable {M : Model} {A : Around} {E : Value → Shared → Prop} {s : Shared}
end
end My
namespace L2
open PySem PySem.W PyProof.Rows PySem.Spec My
section
variable {X : Cx}
end
end L2

set_option Elab.async false
set_option linter.all false
set_option maxRecDepth 100000

namespace L2
open PySem PySem.Spec PyProof.Rows
section
variable {X : Cx}
end
end L2

set_option Elab.async false
set_option linter.all false
set_option maxRecDepth 100000

namespace My
open PySem PySem.Spec PyProof.Rows L2

end My

set_option Elab.async false
set_option linter.all false
set_option maxRecDepth 100000

namespace My
open PySem PySem.Spec PyProof.Rows L2
noncomputable def oD : Option Key → PyData
  | none => .none
  | some k => dK k
end My

set_option Elab.async false
set_option linter.all false
set_option maxRecDepth 100000

namespace L2
open PySem PySem.W PyProof.Rows PySem.Spec My
section
variable {X : Cx}
end
end L2

set_option Elab.async false
set_option linter.all false
set_option maxRecDepth 100000

namespace L2
open PySem PySem.Spec PyProof.Rows
section
variable {prog : Program} {w : World} {A : Around} {E : Value → Shared → Prop}

end
section
variable {X : Cx}

end
end L2

set_option Elab.async false
set_option linter.all false
set_option maxRecDepth 100000

namespace My
open PySem PySem.Spec PyProof.Rows L2
end My

set_option Elab.async false
set_option linter.all false
set_option maxRecDepth 100000

namespace My
open PySem PySem.Spec PyProof.Rows L2

section
variable {ι τ : Type} [DecidableEq ι] {R : τ → Res} {t : ι → τ} {F : ι → List Addr} {G : List Addr} {H0 H H' : Hp}
end

inductive Tt where
  | no
  | st (x sh : Addr) (hd : Hd) (rs : Rs) (g : Nat)
  | ix (x : Addr) (hx : Hy)
section
variable {K : PySem.W.Frag} {c : Cj} {h : Sh} {cols : Cols} {wk ws : List Str} {t : Fin 4 → Tt} {F : Fin 4 → List Addr} {G : List Addr} {H0 H H' : Hp}
end
structure A29 where
  x0 : Addr
  x1 : Addr
  s0 : Addr
  s1 : Addr
  i0 : Addr
  i1 : Addr
section
variable {A : A29} {hd0 hd1 : Hd} {rs0 rs1 : Rs} {g0 g1 : Nat} {hx0 hx1 : Hy}
end

structure A6 where
  y0 : Addr
  y1 : Addr
  y2 : Addr
  y3 : Addr
  y4 : Addr
  y5 : Addr
section
variable {A : A6} {a b c d e f : Hy}
end
section
variable (K : PySem.W.Frag) (c : Cj)
end
end My

set_option Elab.async false
set_option linter.all false
set_option maxRecDepth 100000

namespace L2
open PySem PySem.W PyProof.Rows PySem.Spec
section
variable {X : Cx}

noncomputable def tFmt (te : TE) : TE := fun σ H Q => te σ H fun v H1 => (∃ x, v = .str x ∧ x.length ≤ sizeLine ∧ Q (.str x) H1) ∨ (∃ i : Int, v = .int i ∧ i.natAbs.log2 < 1920 ∧ Q (.str (toString i)) H1)
theorem pe_fmt {e : Expr} {te : TE} {pos : Pos} (he : PE X e te) : PE X (.FormattedValue e (-1) none pos) (tFmt te) := by
  constructor
  intro pins s σ H Q I h
  refine FormattedValue_plain (thn (he pins s σ H _ I h) fun v s1 ⟨x, H1, I1, r1, q1⟩ => ?_)
  rcases q1 with ⟨z, rfl, hz, q⟩ | ⟨i, rfl, hi, q⟩
  · obtain ⟨t, rfl⟩ := r1
    exact formatField_str (fun t' tk => ⟨.str z, H1, I1.tok _, ⟨_, rfl⟩, q⟩) hz
  · obtain ⟨t, rfl⟩ := r1
    exact wpAny_formatField_int hi ⟨.str _, H1, I1.tok _, ⟨_, rfl⟩, q⟩

structure PJ (X : Cx) (es : List Expr) (t : Str → TE) : Prop where
  run : ∀ (acc : Str) (pins : List (Addr × Obj)) (s : Shared) (σ : St) (H : Hp) (Q : VK), Inv X pins σ H s → t acc σ H Q → wpAny (model X.prog X.w) X.A (joinParts acc (evalEach es X.env)) (EP X pins σ Q) X.xe s
noncomputable def tJ0 : Str → TE := fun acc σ H Q => acc.length ≤ sizeLine ∧ Q (.str acc) H
noncomputable def tJ (t : TE) (ts : Str → TE) : Str → TE := fun acc σ H Q => t σ H fun v H1 => ∃ y, v = .str y ∧ (acc ++ y).length ≤ sizeLine ∧ ts (acc ++ y) σ H1 Q
theorem pj_nil : PJ X [] tJ0 := ⟨fun acc pins s σ H Q I ⟨hz, q⟩ => joinParts_nil ⟨.str acc, H, I.tok _, ⟨_, rfl⟩, q⟩ hz⟩
theorem pj_cons {e : Expr} {es : List Expr} {te : TE} {ts : Str → TE} (he : PE X e te) (hr : PJ X es ts) : PJ X (e :: es) (tJ te ts) := by
  constructor
  intro acc pins s σ H Q I h
  refine joinParts_cons (thn (he pins s σ H _ I h) fun v s1 ⟨x, H1, I1, r1, y, e1, hz, q1⟩ => ?_)
  subst e1
  obtain ⟨t, rfl⟩ := r1
  exact ⟨hz, hr.run _ pins s1 σ H1 Q I1 q1⟩
theorem pe_fstr {e1 e2 : Expr} {es : List Expr} {ts : Str → TE} {pos : Pos} (h : PJ X (e1 :: e2 :: es) ts) : PE X (.JoinedStr (e1 :: e2 :: es) pos) (ts Str.empty) :=
  ⟨fun pins s σ H Q I q => JoinedStr_many (h.run _ pins s σ H Q I q)⟩
end
end L2
namespace L2
open PySem PySem.W PyProof.Rows PySem.Spec
section
variable {prog : Program} {w : World} {A : Around} {E : Value → Shared → Prop} {s : Shared}

end
section
variable {X : Cx}

end
end L2

set_option Elab.async false
set_option linter.all false
set_option maxRecDepth 100000

namespace L2
open PySem PySem.Spec PyProof.Rows

noncomputable def XcOb (x C : Addr) (dx : Option Addr) (h : Heap) : Prop :=
  ∃ (o : Obj) (vs : Array Value) (t : Addr), h.get? x = some o ∧ o.cls = Value.ref C ∧ o.dict = dx ∧ o.data = .fields vs ∧ vs[0]? = some (.ref t) ∧ 1 < vs.size

noncomputable def XcNew (x : Addr) (h : Heap) : Prop := ∃ (o : Obj) (vs : Array Value), h.get? x = some o ∧ o.data = .fields vs ∧ vs[1]? = some Value.none

noncomputable def XcTr (x T : Addr) (fl : Value) (h : Heap) : Prop :=
  T ≠ x ∧ ∃ (o oT : Obj) (vs ts : Array Value), h.get? x = some o ∧ o.data = .fields vs ∧ vs[1]? = some (.ref T) ∧ h.get? T = some oT ∧ oT.data = .fields ts ∧ ts[3]? = some fl

structure Noted (fs : List Addr) (x : Addr) (T0 : Option Addr) (h h' : Heap) : Prop where
  keep : ∀ b o, b ≠ x → some b ≠ T0 → b ∉ fs → h.get? b = some o → h'.get? b = some o
  slot : ∀ b o, b ∈ fs → h.get? b = some o → ∃ sl, h'.get? b = some { o with slots := sl }
  there : ∀ b o, h.get? b = some o → ∃ o', h'.get? b = some o'
section
variable {M : Model} {A : Around} {E : Value → Shared → Prop} {s : Shared}

theorem flight_set {x T : Addr} {fl : Value} {Q : Unit → Shared → Prop} (t : XcTr x T fl s.heap) (lf : Option Addr)
    (h : ∀ h', (∀ b, b ≠ T → h'.get? b = s.heap.get? b) → (∃ oT' , h'.get? T = some oT') → XcTr x T (lf.elim Value.none fun f => rawInt f) h' → Q () { s with heap := h' }) : wpAny M A (setFlight (.ref x) lf) Q E s := by
  obtain ⟨ne, o, oT, vs, ts, ho, hd, h1, hT, hdT, h3⟩ := t
  have n3 : 3 < ts.size := (Array.getElem?_eq_some_iff.mp h3).1
  have oth : ∀ b, b ≠ T → (s.heap.update T (Obj.mapFields (·.setIfInBounds 3 (lf.elim Value.none fun f => rawInt f)))).get? b = s.heap.get? b := fun b hb => Heap.get?_update_other _ _ (Ne.symm hb)
  have own := Heap.get?_update_self (Obj.mapFields (·.setIfInBounds 3 (lf.elim Value.none fun f => rawInt f))) hT (Obj.isFreed_of_fields (Obj.data_mapFields hdT _))
  unfold setFlight
  refine wpAny_bind (wpAny_field ho hd h1 ?_)
  rw [if_pos (show ((Value.ref T != Value.none) = true) by simp)]
  refine wpAny_setField hT hdT n3 (h _ oth ⟨_, own⟩ ⟨ne, o, _, vs, _, (oth x (Ne.symm ne)).trans ho, hd, h1, own, Obj.data_mapFields hdT _, ?_⟩)
  simp [n3]

theorem frs_not {base : Heap} {l : List Env} {x : Addr} {o : Obj} {vs : Array Value} (hl : s.heap.FunFrames base l) (hx : s.heap.get? x = some o) (hd : o.data = .fields vs) : x ∉ frs l := fun z => by
  obtain ⟨_, o', ho', nf⟩ := hl.mem z
  rw [hx] at ho'
  cases ho'
  exact nf vs hd


theorem entry_add {base : Heap} {env : Env} {outer : List Env} {L x C : Addr} {dx : Option Addr} {head : Value} {had : Bool} {Q : Unit → Shared → Prop}
    (hfr : A.frames = some (env :: outer)) (hl : s.heap.FunFrames base (env :: outer)) (hf : env.frame = some L) (ob : XcOb x C dx s.heap)
    (h : ∀ h' T, Noted (frs (env :: outer)) x Option.none s.heap h' → s.heap.objs.size ≤ T → XcOb x C dx h' → XcTr x T (rawInt L) h' → Q () { s with heap := h' }) :
    wpAny M A (do let a ← frameOf env; let pl ← entryPlaceOf L had; let b ← EntryCells.newEntry head a .none (rawInt L) .none pl; setField (.ref x) 1 b) Q E s := by
  obtain ⟨o, vs, t, ho, hc, hdx, hd, h0, n1⟩ := ob
  have nx : x ∉ frs (env :: outer) := frs_not hl ho hd
  refine wpAny_bind (wpAny_frameOf_fun hfr hl hf fun g hg => ?_)
  obtain ⟨gz, gk, gs⟩ := hg
  refine wpAny_bind (wpAny_entryPlaceOf fun pl hpl => ?_)
  unfold EntryCells.newEntry newFields
  refine wpAny_bind (wpAny_newObj_type ?_ (hpl.sizeOk5 _ _ _ _ _))
  have hx1 : g.get? x = some o := (gk x nx).trans ho
  generalize hob : ({ cls := Value.type "traceback", dict := Option.none, data := Data.fields ([head, .ref L, .none, rawInt L, .none] ++ (if pl.isEmpty then List.replicate 6 Value.none else pl)).toArray } : Obj) = ot
  have hx2 := Heap.get?_push_of_some (h := g) ot hx1
  have nT : g.objs.size ≠ x := Nat.ne_of_gt (Heap.lt_size hx1)
  have hd3 := Obj.data_mapFields hd (·.setIfInBounds 1 (Value.ref g.objs.size))
  have own := Heap.get?_update_self (Obj.mapFields (·.setIfInBounds 1 (Value.ref g.objs.size))) hx2 (Obj.isFreed_of_fields hd3)
  have hT : ((g.push ot).update x (Obj.mapFields (·.setIfInBounds 1 (Value.ref g.objs.size)))).get? g.objs.size = some ot :=
    (Heap.get?_update_other (g.push ot) (Obj.mapFields (·.setIfInBounds 1 (Value.ref g.objs.size))) (Ne.symm nT)).trans (Heap.get?_push_size g (by rw [← hob]; rfl))
  have kp : ∀ b u, b ≠ x → g.get? b = some u → ((g.push ot).update x (Obj.mapFields (·.setIfInBounds 1 (Value.ref g.objs.size)))).get? b = some u := fun b u hb e => by
    rw [Heap.get?_update_other _ _ (Ne.symm hb)]
    exact Heap.get?_push_of_some _ e
  refine wpAny_setField hx2 hd n1 (h _ g.objs.size ⟨fun b u hb _ hm e => kp b u hb ((gk b hm).trans e), fun b u hm e => ?_, fun b u e => ?_⟩ ?_ ⟨_, _, t, own, by rw [Obj.cls_mapFields]; exact hc, ?_, hd3, ?_, by simpa using n1⟩ ⟨nT, _, ot, _, _, own, hd3, by simp [n1], hT, by rw [← hob], ?_⟩)
  · obtain ⟨sl, q⟩ := gs b u e
    exact ⟨sl, kp b _ (fun z => nx (z ▸ hm)) q⟩
  · by_cases hb : b = x
    · subst hb; exact ⟨_, own⟩
    · obtain ⟨sl, q⟩ := gs b u e
      exact ⟨_, kp b _ hb q⟩
  · rw [gz]
    exact Nat.le_refl _
  · rw [← hdx]
    obtain ⟨oc, od, oda, osl⟩ := o
    dsimp only at hd
    subst hd
    rfl
  · rw [Array.getElem?_setIfInBounds_ne (by decide)]; exact h0
  · first
      | (simp; done)
      | (rcases hpl with rfl | ⟨_, _, _, _, _, _, _, rfl⟩ <;> simp)


theorem note_new {base : Heap} {env : Env} {outer : List Env} {L x C : Addr} {dx : Option Addr} {Q : Unit → Shared → Prop} (hfr : A.frames = some (env :: outer)) (hl : s.heap.FunFrames base (env :: outer)) (hf : env.frame = some L)
    (ob : XcOb x C dx s.heap) (nw : XcNew x s.heap)
    (h : ∀ h' T, Noted (frs (env :: outer)) x Option.none s.heap h' → s.heap.objs.size ≤ T → XcOb x C dx h' → XcTr x T (rawInt L) h' → Q () { s with heap := h' }) : wpAny M A (noteFrame (.ref x) env) Q E s := by
  obtain ⟨o, vs, ho, hd, h1⟩ := id nw
  unfold noteFrame
  simp only [hf]
  refine wpAny_bind (wpAny_field ho hd h1 ?_)
  rw [if_neg (by decide)]
  exact entry_add hfr hl hf ob h

theorem note_on {base : Heap} {env : Env} {outer : List Env} {L x C T0 : Addr} {dx : Option Addr} {Q : Unit → Shared → Prop} (hfr : A.frames = some (env :: outer)) (hl : s.heap.FunFrames base (env :: outer)) (hf : env.frame = some L)
    (ob : XcOb x C dx s.heap) (tr : XcTr x T0 Value.none s.heap)
    (h : ∀ h' T, Noted (frs (env :: outer)) x (some T0) s.heap h' → s.heap.objs.size ≤ T → XcOb x C dx h' → XcTr x T (rawInt L) h' → Q () { s with heap := h' }) : wpAny M A (noteFrame (.ref x) env) Q E s := by
  obtain ⟨ne, o, oT, vs, ts, ho, hd, h1, hT, hdT, h3⟩ := id tr
  have nT : T0 ∉ frs (env :: outer) := frs_not hl hT hdT
  unfold noteFrame
  simp only [hf]
  refine wpAny_bind (wpAny_field ho hd h1 ?_)
  rw [if_pos (show ((Value.ref T0 != Value.none) = true) by simp)]
  refine wpAny_bind (wpAny_field hT hdT h3 ?_)
  rw [if_neg (show ¬ ((Value.none == rawInt L) = true) by simp [rawInt])]
  refine wpAny_bind (wpAny_setField hT hdT (Array.getElem?_eq_some_iff.mp h3).1 ?_)
  have oth : ∀ b, b ≠ T0 → (s.heap.update T0 (Obj.mapFields (·.setIfInBounds 3 Value.none))).get? b = s.heap.get? b := fun b hb => Heap.get?_update_other _ _ (Ne.symm hb)
  have own := Heap.get?_update_self (Obj.mapFields (·.setIfInBounds 3 Value.none)) hT (Obj.isFreed_of_fields (Obj.data_mapFields hdT _))
  obtain ⟨o2, vs2, t2, e1, e2, e3, e4, e5, e6⟩ := ob
  refine entry_add (C := C) (dx := dx) hfr (hl.of_keeps fun b u e nf => ⟨u, (oth b fun z => ?_).trans e, rfl⟩) hf ⟨o2, vs2, t2, (oth x (Ne.symm ne)).trans e1, e2, e3, e4, e5, e6⟩ fun h' T N f1 ob' tr' => h h' T ⟨fun b u hb hT0 hm e => ?_, fun b u hm e => ?_, fun b u e => ?_⟩ ?_ ob' tr'
  · subst z; rw [hT] at e; cases e; exact nf ts hdT
  · exact N.keep b u hb (by simp) hm ((oth b fun z => hT0 (by rw [z])).trans e)
  · exact N.slot b u hm ((oth b fun z => nT (z ▸ hm)).trans e)
  · by_cases hb : b = T0
    · subst hb; exact N.there _ _ own
    · exact N.there b u ((oth b hb).trans e)
  · rw [← Heap.size_update s.heap T0 (Obj.mapFields (·.setIfInBounds 3 Value.none))]
    exact f1

end
end L2

set_option Elab.async false
set_option linter.all false
set_option maxRecDepth 100000

namespace L2
open PySem PySem.Spec PyProof.Rows


noncomputable abbrev xcO (x C : Addr) (dx : Option Addr) : HO := .ext (XcOb x C dx)
theorem xc_ok {P : Program} {w : World} {H : Hp} {h : Heap} {x C : Addr} {dx : Option Addr} (b : XcOb x C dx h) : ObjOk P w H h x (xcO x C dx) := by
  refine ⟨b, ?_, fun h1 h2 b1 k => ?_⟩
  · obtain ⟨o, _, _, e, _⟩ := b
    exact ⟨o, e⟩
  · obtain ⟨o, vs, t, e, r⟩ := b1
    exact ⟨o, vs, t, k o e, r⟩
theorem xc_get {P : Program} {w : World} {H : Hp} {h : Heap} {x C : Addr} {dx : Option Addr} (hok : HOk P w H h) (e : H x = some (xcO x C dx)) : XcOb x C dx h := (hok x _ e).1


noncomputable def CXE (P : Program) (w : World) : CXT := fun outer H s E e s' =>
  ∃ (x C : Addr) (dx : Option Addr) (T : Addr) (H' : Hp), e = .ref x ∧ s'.os = s.os ∧ AllBare s'.gens ∧ Un (frs outer) [] H H' s.heap s'.heap ∧ HOk P w H' s'.heap ∧ H' x = some (xcO x C dx) ∧ H' T = none ∧ s.heap.objs.size ≤ T ∧
    XcTr x T .none s'.heap ∧ E (.ref C) dx H'


structure Fly (X : Cx) (pins : List (Addr × Obj)) (σ : St) (H : Hp) (x C : Addr) (dx : Option Addr) (s : Shared) : Prop where
  inv : Inv X pins σ H s
  at_ : H x = some (xcO x C dx)
  way : XcNew x s.heap ∨ ∃ T, H T = none ∧ X.s_0.heap.objs.size ≤ T ∧ (∀ p ∈ X.pn, p.1 ≠ T) ∧ XcTr x T .none s.heap

noncomputable def Outs (X : Cx) (E : XK) : Prop := ∀ (pins : List (Addr × Obj)) (σ : St) (H : Hp) (x C : Addr) (dx : Option Addr) (s : Shared), Fly X pins σ H x C dx s → E (.ref C) dx H → X.xe (.ref x) s

theorem passE {X : Cx} {E : XK} (O : Outs X E) : Passes (CXE X.prog X.w) X E := by
  rintro pins σ H s e s' I ⟨x, C, dx, T, H', rfl, ho, hb, un, hok, hx, hT, hz, tr, q⟩
  refine O pins σ H' x C dx s' ⟨I.call' (ch := []) ho un hok hb (fun _ z => nomatch z), hx, .inr ⟨T, hT, Nat.le_trans I.sz hz, fun p hp z => ?_, tr⟩⟩ q
  have := (I.pin p (List.mem_append_left _ hp)).1
  have lt := Heap.lt_size this
  rw [z] at lt
  exact absurd hz (Nat.not_le_of_lt lt)


theorem noted_inv {X : Cx} {pins : List (Addr × Obj)} {σ : St} {H : Hp} {s : Shared} {x C : Addr} {dx T0 : Option Addr} {h' : Heap} (I : Inv X pins σ H s) (hx : H x = some (xcO x C dx)) (N : Noted (frs X.stack) x T0 s.heap h') (b : XcOb x C dx h')
    (hT : ∀ T, T0 = some T → H T = none ∧ X.s_0.heap.objs.size ≤ T ∧ (∀ p ∈ X.pn, p.1 ≠ T) ∧ ∃ o vs, s.heap.get? T = some o ∧ o.data = .fields vs) : Inv X [] σ H { s with heap := h' } := by
  have sub : ∀ b ∈ X.fs, b ∈ frs X.stack := fun b hb => by
    rcases I.ok.stk with z | ⟨z, zf⟩
    · rw [z]; exact hb
    · rw [z]
      show b ∈ List.filterMap _ _
      rw [List.filterMap_cons, zf]
      exact List.mem_cons_of_mem _ hb
  have nx : ∀ c, H c = none → c ≠ x := fun c hc z => by rw [z, hx] at hc; cases hc
  have I0 : Inv X [] σ H s := ⟨I.ok, I.os, I.bare, I.base, I.loc, I.cell, I.free, I.freeC, fun p hp => I.pin p (by
    rcases List.mem_append.mp hp with z | z
    · exact List.mem_append_left _ z
    · cases z), I.hok, I.len⟩
  refine I0.step (g' := s.gens) (d' := s.drawn) (t' := s.toks) (ch := T0.toList) (fun c hc => ?_) (fun c o hL hc hch e n => ?_) (fun c o hL hc hch e n => N.slot c o (sub c hc) e) (fun c o hch e n => n) (fun c o hch e => N.there c o e) (fun _ _ e => e) (fun _ _ _ e => e) (fun _ ps e => ⟨#[], by rw [e]; simp⟩) (fun m hm => ?_) (fun a o e => ?_) I.bare
  · have hc : T0 = some c := by cases T0 with | none => cases hc | some t => simp at hc; rw [hc]
    obtain ⟨t1, t2, t3, o, vs, t4, t5⟩ := hT c hc
    refine ⟨.inr t2, fun z => ?_, fun y d hd z => ?_, fun p hp => t3 p (by
      rcases List.mem_append.mp hp with z | z
      · exact z
      · cases z)⟩
    · obtain ⟨m, ⟨o', es, ep, ho', hd', _⟩, _⟩ := I.loc
      rw [← z, t4] at ho'
      cases ho'
      rw [t5] at hd'; cases hd'
    · obtain ⟨v, o', ho', hd'⟩ := I.cell y d hd
      rw [z, t4] at ho'
      cases ho'
      rw [t5] at hd'; cases hd'
  · refine N.keep c o (nx c n) (fun z => hch (by rw [← z]; simp)) (fun z => ?_) e
    rcases List.mem_cons.mp (I.stkSub c z) with y | y
    · exact hL y
    · exact hc y
  · obtain ⟨o, es, ep, e, hd, r⟩ := hm
    by_cases z : X.env.locals ∈ frs X.stack
    · obtain ⟨sl, q⟩ := N.slot _ o z e
      exact ⟨_, es, ep, q, hd, r⟩
    · refine ⟨o, es, ep, N.keep _ o (nx _ I.free) (fun y => ?_) z e, hd, r⟩
      obtain ⟨_, _, _, o', vs, t4, t5⟩ := hT _ y.symm
      rw [e] at t4; cases t4
      rw [hd] at t5; cases t5
  · by_cases z : a = x
    · subst z
      rw [hx] at e
      cases e
      exact xc_ok b
    · refine (I.hok a o e).stay (fun c u hc q => N.keep c u (fun y => ?_) (fun y => ?_) (fun y => ?_) q) (fun _ q => q) fun _ _ q => q
      · subst y
        rcases hc with y | y
        · exact z y.symm
        · rw [hx] at y; cases y
      · obtain ⟨t1, _⟩ := hT c y.symm
        rcases hc with y | y
        · rw [y, e] at t1; cases t1
        · rw [y] at t1; cases t1
      · have n := I.stkFree c y
        rcases hc with y | y
        · rw [y, e] at n; cases n
        · rw [y] at n; cases n


theorem fly_note {M : Model} {X : Cx} {pins : List (Addr × Obj)} {σ : St} {H : Hp} {x C : Addr} {dx : Option Addr} {s : Shared} {A : Around} {E : Value → Shared → Prop} {Q : Shared → Prop} (F : Fly X pins σ H x C dx s) (hst : X.stack = X.env :: X.outer)
    (hf : X.env.frame = some X.env.locals) (hA : A.frames = some X.stack)
    (h : ∀ h' T T0, Noted (frs X.stack) x T0 s.heap h' → s.heap.objs.size ≤ T → XcTr x T .none h' → (∀ t, T0 = some t → X.s_0.heap.objs.size ≤ t ∧ H t = none) → Inv X [] σ H { s with heap := h' } → Q { s with heap := h' }) :
    wpAny M A (noteFrame (.ref x) X.env) (fun _ s2 => wpAny M A (setFlight (.ref x) none) (fun _ s3 => Q s3) E s2) E s := by
  have I := F.inv
  have fr : s.heap.FunFrames X.base (X.env :: X.outer) := by rw [← hst]; exact I.stack
  have ob : XcOb x C dx s.heap := xc_get I.hok F.at_
  have fin : ∀ (T0 : Option Addr) (h1 : Heap) (T : Addr), (∀ t, T0 = some t → H t = none ∧ X.s_0.heap.objs.size ≤ t ∧ (∀ p ∈ X.pn, p.1 ≠ t) ∧ ∃ o vs, s.heap.get? t = some o ∧ o.data = .fields vs) →
      Noted (frs (X.env :: X.outer)) x T0 s.heap h1 → s.heap.get? T = none → s.heap.objs.size ≤ T → XcOb x C dx h1 → XcTr x T (rawInt X.env.locals) h1 → wpAny M A (setFlight (.ref x) none) (fun _ s3 => Q s3) E { s with heap := h1 } := fun T0 h1 T hT N hn hz b1 tr => by
    refine flight_set tr none fun h2 k2 th2 tr2 => ?_
    have ne : ∀ c o, s.heap.get? c = some o → c ≠ T := fun c o e z => by rw [z, hn] at e; cases e
    have N2 : Noted (frs X.stack) x T0 s.heap h2 := by
      rw [hst]
      refine ⟨fun c o a1 a2 a3 e => (k2 c (ne c o e)).trans (N.keep c o a1 a2 a3 e), fun c o a1 e => ?_, fun c o e => ?_⟩
      · obtain ⟨sl, q⟩ := N.slot c o a1 e
        exact ⟨sl, (k2 c (ne c o e)).trans q⟩
      · obtain ⟨o', q⟩ := N.there c o e
        exact ⟨o', (k2 c (ne c o e)).trans q⟩
    have b2 : XcOb x C dx h2 := by
      obtain ⟨o, vs, t, e, r⟩ := b1
      exact ⟨o, vs, t, (k2 x (Ne.symm tr.1)).trans e, r⟩
    exact h h2 T T0 N2 hz tr2 (fun t ht => ⟨(hT t ht).2.1, (hT t ht).1⟩) (noted_inv I F.at_ N2 b2 hT)
  have hA' : A.frames = some (X.env :: X.outer) := by rw [hA, hst]
  rcases F.way with nw | ⟨T0, t1, t2, t3, tr⟩
  · exact note_new hA' fr hf ob nw fun h1 T N hz b1 tr1 => fin none h1 T (fun t z => nomatch z) N (Heap.get?_none_of_le hz) hz b1 tr1
  · refine note_on hA' fr hf ob tr fun h1 T N hz b1 tr1 => fin (some T0) h1 T (fun t z => ?_) N (Heap.get?_none_of_le hz) hz b1 tr1
    cases z
    obtain ⟨_, o, oT, vs, ts, _, _, _, e, d, _⟩ := tr
    exact ⟨t1, t2, t3, oT, ts, e, d⟩


theorem outs_cx {P : Program} {w : World} {K : PySem.W.Frag} {mg : Str → Option Value} {base : Heap} {N : List Str} {qual : Str} {scope : Scope} {f : Addr} {cd : Value} {A : Around} {outer : List Env} {s0 : Shared} {H0 : Hp} {E E' : XK}
    (h : ∀ c d H, E' c d H → E c d H) : Outs (cxOf (CXE P w) P w K mg base N qual scope f cd A outer s0 H0 E) E' := by
  intro pins σ H x C dx s F q
  have I := F.inv
  show wpAny _ _ (leaving _ _) _ _ _
  unfold leaving
  refine wpAny_bind (fly_note F rfl rfl I.ok.frames fun h' T T0 Nt hz tr hT I' => ?_)
  have szs : s0.heap.objs.size ≤ s.heap.objs.size := I.sz
  have nx : ∀ c, H c = none → c ≠ x := fun c hc z => by rw [z, F.at_] at hc; cases hc
  have inL : ∀ c, c ∈ frs (cxOf (CXE P w) P w K mg base N qual scope f cd A outer s0 H0 E).stack → c ≠ (cxOf (CXE P w) P w K mg base N qual scope f cd A outer s0 H0 E).env.locals → c ∈ frs outer := fun c z hL => (List.mem_cons.mp (I.stkSub c z)).elim (fun y => absurd y hL) fun y => y
  have outL : ∀ c, c ∈ frs outer → c ∈ frs (cxOf (CXE P w) P w K mg base N qual scope f cd A outer s0 H0 E).stack := fun c z => by
    show c ∈ List.filterMap _ (_ :: outer)
    rw [List.filterMap_cons]
    exact List.mem_cons_of_mem _ z
  have above : s0.heap.objs.size ≤ (cxOf (CXE P w) P w K mg base N qual scope f cd A outer s0 H0 E).env.locals := I.ok.above
  have hT1 : ∀ t, T0 = some t → s0.heap.objs.size ≤ t := fun t z => (hT t z).1
  refine ⟨x, C, dx, T, H, rfl, I'.os, I'.bare, ⟨fun b o e n hb hx => ?_, fun b o e n hb hx => ?_, fun b o e n hx => I.base.free b o e n hx, fun b o e hx => ?_, I.base.tups, I.base.frzs, I.base.tbls⟩, I'.hok, F.at_, ?_, Nat.le_trans szs hz, tr, h _ _ _ q⟩
  · have e1 := I.base.keep b o e n hb hx
    have lt : b < s0.heap.objs.size := Heap.lt_size e
    refine Nt.keep b o (nx b (I.base.free b o e n hx)) (fun z => ?_) (fun z => hb (inL b z (Nat.ne_of_lt (Nat.lt_of_lt_of_le lt above)))) e1
    exact absurd (hT1 b z.symm) (Nat.not_le_of_lt lt)
  · obtain ⟨sl, e1⟩ := I.base.slot b o e n hb hx
    obtain ⟨sl', e2⟩ := Nt.slot b _ (outL b hb) e1
    exact ⟨sl', e2⟩
  · obtain ⟨o', e1⟩ := I.base.there b o e hx
    exact Nt.there b o' e1
  · exact I.hok.fresh hz


end L2

set_option Elab.async false
set_option linter.all false
set_option maxRecDepth 100000
namespace PySem
section
variable {M : Model} {A : Around} {E : Value → Shared → Prop} {env : Env}
variable {nm q : Str} {C N : Addr} {bs bm : List Value} {hdct : Bool} {sn : List Str} {sub : List Value} {ab : Bool} {col : Option Bool} {dd : Option Addr} {k0 k1 k2 k3 k5 : Option Value} {newId : String}
theorem raise_obj {s : Shared} {x : Sem Value} {Q : Flow → Shared → Prop} (hbase : bm.contains (.type "BaseException") = true) (hh : A.handled = none)
    (h : wpAny M A x (fun v s₁ => ∃ (e : Addr) (dx : Option Addr) (vs : Array Value) (sl : Array (Option Value)), v = .ref e ∧ s₁.heap.get? C = some (excClassObj nm q C N bs bm hdct sn sub ab col dd k0 k1 k2 k3 k5 newId) ∧
      s₁.heap.get? e = some ⟨.ref C, dx, .fields vs, sl⟩ ∧ vs[1]? = some .none ∧ E (.ref e) s₁) E s) :
    wpAny M A (raiseStmt env (some x) none) Q E s := by
  have hcB : (Value.ref C :: bm).contains (.type "BaseException") = true := by rw [List.contains_cons, hbase, Bool.or_true]
  unfold raiseStmt
  refine wpAny_bind (wpAny_mono h (fun v s₁ h₁ => ?_) fun _ _ x => x)
  obtain ⟨e, dx, vs, sl, rfl, hC, he, h1, hE⟩ := h₁
  obtain ⟨hp, g, d, tk, os⟩ := s₁
  have hfl : ∀ {Q' : Unit → Shared → Prop}, Q' () ⟨hp, g, d, tk, os⟩ → wpAny M A (setFlight (.ref e) none) Q' E ⟨hp, g, d, tk, os⟩ := fun {Q'} z => by
    unfold setFlight
    refine wpAny_bind (wpAny_field he rfl h1 ?_)
    rw [if_neg (by decide)]
    exact wpAny_pure z
  repeat (first | with_reducible refine wpAny_loadPart_at he ?_ | with_reducible refine wpAny_loadPart_at hC ?_ | (with_reducible refine wpAny_isSubtype_exc hC ?_; rw [hcB]) | with_reducible refine hfl ?_ | wp_step)
  exact wpAny_raiseNew_none hh hE
end
end PySem

set_option Elab.async false
set_option linter.all false
set_option maxRecDepth 100000

namespace PySem.W
open PySem PySem.Spec PySem.Calls PyProof.Rows
section
variable {prog : Program} {w : World} {A : Around} {E : Value → Shared → Prop} {s : Shared} {K : Frag} {x C : Addr} {ox : Obj} {od : Option Obj} {name : Str}
theorem xa_call {R : Result → Shared → Prop} {tk : Tok} (X : K.In s.heap) (I : InstAt s.heap x ox C od) (hm : mroIn K C (.type "BaseException") = some true)
    (h : wpAny (model prog w) A.in1 (Builtin.«object.__getattribute__» ⟨[.ref x, .str name tk], []⟩) (fun fin s' => match fin with | .done f => R (.ok f) s' | .again c' => c'.quiet = true ∧ codeAny (model prog w) A c' R s') (fun e s' => R (.error e) s') s) :
    codeAny (model prog w) A (.call (.builtin "BaseException.__getattribute__") ⟨[.ref x, .str name tk], []⟩) R s := by
  have sub : Looks (model prog w) s.heap (isInstance (.ref x) (.type "BaseException")) true := I.type.andThen (looks_mroIn X hm)
  exact codeAny_call_builtin PySem.F.excAttr_ValueError.ga.plain PySem.F.entry_bexc_ga (@check_slot (model prog w) _ _ s "BaseException.__getattribute__" "BaseException" "__getattribute__" (.ref x) [.str name tk] [] _ (by decide +kernel) (by decide +kernel) sub (PySem.F.args_bexc_ga (.ref x) (.str name tk)) h)
theorem xa_by {tk : Tok} {fill expr : Bool} {Q : Value → Shared → Prop} (X : K.In s.heap) (I : InstAt s.heap x ox C od) (ga : findIn K (.ref C) "__getattribute__" = some (some (.builtin "BaseException.__getattribute__"))) (gn : findIn K (.ref C) "__getattr__" = some none) (hm : mroIn K C (.type "BaseException") = some true)
    (h : wpAny (model prog w) A.in1 (Builtin.«object.__getattribute__» ⟨[.ref x, .str name tk], []⟩) (fun fin s' => match fin with | .done (.ret v) => wpAny (model prog w) A (handedOut v) Q E s' | _ => False) (fun _ _ => False) s) :
    wpAny (model prog w) A (getAttrBy (.ref x) (.str name tk) fill expr) Q E s := by
  obtain ⟨hh, g, d, t, os⟩ := s
  have L0 := I.type (M := model prog w)
  have L1 := looks_findIn (M := model prog w) X ga
  have L2 := looks_findIn (M := model prog w) X gn
  have hx0 : (expr && onTheHeap (Value.builtin "BaseException.__getattribute__")) = false := by cases expr <;> rfl
  have hx2 : (Value.builtin "BaseException.__getattribute__" == Value.builtin "object.__getattribute__") = false := by decide +kernel
  unfold getAttrBy
  refine wpAny_holding (wpAny_bind (L0.at (wpAny_bind (L1.at ?_))))
  dsimp only
  rw [hx2, Bool.and_false, if_neg Bool.false_ne_true]
  unfold getAttrByItsOwn hookBefore
  rw [if_pos (show onTheHeap (Value.ref C) = true from rfl)]
  refine wpAny_bind (L2.at (wpAny_bind ?_))
  unfold callGetattribute
  rw [hx0, if_neg Bool.false_ne_true]
  unfold boundAndCalled
  rw [PySem.F.excAttr_ValueError.ga.bind]
  refine wpAny_attempt (wpAny_holding (wpAny_bind (wpAny_pure (wpAny_call (xa_call X I hm (wpAny_mono h (fun fin s' z => ?_) fun _ _ z => z.elim))))))
  rcases fin with (v | _ | _ | _) | _ <;> first | exact wpAny_pure z | exact z.elim | exact z
theorem xa_value {expr : Bool} {v : Value} {Q : Value → Shared → Prop} (X : K.In s.heap) (I : InstAt s.heap x ox C od) (ga : findIn K (.ref C) "__getattribute__" = some (some (.builtin "BaseException.__getattribute__"))) (gn : findIn K (.ref C) "__getattr__" = some none) (hm : mroIn K C (.type "BaseException") = some true)
    (hf : findObj K C od name = some (.value v)) (hh : handedIn v = true) (h : Q v { s with toks := s.toks + 1 }) : wpAny (model prog w) A (getAttr (.ref x) name expr) Q E s := by
  obtain ⟨hp, g, d, t, os⟩ := s
  unfold getAttr
  refine wpAny_bind (wpAny_mkText (xa_by (s := ⟨hp, g, d, t + 1, os⟩) X I ga gn hm ?_))
  have L0 := I.type (M := model prog w)
  have L1 := looks_find (M := model prog w) X I hf
  unfold Builtin.«object.__getattribute__»
  refine wpAny_bind (wpAny_pure (wpAny_bind (wpAny_pure (wpAny_bind (L0.at (wpAny_bind (L1.at ?_)))))))
  refine wpAny_pure ?_
  show wpAny _ _ (handedOut v) _ _ _
  rw [handedOut_of hh]; exact wpAny_pure h
theorem xa_bind {g a : Value} {tk : Tok} {P : Value → Shared → Prop} (X : K.In s.heap) (I : InstAt s.heap x ox C od) (hf : findObj K C od name = some (.bind g a))
    (h : wpAny (model prog w) A (call g [a, .ref x, .ref C]) P E s) :
    wpAny (model prog w) A (Builtin.«object.__getattribute__» ⟨[.ref x, .str name tk], []⟩) (fun fin s' => match fin with | .done (.ret v) => P v s' | _ => False) E s := by
  obtain ⟨hp, gg, d, t, os⟩ := s
  have L0 := I.type (M := model prog w)
  have L1 := looks_find (M := model prog w) X I hf
  unfold Builtin.«object.__getattribute__»
  refine wpAny_bind (wpAny_pure (wpAny_bind (wpAny_pure (wpAny_bind (L0.at (wpAny_bind (L1.at ?_)))))))
  show wpAny _ _ (holding [a] (call g [a, .ref x, .ref C]) >>= ret) _ _ _
  exact wpAny_bind (wpAny_holding (wpAny_mono h (fun v s' z => wpAny_pure z) fun _ _ z => z))
theorem xa_class {Q : Option Value → Shared → Prop} (X : K.In s.heap) (I : InstAt s.heap x ox C od) (ga : findIn K (.ref C) "__getattribute__" = some (some (.builtin "BaseException.__getattribute__"))) (gn : findIn K (.ref C) "__getattr__" = some none) (hm : mroIn K C (.type "BaseException") = some true)
    (hd : (clsIn K C).isSome = true) (ha : findIn K (.ref C) "__class__" = some (some (.builtin "object.__class__"))) (hn : specialIn K (.builtin "object.__class__") "__get__" = some (some (.builtin "getset_descriptor.__get__"))) (htk : takesIn K (.builtin "object.__class__") = some true) (ho : mroIn K C (.type "object") = some true)
    (h : Q (some (.ref C)) { s with toks := s.toks + 1 }) : wpAny (model prog w) A (getAttr? (.ref x) "__class__") Q E s := by
  obtain ⟨hp, g, d, t, os⟩ := s
  have hf : findObj K C od "__class__" = some (.bind (.builtin "getset_descriptor.__get__") (.builtin "object.__class__")) := by
    obtain ⟨cd, hc⟩ := Option.isSome_iff_exists.mp hd
    unfold findObj
    rw [hc, Option.bind_some, ha, Option.bind_some]
    simp [hn, htk]
  unfold getAttr? getAttrBy?
  refine wpAny_bind (wpAny_mkText (wpAny_bind (wpAny_attempt (wpAny_mono (xa_by (Q := fun v s => v = Value.ref C ∧ s = ⟨hp, g, d, t + 1, os⟩) (E := fun _ _ => False) (s := ⟨hp, g, d, t + 1, os⟩) X I ga gn hm ?_) (fun v s' z => ?_) fun _ _ z => z.elim))))
  · exact xa_bind (s := ⟨hp, g, d, t + 1, os⟩) X I hf (wpAny_call (class_get (s := ⟨hp, g, d, t + 1, os⟩) (ox := ox) (od := od) X I ho (handed_on rfl ⟨rfl, rfl⟩)))
  · obtain ⟨rfl, rfl⟩ := z
    exact wpAny_pure h
end
end PySem.W

set_option Elab.async false
set_option linter.all false
set_option maxRecDepth 100000

namespace L2
open PySem PySem.Spec PyProof.Rows


structure XCls (K : PySem.W.Frag) (C : Addr) : Prop where
  ga : PySem.W.findIn K (.ref C) "__getattribute__" = some (some (.builtin "BaseException.__getattribute__"))
  gn : PySem.W.findIn K (.ref C) "__getattr__" = some none
  ca : PySem.W.findIn K (.ref C) "__class__" = some (some (.builtin "object.__class__"))
  mb : PySem.W.mroIn K C (.type "BaseException") = some true
  mo : PySem.W.mroIn K C (.type "object") = some true
  hd : PySem.W.hasDictIn K C = true
theorem obj_class_get (K : PySem.W.Frag) : PySem.W.specialIn K (.builtin "object.__class__") "__get__" = some (some (.builtin "getset_descriptor.__get__")) := by
  have e : PySem.W.specialIn [] (.builtin "object.__class__") "__get__" = some (some (.builtin "getset_descriptor.__get__")) := by decide +kernel
  exact e
theorem obj_class_takes (K : PySem.W.Frag) : PySem.W.takesIn K (.builtin "object.__class__") = some true := by
  have e : PySem.W.takesIn [] (.builtin "object.__class__") = some true := by decide +kernel
  exact e


noncomputable def nsStr (K : PySem.W.Frag) (N : Addr) : Bool := match K.lookup N with
  | some ⟨_, _, .dict es _, _⟩ => es.toList.all fun e => match e.key with | .str _ _ => true | _ => false
  | _ => false
theorem ns_of {K : PySem.W.Frag} {h : Heap} {N : Addr} (X : K.In h) (e : nsStr K N = true) : ∃ m, h.Ns N m ∧ ∀ n r, PySem.W.nsIn K N n = some r → m n = r := by
  unfold nsStr at e
  split at e
  · rename_i c d es n sl lk
    refine ⟨fun y => nsFind es y, ⟨_, es, n, X _ _ lk, rfl, fun y hy => ?_, fun _ => rfl⟩, fun y r hr => ?_⟩
    · have := (List.all_eq_true.mp e) y (Array.mem_toList_iff.mpr hy)
      split at this
      · rename_i z t q
        exact ⟨z, t, q⟩
      · cases this
    · unfold PySem.W.nsIn at hr
      rw [lk] at hr
      dsimp only at hr
      show nsFind es y = r
      unfold nsFind findBy
      rw [← Array.find?_toList]
      split at hr
      · rename_i q
        rw [q]
        cases hr
        rfl
      · rename_i q
        rw [q]
        split at hr
        · cases hr
        · cases hr
          rfl
  · cases e


theorem hok_obj {P : Program} {w : World} {H : Hp} {h : Heap} {a : Addr} {o : HO} (x : HOk P w H h) (e : H a = some o) : ∃ u, h.get? a = some u := by
  have y := x a o e
  cases o with
  | lst xs => obtain ⟨_, _, _, _, e⟩ := y; exact ⟨_, e⟩
  | tup xs => obtain ⟨_, _, _, o, e, _⟩ := y; exact ⟨_, e⟩
  | dK kvs => obtain ⟨_, _, _, _, o, _, _, e, _⟩ := y; exact ⟨_, e⟩
  | dT kvs => obtain ⟨_, _, _, _, o, _, _, e, _⟩ := y; exact ⟨_, e⟩
  | set S n => obtain ⟨o, _, _, _, e, _⟩ := y; exact ⟨_, e⟩
  | ins C dx fs => obtain ⟨_, _, _, e, _⟩ := y; exact ⟨_, e⟩
  | own y' => obtain ⟨_, e⟩ := y; exact ⟨_, e⟩
  | xd fs => obtain ⟨_, ⟨_, _, _, e, _⟩, _⟩ := y; exact ⟨_, e⟩
  | rng lo hi => obtain ⟨_, _, _, e⟩ := y; exact ⟨_, e⟩
  | frz ob u => obtain ⟨e, _⟩ := y; exact ⟨_, e⟩
  | tbl ps => exact ⟨_, (show h.get? a = some _ from y)⟩
  | met f y' => exact ⟨_, (show h.get? a = some _ from y)⟩
  | ext φ => obtain ⟨_, ⟨_, e⟩, _⟩ := y; exact ⟨_, e⟩

theorem xc_laid {X : Cx} {pins : List (Addr × Obj)} {σ : St} {H : Hp} {s : Shared} {h' : Heap} {x : Addr} {o : HO} (I : Inv X pins σ H s) (k : ∀ b u, s.heap.get? b = some u → h'.get? b = some u) (hn : s.heap.get? x = none)
    (new : ObjOk X.prog X.w (upd H x o) h' x o) : H x = none ∧ Inv X pins σ (upd H x o) { s with heap := h' } := by
  have hx : H x = none := by
    cases q : H x with
    | none => rfl
    | some u =>
      obtain ⟨y, e⟩ := hok_obj I.hok q
      rw [hn] at e; cases e
  have nb : ∀ b u, s.heap.get? b = some u → b ≠ x := fun b u e z => by rw [z, hn] at e; cases e
  refine ⟨hx, I.un (t' := s.toks) ⟨fun b u e _ _ _ => k b u e, fun b u e _ _ _ => ⟨u.slots, k b u e⟩, fun b u e n _ => by rw [upd_ne (nb b u e)]; exact n, fun b u e _ => ⟨u, k b u e⟩, fun b xs e => by rw [upd_ne (ne_of_none e hx)]; exact e,
    fun b u xs e => by rw [upd_ne (ne_of_none e hx)]; exact e, fun b ps e => ⟨#[], by rw [upd_ne (ne_of_none e hx), e]; simp⟩⟩ fun b u e => ?_⟩
  by_cases hb : b = x
  · subst hb; rw [upd_same] at e; cases e; exact new
  · rw [upd_ne hb] at e
    exact (I.hok b u e).stay (fun c v _ q => k c v q) (fun c q => by rw [upd_ne (ne_of_none q hx)]; exact q) fun c xs q => by rw [upd_ne (ne_of_none q hx)]; exact q


noncomputable abbrev TH := Addr → Addr → Option Addr → Ends → Nat → Hp → Prop

structure PH (X : Cx) (hs : List ExceptHandler) (th : TH) : Prop where
  out : ∀ (pins : List (Addr × Obj)) (s : Shared) (σ : St) (H : Hp) (x C : Addr) (dx : Option Addr) (T : Addr) (D : Ends), Inv X pins σ H s → H x = some (xcO x C dx) → H T = none → X.s_0.heap.objs.size ≤ T → (∀ p ∈ X.pn ++ pins, p.1 ≠ T) → XcTr x T .none s.heap →
    th x C dx D σ.length H → wpAny (model X.prog X.w) X.A (handleBy (.ref x) X.env hs) (SP X pins D) X.xe s
noncomputable def tTry (tb : XK → TS) (th : TH) : TS := fun D σ H => tb (fun c dx H' => ∀ x C, c = .ref C → H' x = some (xcO x C dx) → th x C dx D σ.length H') D σ H
theorem ps_try {X : Cx} {body : List Stmt} {h₀ : ExceptHandler} {hs : List ExceptHandler} {pos : Pos} {tb : XK → TS} {th : TH} (hst : X.stack = X.env :: X.outer) (hf : X.env.frame = some X.env.locals)
    (hb : ∀ (pn : List (Addr × Obj)) (xe : Value → Shared → Prop) (E : XK), Outs { X with pn := pn, xe := xe } E → PSs { X with pn := pn, xe := xe } body (tb E)) (hh : PH X (h₀ :: hs) th) : PS X (.Try body (h₀ :: hs) [] [] pos) (tTry tb th) := by
  constructor
  intro pins s σ H D I h
  refine wpAny_Try_except ?_
  have base : ∀ {X' : Cx} {pl : List (Addr × Obj)} {E : Value → Shared → Prop} {σ' : St} {H' : Hp} {s' : Shared}, X' = { X with pn := X.pn ++ pins, xe := E } → Inv X' pl σ' H' s' → Inv X (pins ++ pl) σ' H' s' := fun {X' pl E σ' H' s'} z J => by
    subst z
    exact ⟨⟨J.ok.mod, J.ok.kind, J.ok.glob, J.ok.blt, J.ok.above, J.ok.inj, J.ok.has, J.ok.cab, J.ok.hd, J.ok.frames, J.ok.stk, J.ok.exf, J.ok.bs, J.ok.bsz, J.ok.noex, J.ok.exfs, J.ok.funs, J.ok.frf⟩, J.os, J.bare, J.base, J.loc, J.cell, J.free, J.freeC,
      fun p hp => J.pin p (by rw [List.append_assoc]; exact hp), J.hok, J.len⟩
  have nopl : ∀ {pl : List (Addr × Obj)} {σ' : St} {H' : Hp} {s' : Shared}, Inv X (pins ++ pl) σ' H' s' → Inv X pins σ' H' s' := fun J => ⟨J.ok, J.os, J.bare, J.base, J.loc, J.cell, J.free, J.freeC, fun p hp => J.pin p (by
    rw [← List.append_assoc]; exact List.mem_append_left _ hp), J.hok, J.len⟩
  let Ex : Value → Shared → Prop := fun e s₁ => wpAny (model X.prog X.w) X.A (noteFrame e X.env) (fun _ s₂ => wpAny (model X.prog X.w) X.A (setFlight e none) (fun _ s₃ => wpAny (model X.prog X.w) X.A (handleBy e X.env (h₀ :: hs)) (SP X pins D) X.xe s₃) X.xe s₂) X.xe s₁
  let X' : Cx := { X with pn := X.pn ++ pins, xe := Ex }
  have I' : Inv X' [] σ H s := ⟨⟨I.ok.mod, I.ok.kind, I.ok.glob, I.ok.blt, I.ok.above, I.ok.inj, I.ok.has, I.ok.cab, I.ok.hd, I.ok.frames, I.ok.stk, I.ok.exf, I.ok.bs, I.ok.bsz, I.ok.noex, I.ok.exfs, I.ok.funs, I.ok.frf⟩, I.os, I.bare, I.base, I.loc, I.cell, I.free, I.freeC,
      fun p hp => I.pin p (by rw [List.append_nil] at hp; exact hp), I.hok, I.len⟩
  have O : Outs X' (fun c dx H' => ∀ x C, c = .ref C → H' x = some (xcO x C dx) → th x C dx D σ.length H') := by
    intro pl σ' H' x C dx s' F q
    show wpAny _ _ (noteFrame (.ref x) X.env) _ _ s'
    refine fly_note (X := X') F hst hf I.ok.frames fun h' T T0 N hz tr hT J => ?_
    have J1 : Inv X (pins ++ []) σ' H' { s' with heap := h' } := base rfl J
    rw [List.append_nil] at J1
    have szs : X.s_0.heap.objs.size ≤ s'.heap.objs.size := F.inv.sz
    have q2 := q x C rfl F.at_
    have hl : σ.length = σ'.length := I.len.trans F.inv.len.symm
    rw [hl] at q2
    refine hh.out pins _ σ' H' x C dx T D J1 F.at_ (F.inv.hok.fresh hz) (Nat.le_trans szs hz) (fun p hp z => ?_) tr q2
    have e := (F.inv.pin p (List.mem_append_left _ hp)).1
    have lt := Heap.lt_size e
    rw [z] at lt
    exact absurd hz (Nat.not_le_of_lt lt)
  refine wpAny_mono ((hb _ _ _ O).run [] s σ H D I' h) (fun fl s1 hs1 => ?_) fun e s1 he => he
  cases fl with
  | next =>
    obtain ⟨σ', H', J, q⟩ := hs1
    have J1 := nopl (base rfl J)
    show wpAny _ _ (execs [] X.env) _ _ _
    exact wpAny_pure ⟨σ', H', J1, q⟩
  | brk =>
    obtain ⟨σ', H', J, q⟩ := hs1
    exact ⟨σ', H', nopl (base rfl J), q⟩
  | cont =>
    obtain ⟨σ', H', J, q⟩ := hs1
    exact ⟨σ', H', nopl (base rfl J), q⟩
  | ret u =>
    obtain ⟨v, σ', H', J, r, q⟩ := hs1
    exact ⟨v, σ', H', nopl (base rfl J), r, q⟩


theorem name_gone {M : Model} {A : Around} {E : Value → Shared → Prop} {X : Cx} {pins : List (Addr × Obj)} {σ : St} {H : Hp} {s : Shared} {i : Nat} {n : Str} {pos : Pos} {Q : Unit → Shared → Prop} (I : Inv X pins σ H s) (hl : X.env.kindOf n = some .local)
    (h : ∀ s', Inv X pins (List.replicate σ.length none) H s' → Q () s') : wpAny M A (do bindName X.env n .none; unbindBehindTheSuite X.env n pos) Q E s := by
  obtain ⟨m, hn, _⟩ := id I.loc
  have hcls : (X.env.scope.kind == .class || (X.env.scope.kind == .module && X.env.locals != X.env.globals)) = false := by rw [I.ok.kind]; rfl
  have cne := I.cne
  obtain ⟨oL, _, _, hoL, _⟩ := id hn
  refine wpAny_nameGoes hl hn hcls fun h' m' hn' hs => ?_
  refine h _ ⟨I.ok, I.os, I.bare, ⟨fun b o e n hb hx => ?_, fun b o e n hb hx => ?_, I.base.free, fun b o e hx => ?_, I.base.tups, I.base.frzs, I.base.tbls⟩, ⟨_, hn', fun j y v' e1 e2 e3 => ?_⟩, fun y c e => ?_, I.free, I.freeC, fun p hp => ?_, fun b ob e => ?_, by rw [List.length_replicate]; exact I.len⟩
  · exact (hs.2 b (Nat.ne_of_lt (Nat.lt_of_lt_of_le (Heap.lt_size e) I.ok.above))).trans (I.base.keep b o e n hb hx)
  · obtain ⟨sl, e1⟩ := I.base.slot b o e n hb hx
    exact ⟨sl, (hs.2 b (Nat.ne_of_lt (Nat.lt_of_lt_of_le (Heap.lt_size e) I.ok.above))).trans e1⟩
  · obtain ⟨o', e1⟩ := I.base.there b o e hx
    exact ⟨o', (hs.2 b (Nat.ne_of_lt (Nat.lt_of_lt_of_le (Heap.lt_size e) I.ok.above))).trans e1⟩
  · rw [List.getElem?_replicate] at e2
    split at e2 <;> cases e2
  · obtain ⟨w', z⟩ := I.cell y c e
    exact ⟨w', z.sameBut hs (cne y c e)⟩
  · obtain ⟨e, nn, ne, nf, d⟩ := I.pin p hp
    exact ⟨(hs.2 p.1 ne).trans e, nn, ne, nf, d⟩
  · refine (I.hok b ob e).stay (fun c w' hc q => (hs.2 c ?_).trans q) (fun _ q => q) fun _ _ q => q
    rintro rfl
    rcases hc with rfl | hc
    · rw [I.free] at e; cases e
    · rw [I.free] at hc; cases hc


noncomputable def tHas (K : PySem.W.Frag) (i : Nat) (Cd : Addr) (ts : TS) (tr : TH) : TH := fun x C dx D n H => ∃ b, PySem.W.exmOne K (.ref C) (.ref Cd) = some b ∧
  if b = true then ts { nx := fun σ' H' => D.nx (List.replicate σ'.length none) H', rt := D.rt, bk := fun σ' H' => D.bk (List.replicate σ'.length none) H', ct := fun σ' H' => D.ct (List.replicate σ'.length none) H' } ((List.replicate n none).set i (some (.ref x))) H else tr x C dx D n H

noncomputable def thNone : TH := fun _ _ _ _ _ _ => False
theorem ph_none {X : Cx} : PH X [] thNone := ⟨fun _ _ _ _ _ _ _ _ _ _ _ _ _ _ _ h => h.elim⟩
theorem ph_as {X : Cx} {i : Nat} {Cd : Addr} {cn n : Str} {p pos : Pos} {b₀ : Stmt} {suite : List Stmt} {rest : List ExceptHandler} {ts : TS} {tr : TH} (hg : Gl X cn) (hm : X.mg cn = some (.ref Cd)) (nd : X.N.Nodup) (hi : X.N[i]? = some n)
    (hl : X.env.scope.names.lookup n = some .local) (hb : ∀ v : Value, PSs { X with A := X.A.mark (some v), calm := false, xe := fun _ _ => False } (b₀ :: suite) ts) (hr : PH X rest tr) (hdb : (cn == ("__debug__" : Str)) = false := by decide) :
    PH X (.ExceptHandler (some (.Name cn p)) (some n) (b₀ :: suite) pos :: rest) (tHas X.K i Cd ts tr) := by
  constructor
  rintro pins s σ H x C dx T D I hx hT hz hp tr0 ⟨b, hb1, hq⟩
  have ob := xc_get I.hok hx
  obtain ⟨o, vs, t0, e1, e2, e3, e4, e5, e6⟩ := id ob
  have LT : PySem.W.Looks (model X.prog X.w) s.heap (typeOf (.ref x)) (.ref C) := e2 ▸ (PySem.W.Looks.ld e1).andThen .now
  have Ih : Inv { X with A := X.A.mark (some (.ref x)), calm := false, xe := fun _ _ => False } pins σ H s :=
      ⟨⟨I.ok.mod, I.ok.kind, I.ok.glob, I.ok.blt, I.ok.above, I.ok.inj, I.ok.has, I.ok.cab, (fun z => nomatch z), I.ok.frames, I.ok.stk, I.ok.exf, I.ok.bs, I.ok.bsz, I.ok.noex, I.ok.exfs, I.ok.funs, I.ok.frf⟩, I.os, I.bare, I.base, I.loc, I.cell, I.free, I.freeC,
        fun p hp => I.pin p hp, I.hok, I.len⟩
  refine wpAny_handleBy_cons (codeAny_handlers_test (ld_glob Ih hg hm ((PySem.W.exm_one I.kIn LT hb1).here ?_) hdb)) (by intro z; cases z)
  cases b with
  | false =>
    rw [if_neg Bool.false_ne_true] at hq
    exact hr.out pins s σ H x C dx T D I hx hT hz hp tr0 hq
  | true =>
    rw [if_pos rfl] at hq
    refine codeAny_handlers_suite_as (flight_set tr0 none fun h' k1 th1 tr1 => ?_)
    have NE : ∀ c, H c ≠ none → c ≠ T := fun c hc z => hc (by rw [z]; exact hT)
    have I1 : Inv X pins σ H { s with heap := h' } := by
      obtain ⟨_, ox, oT, vsx, tsT, _, _, _, eT, dT, _⟩ := tr0
      refine I.turned (t' := s.toks) (it := T) (fun c u hc e => (k1 c hc).trans e) hT (fun z => ?_) (.inr hz) (fun y c e z => ?_) hp
      · obtain ⟨m, ⟨o', es, ep, ho', hd', _⟩, _⟩ := I.loc
        rw [← z, eT] at ho'
        cases ho'
        rw [dT] at hd'; cases hd'
      · obtain ⟨v, o', ho', hd'⟩ := I.cell y c e
        rw [z, eT] at ho'
        cases ho'
        rw [dT] at hd'; cases hd'
    refine store_ok I1 nd hi (.inl hl) (v := .ref x) rfl (fun s2 I2 => ?_) (.inr hl)
    have I3 := I2.weak (σ' := (List.replicate σ.length none).set i (some (V.ref x))) (by simp) (fun j v e => by
      by_cases hj : j = i
      · subst hj
        have lt : j < σ.length := by rw [I.len]; exact (List.getElem?_eq_some_iff.mp hi).1
        rw [List.getElem?_set_self (by rw [List.length_replicate]; exact lt)] at e
        rw [List.getElem?_set_self lt]
        exact e
      · rw [List.getElem?_set_ne (Ne.symm hj), List.getElem?_replicate] at e
        split at e <;> cases e)
    have go : ∀ {X' : Cx} {pl : List (Addr × Obj)} {σ' : St} {H' : Hp} {s' : Shared}, X' = { X with A := X.A.mark (some (.ref x)), calm := false, xe := fun _ _ => False } → Inv X' pl σ' H' s' → Inv X pl σ' H' s' := fun {X' pl σ' H' s'} z J => by
      subst z
      exact ⟨⟨J.ok.mod, J.ok.kind, J.ok.glob, J.ok.blt, J.ok.above, J.ok.inj, J.ok.has, J.ok.cab, I.ok.hd, I.ok.frames, J.ok.stk, J.ok.exf, J.ok.bs, J.ok.bsz, J.ok.noex, J.ok.exfs, J.ok.funs, J.ok.frf⟩, J.os, J.bare, J.base, J.loc, J.cell, J.free, J.freeC,
        fun p hp => J.pin p hp, J.hok, J.len⟩
    have I4 : Inv { X with A := X.A.mark (some (.ref x)), calm := false, xe := fun _ _ => False } pins ((List.replicate σ.length none).set i (some (V.ref x))) H s2 :=
      ⟨⟨I.ok.mod, I.ok.kind, I.ok.glob, I.ok.blt, I.ok.above, I.ok.inj, I.ok.has, I.ok.cab, (fun z => nomatch z), I.ok.frames, I.ok.stk, I.ok.exf, I.ok.bs, I.ok.bsz, I.ok.noex, I.ok.exfs, I.ok.funs, I.ok.frf⟩, I3.os, I3.bare, I3.base, I3.loc, I3.cell, I3.free, I3.freeC,
        fun p hp => I3.pin p hp, I3.hok, I3.len⟩
    refine wpAny_noRaise (wpAny_mono ((hb (.ref x)).run pins s2 _ H _ I4 hq) (fun fl s3 hs3 => ?_) fun _ _ z => z)
    cases fl with
    | next =>
      obtain ⟨σ', H', J, q⟩ := hs3
      exact name_gone (i := i) (go rfl J) hl fun s4 I5 => ⟨_, H', I5, q⟩
    | brk =>
      obtain ⟨σ', H', J, q⟩ := hs3
      exact name_gone (i := i) (go rfl J) hl fun s4 I5 => ⟨_, H', I5, q⟩
    | cont =>
      obtain ⟨σ', H', J, q⟩ := hs3
      exact name_gone (i := i) (go rfl J) hl fun s4 I5 => ⟨_, H', I5, q⟩
    | ret u =>
      obtain ⟨v, σ', H', J, r, q⟩ := hs3
      exact name_gone (i := i) (go rfl J) hl fun s4 I5 => ⟨v, _, H', I5, r, q⟩
end L2

set_option Elab.async false
set_option linter.all false
set_option maxRecDepth 100000

namespace L2
open PySem PySem.Spec PyProof.Rows
theorem xc_inst {x C : Addr} {dx : Option Addr} {h : Heap} (b : XcOb x C dx h) (hd : ∀ d, dx = some d → ∃ u, h.get? d = some u) : ∃ ox od, PySem.W.InstAt h x ox C od ∧ (∀ d, dx = some d → ∃ u, h.get? d = some u ∧ od = some u) := by
  obtain ⟨o, vs, t, e1, e2, e3, e4, _⟩ := b
  cases dx with
  | none => exact ⟨o, none, ⟨e1, e2, by unfold PySem.W.notCls; rw [e4], by rw [e3]; trivial⟩, fun d z => nomatch z⟩
  | some d =>
    obtain ⟨u, hu⟩ := hd d rfl
    exact ⟨o, some u, ⟨e1, e2, by unfold PySem.W.notCls; rw [e4], by rw [e3]; exact hu⟩, fun d' z => by cases z; exact ⟨u, hu, rfl⟩⟩
theorem kitx_exc {K : PySem.W.Frag} {x C : Addr} (c : XCls K C) : PySem.W.KitX K (.ref x) (.ref C) (fun h => ∃ ox od, PySem.W.InstAt h x ox C od) where
  ty := fun _ _ _ ⟨_, _, I⟩ => I.type
  it := fun _ _ X _ => by
    obtain ⟨cd, hc, _⟩ := PySem.W.any_some c.hd
    unfold PySem.W.clsIn at hc
    split at hc
    · rename_i lk
      intro A Q E s k q
      unfold isType loadHead
      exact wpAny_bind (wpAny_loadPart (k _ _ (X _ _ lk)) (wpAny_pure q))
    · cases hc
  ne := fun h tp dd its n sl X htp => by
    obtain ⟨cd, hc, _⟩ := PySem.W.any_some c.hd
    refine Bool.eq_false_iff.mpr fun q => ?_
    have e : C = tp := Value.ref.inj (beq_iff_eq.mp q)
    subst e
    unfold PySem.W.clsIn at hc
    split at hc
    · rename_i lk
      have z := (X _ _ lk).symm.trans htp
      cases z
    · cases hc
  ca := fun X ⟨_, _, I⟩ k => by
    obtain ⟨cd, hc, _⟩ := PySem.W.any_some c.hd
    exact PySem.W.xa_class X I c.ga c.gn c.mb (by rw [hc]; rfl) c.ca (obj_class_get _) (obj_class_takes _) c.mo k

noncomputable def clsV : V → Value
  | .ref a => .ref a
  | .ty n => .type n
  | _ => .none
noncomputable def isClsV : V → Bool
  | .ref _ => true
  | .ty _ => true
  | _ => false
theorem clsV_of {v : V} {u : Value} (r : RelV v u) (h : isClsV v = true) : u = clsV v := by
  cases v with
  | ref a => exact r
  | ty n => exact r
  | _ => cases h
theorem clsVs_of : ∀ {vs : List V} {us : List Value}, Vals vs us → vs.all isClsV = true → us = vs.map clsV
  | _, _, .nil, _ => rfl
  | _, _, .cons r t, h => by
    rw [List.all_cons, Bool.and_eq_true] at h
    rw [List.map_cons, clsV_of r h.1, clsVs_of t h.2]
theorem kitAny_nil {K : PySem.W.Frag} {t : Value} : PySem.W.kitAny K t [] = some false := rfl
theorem kitAny_cons {K : PySem.W.Frag} {t c : Value} {r : List Value} {b d : Bool} (h : PySem.W.kitOne K t c = some b) (h' : PySem.W.kitAny K t r = some d) : PySem.W.kitAny K t (c :: r) = some (b || d) := by
  unfold PySem.W.kitAny
  rw [h]
  cases b with
  | true => rfl
  | false => exact h'

noncomputable def rIsX (K : PySem.W.Frag) : List V → Hp → VK → Prop := fun vs H Q => ∃ (x C : Addr) (dx : Option Addr) (c : V) (b : Bool), vs = [.ref x, c] ∧ H x = some (xcO x C dx) ∧ (∀ d, dx = some d → ∃ fs, H d = some (.xd fs)) ∧ XCls K C ∧
  ((isClsV c = true ∧ PySem.W.kitOne K (.ref C) (clsV c) = some b) ∨ (∃ tp cs, c = .ref tp ∧ H tp = some (.tup cs) ∧ cs.all isClsV = true ∧ PySem.W.kitAny K (.ref C) (cs.map clsV) = some b)) ∧ Q (.bl b) H
theorem call_isX {X : Cx} : CallR X (.builtin "isinstance") (rIsX X.K) := by
  constructor
  rintro pins s σ H vs us Q I r ⟨x, C, dx, c, b, rfl, hx, hd, cl, hc, q⟩
  cases r with
  | cons r1 r2 =>
  cases r2 with
  | cons r3 r4 =>
  cases r4
  cases (show _ = Value.ref x from r1)
  have ob := xc_get I.hok hx
  obtain ⟨ox, od, IA, _⟩ := xc_inst ob fun d e => by
    obtain ⟨fs, hf⟩ := hd d e
    exact hok_obj I.hok hf
  have fin : ∀ tk, EP X pins σ Q (.bool b) { s with toks := tk } := fun tk => ⟨.bl b, H, I.tok tk, rfl, q⟩
  rcases hc with ⟨h1, h2⟩ | ⟨tp, cs, rfl, ht, h1, h2⟩
  · rw [← clsV_of r3 h1] at h2
    exact PySem.W.kia_one (kitx_exc cl) I.kIn ⟨ox, od, IA⟩ h2 (fun z => nomatch z) fin
  · cases (show _ = Value.ref tp from r3)
    obtain ⟨_, its, rv, o, e1, e2, ⟨n, e3⟩, _⟩ := (show ObjOk X.prog X.w H s.heap tp (.tup cs) from I.hok tp _ ht)
    rw [← clsVs_of rv h1] at h2
    obtain ⟨oc, od2, oda, osl⟩ := o
    dsimp only at e2 e3
    subst e2
    subst e3
    exact PySem.W.kia_tup (kitx_exc cl) I.kIn ⟨ox, od, IA⟩ e1 h2 (fun z => nomatch z) fin

noncomputable def tXat (K : PySem.W.Frag) (ta : TE) (f : Str) : TE := fun σ H Q => ta σ H fun v H1 => ∃ (x C d : Addr) (fs : List (Str × V)) (u : V), v = .ref x ∧ H1 x = some (xcO x C (some d)) ∧ H1 d = some (.xd fs) ∧ XCls K C ∧ NoAttr K C f ∧ fs.lookup f = some u ∧ Q u H1
theorem pe_xat {X : Cx} {e : Expr} {f : Str} {pos : Pos} {ta : TE} (he : PE X e ta) (hb : attributeBase e f X.env (eval e X.env) = eval e X.env) : PE X (.Attribute e f pos) (tXat X.K ta f) := by
  constructor
  intro pins s σ H Q I h
  refine attr_of hb (thn (he pins s σ H _ I h) fun u s1 ⟨v, H1, I1, rx, x, C, d, fs, w, ex, hx, hd, cl, na, hl, q⟩ => ?_)
  subst ex
  obtain rfl : u = Value.ref x := rx
  have ob := xc_get I1.hok hx
  obtain ⟨mA, n1, rel⟩ := (show ObjOk X.prog X.w H1 s1.heap d (.xd fs) from I1.hok d _ hd)
  obtain ⟨od', hod, hlk⟩ := lookIn_ns n1
  obtain ⟨ox, od, IA, dd⟩ := xc_inst ob fun d' e => by cases e; exact ⟨od', hod⟩
  obtain ⟨u2, hu2, rfl⟩ := dd d rfl
  rw [hod] at hu2
  cases hu2
  have rl := rel f
  rw [hl] at rl
  obtain ⟨uv, e1, e2⟩ := RelO.some_of rl
  exact PySem.W.xa_value I1.kIn IA cl.ga cl.gn cl.mb (PySem.W.findObj_own cl.hd na rfl (by rw [hlk, e1])) (handed_of e2) ⟨w, H1, I1.tok _, e2, q⟩
theorem call_isXK {X : Cx} {K : PySem.W.Frag} (h : X.K = K := by rfl) : CallR X (.builtin "isinstance") (rIsX K) := by subst h; exact call_isX
theorem pe_xatK {X : Cx} {K : PySem.W.Frag} {e : Expr} {f : Str} {pos : Pos} {ta : TE} (he : PE X e ta) (hb : attributeBase e f X.env (eval e X.env) = eval e X.env) (h : X.K = K := by rfl) : PE X (.Attribute e f pos) (tXat K ta f) := by subst h; exact pe_xat he hb
end L2

set_option Elab.async false
set_option linter.all false
set_option maxRecDepth 100000

namespace L2
open PySem PySem.Spec PyProof.Rows
theorem nsStr_of {K : PySem.W.Frag} {N : Addr} {c : Value} {d : Option Addr} {es : Array DictEntry} {n : Nat} {sl : Array (Option Value)} (lk : K.lookup N = some ⟨c, d, .dict es n, sl⟩)
    (q : (es.toList.all fun e => match e.key with | .str _ _ => true | _ => false) = true) : nsStr K N = true := by
  unfold nsStr
  rw [lk]
  exact q
theorem kit_ref {K : PySem.W.Frag} {C D : Addr} {b : Bool} (hh : PySem.W.hasDictIn K D = true) (ht : PySem.W.typeIn K (.ref D) = some (.type "type")) (hs : PySem.W.subIn K (.ref C) (.ref D) = some b) : PySem.W.kitCls K (.ref C) (.ref D) = some b := by
  obtain ⟨cd, hc, _⟩ := PySem.W.any_some hh
  show (if ((PySem.W.clsIn K D).isSome && PySem.W.typeIn K (.ref D) == some (.type "type")) = true then PySem.W.subIn K (.ref C) (.ref D) else none) = some b
  rw [hc, ht, if_pos (by simp)]
  exact hs
theorem kit1_ref {K : PySem.W.Frag} {C D : Addr} {b : Bool} (hh : PySem.W.hasDictIn K D = true) (ht : PySem.W.typeIn K (.ref D) = some (.type "type")) (h0 : PySem.W.subIn K (.ref C) (.ref C) = some true) (hs : PySem.W.subIn K (.ref C) (.ref D) = some b) : PySem.W.kitOne K (.ref C) (.ref D) = some b := by
  unfold PySem.W.kitOne
  by_cases h : ((Value.ref C == Value.ref D) = true)
  · rw [if_pos h]
    have e : C = D := Value.ref.inj (beq_iff_eq.mp h)
    subst e
    rw [h0] at hs
    exact hs
  · rw [if_neg h]
    exact kit_ref hh ht hs
theorem kit1_ty {K : PySem.W.Frag} {C : Addr} {T : String} {b : Bool} (hm : PySem.W.kitMeta T = true) (hs : PySem.W.subIn K (.ref C) (.type T) = some b) : PySem.W.kitOne K (.ref C) (.type T) = some b := by
  unfold PySem.W.kitOne
  rw [if_neg (by simp)]
  show (if PySem.W.kitMeta T = true then PySem.W.subIn K (.ref C) (.type T) else none) = some b
  rw [if_pos hm]
  exact hs
theorem exm_ref {K : PySem.W.Frag} {C D : Addr} {b : Bool} (hh : PySem.W.hasDictIn K D = true) (ht : PySem.W.typeIn K (.ref D) = some (.type "type")) (hb : PySem.W.subIn K (.ref D) (.type "BaseException") = some true) (hs : PySem.W.subIn K (.ref C) (.ref D) = some b) : PySem.W.exmOne K (.ref C) (.ref D) = some b := by
  unfold PySem.W.exmOne
  rw [hb, if_pos (by simp)]
  exact kit_ref hh ht hs
theorem bt_ValueError : bootBuiltins "ValueError" = some (.type "ValueError") := by decide +kernel
end L2
namespace L2
open PySem PySem.Spec PyProof.Rows

theorem FunD.okE {P : Program} {w : World} {K : PySem.W.Frag} {mg : Str → Option Value} {base : Heap} {dV kV : Value} {x qual : Str} {st : Stmt} {f : Addr} {fd : FuncData} {N ps : List Str} {k : Nat} {sp : Sp} (F : FunD K dV kV x qual st f fd) (S : FnScope N ps (defScope st)) (len : ∀ vs H Q E, sp vs H Q E → vs.length = ps.length)
    (hbody : ∀ (cdv : Value) (A : Around) (outer : List Env) (s : Shared) (H : Hp) (vs : List V) (Q : VK) (E : XK), Room k (A.deeper (envOfC qual (defScope st) s.heap.objs.size f cdv)) → sp vs H Q E →
      ∃ t, PSs (cxOf (CXE P w) P w K mg base N qual (defScope st) f cdv A outer s H E) (defBody st) t ∧ t { nx := fun _ H' => Q .non H', rt := Q } (start N vs) H) : FnOk P w K mg base (CXE P w) (k + 1) f fd ps sp := by
  obtain ⟨oc, od, doc, pm, an, cdv, ct, osl, rfl, lk, hcd⟩ := F.ex
  exact fn_of lk hcd S len fun A outer s H vs Q E hr hsp => hbody cdv A outer s H vs Q E hr hsp

theorem FnOk.toE {P : Program} {w : World} {K : PySem.W.Frag} {mg : Str → Option Value} {base : Heap} {k : Nat} {f : Addr} {fd : FuncData} {ps : List Str} {sp : Sp} (F : FnOk P w K mg base CX0 k f fd ps sp) : FnOk P w K mg base (CXE P w) k f fd ps sp :=
  ⟨F.len, fun A outer s H args us vs Q E hr he hb hv h => codeAny_mono (F.run A outer s H args us vs Q E hr he hb hv h) fun r s' z => by
    cases r with
    | error e => exact False.elim z
    | ok fl => cases fl <;> exact z⟩
noncomputable def spOr (sp sq : Sp) : Sp := fun vs H Q E => sp vs H Q E ∨ sq vs H Q E

theorem FnOk.both {P : Program} {w : World} {K : PySem.W.Frag} {mg : Str → Option Value} {base : Heap} {CX : CXT} {k : Nat} {f : Addr} {fd : FuncData} {ps : List Str} {sp sq : Sp} (F : FnOk P w K mg base CX k f fd ps sp) (G : FnOk P w K mg base CX k f fd ps sq) :
    FnOk P w K mg base CX k f fd ps (spOr sp sq) :=
  ⟨fun vs H Q E h => h.elim (F.len vs H Q E) (G.len vs H Q E), fun A outer s H args us vs Q E hr he hb hv h => h.elim (F.run A outer s H args us vs Q E hr he hb hv) (G.run A outer s H args us vs Q E hr he hb hv)⟩
end L2

set_option Elab.async false
set_option linter.all false
set_option maxRecDepth 100000

namespace My
open PySem PySem.Spec PyProof.Rows L2
theorem join_len20 (y : Str) : ∀ ws : List Str, (Txt.join y ws).length ≤ (ws.map (·.length)).sum + ws.length * y.length := by
  intro ws
  rw [TL.len_tl, TL.join_eq, TL.tl_join]
  induction ws with
  | nil => exact Nat.zero_le _
  | cons w r ih =>
    cases r with
    | nil => simp [TL.joinL, TL.tl, Str.length]
    | cons w2 r2 =>
      have e : TL.joinL (TL.tl y) (List.map TL.tl (w :: w2 :: r2)) = TL.tl w ++ (TL.tl y ++ TL.joinL (TL.tl y) (List.map TL.tl (w2 :: r2))) := by simp [TL.joinL]
      rw [e, List.length_append, List.length_append, ← TL.len_tl w, ← TL.len_tl y]
      have e2 : (List.map (fun x : Str => x.length) (w :: w2 :: r2)).sum = w.length + (List.map (fun x : Str => x.length) (w2 :: r2)).sum := rfl
      have e3 : (w :: w2 :: r2).length * y.length = (w2 :: r2).length * y.length + y.length := by rw [List.length_cons, Nat.succ_mul]
      rw [e2, e3]
      omega
end My
namespace L2
open PySem PySem.Spec PyProof.Rows

end L2

set_option Elab.async false
set_option linter.all false
set_option maxRecDepth 100000

namespace PySem.W
open PySem PySem.Spec PySem.Calls PyProof.Rows
open Builtin Builtin.ObjectAttr
section
variable {prog : Program} {w : World} {A : Around} {E : Value → Shared → Prop} {s : Shared} {K : Frag} {x C : Addr} {name : Str} {v : Value}

structure XSet (K : Frag) (C : Addr) : Prop where
  sa : findIn K (.ref C) "__setattr__" = some (some (.builtin "object.__setattr__"))
  hd : hasDictIn K C = true
  mr : ∃ cd B bm, clsIn K C = some cd ∧ cd.mro = .ref C :: bm ∧ StoreFacts B bm "object.__setattr__" "object"

theorem xs_store {ox : Obj} {vs : Array Value} {Q : Unit → Shared → Prop} (X : K.In s.heap) (c : XSet K C) (hx : s.heap.get? x = some ox) (hc : ox.cls = .ref C) (hdn : ox.dict = none) (hda : ox.data = .fields vs) (ht : takerIn K C name = some none)
    (h : ∀ h' dx t', s.heap.get? dx = none → h'.Ns1 dx (fun y => if y = name then some v else none) → h'.get? x = some { ox with dict := some dx } → (∀ b o, b ≠ x → s.heap.get? b = some o → h'.get? b = some o) → Q () { s with heap := h', toks := t' }) :
    wpAny (model prog w) A (setAttr (.ref x) name v) Q E s := by
  obtain ⟨cd, B, bm, hcl, hmro, SF⟩ := c.mr
  have I : InstAt s.heap x ox C none := ⟨hx, hc, by unfold notCls; rw [hda], by rw [hdn]; trivial⟩
  obtain ⟨cd', hc', hd'⟩ := any_some c.hd
  rw [hcl] at hc'
  cases hc'
  refine set_plain X I c.sa ?_
  have ne : cd.mro.isEmpty = false := by rw [hmro]; rfl
  have ho : cd.mro.contains (.type "object") = true := by rw [hmro, List.contains_cons, SF.hasOwner, Bool.or_true]
  have sub : Looks (model prog w) s.heap (isInstance (.ref x) (.type "object")) true := I.type.andThen (looks_mroIn X (by unfold mroIn; rw [hcl, Option.bind_some, if_neg (by rw [ne]; decide), ho]))
  have SO := PySem.F.store_object
  obtain ⟨hp, g, d, t, os⟩ := s
  refine codeAny_call_builtin SO.slot.plain SO.entry (@check_slot (model prog w) _ _ ⟨hp, g, d, t + 1, os⟩ "object.__setattr__" "object" "__setattr__" (.ref x) [.str name t, v] [] _ SO.kind SO.split sub (SO.args (.ref x) (.str name t) v) ?_)
  obtain ⟨attr, ha, hr⟩ := Option.bind_eq_some_iff.mp ht
  have hm : Looks (model prog w) hp (mroOf (.ref C)) cd.mro := (looks_clsIn X hcl).andThen .now
  have L3 : Looks (model prog w) hp (storeTaker? attr) none := by
    cases attr with
    | none => exact .now
    | some a =>
      obtain ⟨b, hb, q⟩ := Option.map_eq_some_iff.mp hr
      refine (looks_takesIn X hb).andThen ?_
      cases b
      · exact .now
      · cases q
  rw [osa_eq, refuse_eq]
  refine wpAny_bind (wpAny_bind (I.type.at (wpAny_bind (hm.at ?_))))
  rw [hmro, refuseLoop_ref, SF.passes]
  refine wpAny_pure (wpAny_bind (I.type.at (wpAny_bind ((looks_findIn X ha).at (wpAny_bind (L3.at ?_))))))
  show wpAny _ _ (storeInOwnDict (.ref x) (.ref C) (.str name t) name v _) _ _ _
  obtain ⟨oc, od, oda, osl⟩ := ox
  dsimp only at hc hdn hda
  subst hc hdn hda
  refine wpAny_bind (wpAny_pure (wpAny_bind (wpAny_bind (wpAny_loadPart hx (wpAny_bind ((looks_clsIn X hcl).at ?_))))))
  rw [hd']
  have xs : x ≠ hp.objs.size := Nat.ne_of_lt (Heap.lt_size hx)
  have hx1 : (hp.push { cls := .type "dict", data := .dict #[] }).get? x = some ⟨.ref C, none, .fields vs, osl⟩ := Heap.get?_push_of_some _ hx
  refine wpAny_bind (wpAny_alloc' (wpAny_bind (wpAny_update' hx1 (wpAny_pure ?_))))
  have hgd : ((hp.push { cls := .type "dict", data := .dict #[] }).update x fun o => { o with dict := some hp.objs.size }).get? hp.objs.size = some { cls := .type "dict", data := .dict #[] } :=
    (Heap.get?_update_ne _ _ _ _ xs.symm).trans (Heap.get?_push_at rfl rfl)
  have hnd : ((hp.push { cls := .type "dict", data := .dict #[] }).update x fun o => { o with dict := some hp.objs.size }).Ns hp.objs.size (fun _ => none) := ⟨_, #[], _, hgd, rfl, fun e he => absurd he (by simp), fun _ => rfl⟩
  show wpAny _ _ (storeInDict hp.objs.size (.str name t) name v) _ _ _
  unfold storeInDict newKeyGuard
  refine wpAny_bind (wpAny_pure (wpAny_bind (wpAny_nsSet1 (Heap.Ns1.of_empty hnd) fun h' hn' hs => ?_)))
  obtain ⟨oD, esD, epD, hoD, hdD, hcD⟩ := hn'.count (Within.cons name v Within.nil)
  refine wpAny_bind (wpAny_lookBehind hoD (by rw [hdD]; exact pastItsLine_dict (Nat.le_trans hcD (by rw [List.length_cons, List.length_nil, sizeLine_eq]; omega))) ?_)
  refine wpAny_pure (h h' hp.objs.size _ (Heap.get?_none_of_le (Nat.le_refl _)) hn' ((hs.2 x xs).trans ?_) fun b o hb hbo => ?_)
  · exact Heap.get?_update_self _ hx1 rfl
  · exact (hs.2 b (Nat.ne_of_lt (Heap.lt_size hbo))).trans ((Heap.get?_update_ne _ _ _ _ hb).trans (Heap.get?_push_of_some _ hbo))

theorem base_init {nm q : Str} {N : Addr} {bs bm : List Value} {hdct : Bool} {sn : List Str} {sub : List Value} {ab : Bool} {col : Option Bool} {dd : Option Addr} {k0 k1 k2 k3 k5 : Option Value} {B newId initId : String} {ox : Obj} {vs : Array Value} {t0 : Addr} {rest : List Value} {Q : Value → Shared → Prop}
    (F : ExcBaseFacts B newId initId bm) (hC : s.heap.get? C = some (excClassObj nm q C N bs bm hdct sn sub ab col dd k0 k1 k2 k3 k5 newId)) (hx : s.heap.get? x = some ox) (hc : ox.cls = .ref C) (hd : ox.data = .fields vs) (h0 : vs[0]? = some (.ref t0)) (hrest : rest.length ≤ sizeLine)
    (h : Q .none { s with heap := (s.heap.push { cls := .type "tuple", data := .seq rest.toArray }).update x (Obj.mapFields (·.setIfInBounds 0 (.ref s.heap.objs.size))) }) :
    wpAny (model prog w) A (call (.builtin initId) (.ref x :: rest)) Q E s := by
  obtain ⟨hp, g, d, t, os⟩ := s
  refine wpAny_call (codeAny_call_builtin F.init.plain F.initEntry (wpAny_check_init_sub F hC hx hc ?_))
  unfold Builtin.«BaseException.__init__»
  dsimp only
  rw [if_neg (by simp)]
  unfold newTuple Builtin.BaseException.bexcPut
  have n0 : 0 < vs.size := (Array.getElem?_eq_some_iff.mp h0).1
  have hx1 := Heap.get?_push_of_some (h := hp) { cls := .type "tuple", data := .seq rest.toArray } hx
  refine wpAny_bind (wpAny_newObj_type (wpAny_bind (wpAny_bind (wpAny_field hx1 hd h0 (wpAny_bind (wpAny_setField hx1 hd n0 ?_))))) (by show rest.toArray.size ≤ sizeLine; rw [List.size_toArray]; exact hrest))
  exact wpAny_letGo (wpAny_pure h)

theorem type_method {T : String} {pl : Sem Bool} {u : Value} {Q : Value × List Value → Shared → Prop} (X : K.In s.heap) (ht : typeOf (.type T) = pure (.type "type")) (hs : Manifest.isStub T = false)
    (e : findCls K (.type T) (.type "type") name = some (.val u)) (hh : handedIn u = true) (h : Q (u, []) { s with toks := s.toks + 1 }) : wpAny (model prog w) A (getMethod (.type T) name pl) Q E s := by
  have L0 : Looks (model prog w) s.heap (typeOf (.type T)) (.type "type") := Looks.of_pure ht
  have LO : Looks (model prog w) s.heap (opaqueClassAbove (.type T)) none := Looks.of_pure (by unfold opaqueClassAbove; dsimp only; rw [hs]; rfl)
  have hg : findIn K (.type "type") "__getattribute__" = some (some (.builtin "type.__getattribute__")) := type_tga
  unfold getMethod specialOf
  refine wpAny_bind (wpAny_bind (L0.here ((looks_findIn X hg).here ?_)))
  dsimp only
  rw [if_pos canon_tga]
  refine wpAny_bind (wpAny_mono (Q := fun v => Q (v, [])) (E := E) ?_ (fun _ _ z => wpAny_pure z) fun _ _ z => z)
  exact cls_open X LO L0 hg (looks_hook X (r := none) (by rfl)) (by show subIn K _ _ = _; rfl) e (wpAny_pure (by show wpAny _ _ (handedOut u) _ _ _; rw [handedOut_of hh]; exact wpAny_pure h))
theorem base_found_ValueError (K : Frag) : findCls K (.type "ValueError") (.type "type") "__init__" = some (.val (.builtin "ValueError.__init__")) := by
  have e : findCls [] (.type "ValueError") (.type "type") "__init__" = some (.val (.builtin "ValueError.__init__")) := by kernel_rfl
  exact e
end
end PySem.W

namespace L2
open PySem PySem.Spec PyProof.Rows

noncomputable def XnOb (x C : Addr) (dx : Option Addr) (h : Heap) : Prop :=
  ∃ (o : Obj) (vs : Array Value) (t : Addr), h.get? x = some o ∧ o.cls = Value.ref C ∧ o.dict = dx ∧ o.data = .fields vs ∧ vs[0]? = some (.ref t) ∧ vs[1]? = some Value.none
noncomputable abbrev xnO (x C : Addr) (dx : Option Addr) : HO := .ext (XnOb x C dx)
theorem xn_ok {P : Program} {w : World} {H : Hp} {h : Heap} {x C : Addr} {dx : Option Addr} (b : XnOb x C dx h) : ObjOk P w H h x (xnO x C dx) := by
  refine ⟨b, ?_, fun h1 h2 b1 k => ?_⟩
  · obtain ⟨o, _, _, e, _⟩ := b
    exact ⟨o, e⟩
  · obtain ⟨o, vs, t, e, r⟩ := b1
    exact ⟨o, vs, t, k o e, r⟩
theorem xn_get {P : Program} {w : World} {H : Hp} {h : Heap} {x C : Addr} {dx : Option Addr} (hok : HOk P w H h) (e : H x = some (xnO x C dx)) : XnOb x C dx h := (hok x _ e).1
theorem XnOb.xc {x C : Addr} {dx : Option Addr} {h : Heap} (b : XnOb x C dx h) : XcOb x C dx h :=
  let ⟨o, vs, t, e1, e2, e3, e4, e5, e6⟩ := b
  ⟨o, vs, t, e1, e2, e3, e4, e5, (Array.getElem?_eq_some_iff.mp e6).1⟩
theorem XnOb.nw {x C : Addr} {dx : Option Addr} {h : Heap} (b : XnOb x C dx h) : XcNew x h :=
  let ⟨o, vs, _, e1, _, _, e4, _, e6⟩ := b
  ⟨o, vs, e1, e4, e6⟩
theorem upd_self {H : Hp} {a : Addr} {o : HO} (e : H a = some o) : upd H a o = H := by
  funext b
  by_cases h : b = a
  · subst h; rw [upd_same, e]
  · rw [upd_ne h]

structure XBase (K : PySem.W.Frag) (C : Addr) (B initId : String) : Prop where
  ex : ∃ (newId : String) (nm q : Str) (N : Addr) (bs bm : List Value) (hdct : Bool) (sn : List Str) (sub : List Value) (ab : Bool) (col : Option Bool) (dd : Option Addr) (k0 k1 k2 k3 k5 : Option Value),
    ExcBaseFacts B newId initId bm ∧ K.lookup C = some (excClassObj nm q C N bs bm hdct sn sub ab col dd k0 k1 k2 k3 k5 newId)
  fnd : PySem.W.findCls K (.type B) (.type "type") "__init__" = some (.val (.builtin initId))
  ty : typeOf (.type B) = pure (.type "type")
  st : Manifest.isStub B = false
  hi : PySem.W.handedIn (.builtin initId) = true


noncomputable def tBinit (C : Addr) (ta : TA) : TE := fun σ H Q => ta σ H fun vs H1 => ∃ x dx r, vs = .ref x :: r ∧ H1 x = some (xnO x C dx) ∧ r.length ≤ sizeLine ∧ Q .non H1
theorem pe_binit {X : Cx} {C : Addr} {B initId : String} {bn : Str} {np apos pos : Pos} {e : Expr} {es : List Expr} {ta : TA} {pl : Sem Bool} (c : XBase X.K C B initId) (hg : Gl X bn) (hm : X.mg bn = none) (hv : bootBuiltins bn = some (.type B)) (ha : PA X (e :: es) ta) (hn : bn ≠ "__name__" := by decide) (hdb : (bn == ("__debug__" : Str)) = false := by decide)
    (he : starEach (e :: es) X.env = (false, eval e X.env) :: starEach es X.env := by rfl) (hpl : (backTo pos (starEach (e :: es) X.env)).any (·.1) = false := by rfl)
    (ht : eval (.Call (.Attribute (.Name bn np) "__init__" apos) (e :: es) [] pos) X.env = (do
      let ov ← eval (.Name bn np) X.env
      standAt apos.atName
      let (f, first) ← holding [ov] (getMethod ov "__init__" pl)
      callWith pos f first (backTo pos (starEach (e :: es) X.env)) (backToKw pos (keywordEach [] X.env))) := by rfl) : PE X (.Call (.Attribute (.Name bn np) "__init__" apos) (e :: es) [] pos) (tBinit C ta) := by
  constructor
  intro pins s σ H Q I h
  refine PySem.W.methodCall_KW (pl := pl) (ld_blt I hg hm hv (PySem.W.type_method I.kIn c.ty c.st c.fnd c.hi ?_) hn hdb) ht
  have I1 : Inv X pins σ H { s with toks := s.toks + 1 } := ⟨I.ok, I.os, I.bare, I.base, I.loc, I.cell, I.free, I.freeC, I.pin, I.hok, I.len⟩
  have ha2 := ha.run pos pins _ σ H _ I1 h
  rw [he] at ha2 hpl
  rw [he]
  refine Calls.callWith_builtin (by rw [hpl]) (Calls.evalArgs_plain (wpAny_mono ha2 (fun ww s1 ⟨vs, H1, I2, r, z⟩ => ?_) fun _ _ y => y))
  obtain ⟨x, dx, r', rfl, hx, hz, q⟩ := z
  obtain ⟨u, us, rfl, r1, r2⟩ : ∃ u us, ww = u :: us ∧ RelV (.ref x) u ∧ Vals r' us := by cases r with | cons a b => exact ⟨_, _, rfl, a, b⟩
  obtain ⟨newId, nm, qq, N, bs, bm, hdct, sn, sub, ab, col, dd, k0, k1, k2, k3, k5, F, lk⟩ := c.ex
  obtain ⟨o, vs, t0, e1, e2, e3, e4, e5, e6⟩ := xn_get I2.hok hx
  obtain rfl : u = Value.ref x := r1
  have nx : x ≠ s1.heap.objs.size := Nat.ne_of_lt (Heap.lt_size e1)
  have hx1 := Heap.get?_push_of_some (h := s1.heap) { cls := .type "tuple", data := .seq us.toArray } e1
  have hd3 := Obj.data_mapFields e4 (·.setIfInBounds 0 (Value.ref s1.heap.objs.size))
  have own := Heap.get?_update_self (Obj.mapFields (·.setIfInBounds 0 (Value.ref s1.heap.objs.size))) hx1 (Obj.isFreed_of_fields hd3)
  refine PySem.W.base_init F (I2.bk _ _ (I2.mod.kin _ _ lk)) e1 e2 e4 e5 (by rw [← r2.length]; exact hz) ?_
  refine ⟨.non, H1, ?_, rfl, q⟩
  have J := I2.write (x := x) (e := x) (o := xnO x C dx) (t' := s1.toks) (h' := (s1.heap.push { cls := .type "tuple", data := .seq us.toArray }).update x (Obj.mapFields (·.setIfInBounds 0 (Value.ref s1.heap.objs.size)))) (by rw [hx]; exact True.intro) (.inl rfl)
    (fun b u hb eb => (Heap.get?_update_other _ _ (Ne.symm hb)).trans (Heap.get?_push_of_some _ eb)) ⟨_, own⟩ (xn_ok ⟨_, _, s1.heap.objs.size, own, by rw [Obj.cls_mapFields]; exact e2, ?_, hd3, ?_, ?_⟩)
  · rw [upd_self hx] at J
    exact J
  · rw [← e3]
    obtain ⟨oc, od, oda, osl⟩ := o
    dsimp only at e4
    subst e4
    rfl
  · have n0 : 0 < vs.size := (Array.getElem?_eq_some_iff.mp e5).1
    simp [n0]
  · rw [Array.getElem?_setIfInBounds_ne (by decide)]; exact e6


noncomputable def sXfld (K : PySem.W.Frag) (C : Addr) (ta tv : TE) (f : Str) : TS := fun D σ H => tv σ H fun y H1 => ta σ H1 fun v H2 => ∃ x, v = .ref x ∧ H2 x = some (xnO x C none) ∧ PySem.W.takerIn K C f = some none ∧
  ∀ dx, H2 dx = none → dx ≠ x → D.nx σ (upd (upd H2 dx (.xd [(f, y)])) x (xnO x C (some dx)))
theorem ps_xfld {X : Cx} {C : Addr} {o value : Expr} {f : Str} {pos pos' : Pos} {ta tv : TE} (c : PySem.W.XSet X.K C) (ha : PE X o ta) (hv : PE X value tv) (hs : swapsWith value (some (.Attribute o f pos')) pos.line X.env = pure false) : PS X (.Assign [.Attribute o f pos'] value pos) (sXfld X.K C ta tv f) := by
  constructor
  intro pins s σ H D I h
  refine plainObj_wpAny_Assign_Attribute (thn (hv pins s σ H _ I h) fun u s1 ⟨y, H1, I1, ry, q⟩ => thn (ha pins s1 σ H1 _ I1 q) fun ov s2 ⟨x', H2, I2, rx, x, ex, hx, tk, q2⟩ => ?_) hs
  subst ex
  obtain rfl : ov = Value.ref x := rx
  obtain ⟨ob, vs, t0, e1, e2, e3, e4, e5, e6⟩ := xn_get I2.hok hx
  refine PySem.W.xs_store I2.kIn c e1 e2 e3 e4 tk fun h' dx t' hn hns hx' hk => ?_
  have hdx : H2 dx = none := by
    cases z : H2 dx with
    | none => rfl
    | some w =>
      obtain ⟨w', e⟩ := hok_obj I2.hok z
      rw [hn] at e; cases e
  have ne : dx ≠ x := fun z => by rw [z, e1] at hn; cases hn
  refine ⟨σ, _, ?_, q2 dx hdx ne⟩
  have nb : ∀ b w, s2.heap.get? b = some w → b ≠ dx := fun b w e z => by rw [z, hn] at e; cases e
  have nx : ∀ b, H2 b = none → b ≠ x := fun b e z => by rw [z, hx] at e; cases e
  have up : ∀ b, b ≠ x → b ≠ dx → upd (upd H2 dx (.xd [(f, y)])) x (xnO x C (some dx)) b = H2 b := fun b h1 h2 => by rw [upd_ne h1, upd_ne h2]
  have ud : upd (upd H2 dx (.xd [(f, y)])) x (xnO x C (some dx)) dx = some (.xd [(f, y)]) := by rw [upd_ne ne, upd_same]
  have nd : ∀ b w, H2 b = some w → b ≠ dx := fun b w e z => by rw [z, hdx] at e; cases e
  refine I2.un (t' := t') ⟨fun b w e n _ _ => hk b w (nx b n) e, fun b w e n _ _ => ⟨w.slots, hk b w (nx b n) e⟩, fun b w e n _ => by rw [up b (nx b n) (nb b w e)]; exact n, fun b w e _ => ?_, fun b xs e => by
      rw [up b (fun z => by rw [z, hx] at e; cases e) (nd b _ e)]; exact e, fun b w xs e => by
      rw [up b (fun z => by rw [z, hx] at e; cases e) (nd b _ e)]; exact e, fun b ps e => ⟨#[], by rw [up b (fun z => by rw [z, hx] at e; cases e) (nd b _ e), e]; simp⟩⟩ fun b w e => ?_
  · by_cases hb : b = x
    · subst hb; exact ⟨_, hx'⟩
    · exact ⟨w, hk b w hb e⟩
  · by_cases hb : b = x
    · subst hb
      rw [upd_same] at e
      cases e
      exact xn_ok ⟨_, vs, t0, hx', e2, rfl, e4, e5, e6⟩
    · by_cases hd : b = dx
      · subst hd
        rw [ud] at e
        cases e
        refine ⟨_, hns, fun g => ?_⟩
        by_cases hg : g = f
        · subst hg
          simp only [List.lookup, beq_self_eq_true, if_true]
          exact ry
        · have hb2 : (g == f) = false := beq_eq_false_iff_ne.mpr hg
          simp only [List.lookup, hb2, if_neg hg]
          trivial
      · rw [up b hb hd] at e
        refine (I2.hok b w e).stay (fun c w' hc q => hk c w' (fun z => ?_) q) (fun c q => ?_) fun c xs q => ?_
        · rcases hc with z2 | z2
          · exact hb (z2.symm.trans z)
          · rw [z, hx] at z2; cases z2
        · rw [up c (fun z => by rw [z, hx] at q; cases q) (nd c _ q)]; exact q
        · rw [up c (fun z => by rw [z, hx] at q; cases q) (nd c _ q)]; exact q


structure XMkI (K : PySem.W.Frag) (C fI : Addr) : Prop where
  ex : ∃ (B newId initId : String) (nm q : Str) (N : Addr) (bs bm : List Value) (hdct : Bool) (sn : List Str) (sub : List Value) (ab : Bool) (col : Option Bool) (dd : Option Addr) (k0 k1 k2 k3 k5 : Option Value),
    ExcBaseFacts B newId initId bm ∧ K.lookup C = some (excClassObj nm q C N bs bm hdct sn sub ab col dd k0 k1 k2 k3 k5 newId) ∧ nsStr K N = true ∧ PySem.W.nsIn K N "__init__" = some (some (.ref fI))
  fn : PySem.W.isFn K (.ref fI) = true
theorem fn_there {K : PySem.W.Frag} {h : Heap} {f : Addr} (X : K.In h) (e : PySem.W.isFn K (.ref f) = true) : ∃ o, h.get? f = some o ∧ o.cls = .type "function" := by
  obtain ⟨o, z, q⟩ := Option.map_eq_some_iff.mp (beq_iff_eq.mp e)
  exact ⟨o, X _ _ z, q⟩

noncomputable def tRaiseI (C : Addr) (sp : Sp) (E : XK) (t : TA) : TS := fun _ σ H => t σ H fun vs H1 => vs.length ≤ sizeLine ∧ ∀ x, H1 x = none → sp (.ref x :: vs) (upd H1 x (xnO x C none)) (fun v H2 => v = .non ∧ ∃ dx, H2 x = some (xnO x C dx) ∧ E (.ref C) dx (upd H2 x (xcO x C dx))) fun _ _ _ => False
theorem ps_raiseI {X : Cx} {C fI : Addr} {E : XK} {x : Str} {np cpos pos : Pos} {e₀ : Expr} {es : List Expr} {t : TA} {k : Nat} {fd : FuncData} {ps : List Str} {sp : Sp} (c : XMkI X.K C fI) (F : FnOk X.prog X.w X.K X.mg X.base CX0 k fI fd ps sp) (hr : Room (k + 1) X.A) (hg : Gl X x) (hm : X.mg x = some (.ref C)) (hb : Binds X.K fd ps []) (hc : X.calm = true) (O : Outs X E) (ha : PA X (e₀ :: es) t)
    (he : starEach (e₀ :: es) X.env = (false, eval e₀ X.env) :: starEach es X.env := by rfl) (hpl : (backTo cpos (starEach es X.env)).any (·.1) = false := by rfl) (hdb : (x == ("__debug__" : Str)) = false := by decide) :
    PS X (.Raise (some (.Call (.Name x np) (e₀ :: es) [] cpos)) none pos) (tRaiseI C sp E t) := by
  constructor
  intro pins s σ H D I h
  obtain ⟨B, newId, initId, nm, q, N, bs, bm, hdct, sn, sub, ab, col, dd, k0, k1, k2, k3, k5, G, lk, hns, hin⟩ := c.ex
  obtain ⟨mN, hN, hm2⟩ := ns_of I.mod.kin hns
  have hpl2 : (backTo cpos (starEach (e₀ :: es) X.env)).any (·.1) = false := by rw [he]; show (false || (backTo cpos (starEach es X.env)).any (·.1)) = false; rw [hpl]; rfl
  have ha2 := ha.run cpos pins s σ H _ I h
  rw [arm_exec_Raise]
  refine wpAny_bind (wpAny_standAt (PySem.raise_obj (C := C) (nm := nm) (q := q) (N := N) (bs := bs) (bm := bm) (hdct := hdct) (sn := sn) (sub := sub) (ab := ab) (col := col) (dd := dd) (k0 := k0) (k1 := k1) (k2 := k2) (k3 := k3) (k5 := k5) (newId := newId) G.hasBase (I.ok.hd hc)
    (wpAny_bind (wpAny_mono (wpAny_Call_ofName (ld_glob I hg hm ?_ hdb)) (fun v s3 h3 => wpAny_bind (wpAny_standAt (wpAny_pure h3))) fun _ _ x => x))))
  unfold callWith
  have ha3 : wpAny (model X.prog X.w) X.A (evalArgs (.ref C) true (backTo cpos (starEach (e₀ :: es) X.env)) []) (fun a s1 => a.kw = [] ∧ AP X pins σ (fun vs H1 => vs.length ≤ sizeLine ∧ ∀ x, H1 x = none → sp (.ref x :: vs) (upd H1 x (xnO x C none)) (fun v H2 => v = .non ∧ ∃ dx, H2 x = some (xnO x C dx) ∧ E (.ref C) dx (upd H2 x (xcO x C dx))) fun _ _ _ => False) a.pos s1) X.xe s := by
    rw [he] at ha2 ⊢
    exact Calls.evalArgs_plain (wpAny_mono ha2 (fun us s1 z => ⟨rfl, z⟩) fun _ _ y => y)
  refine wpAny_bind (wpAny_holding (wpAny_mono ha3 (fun a s1 h1 => wpAny_bind (wpAny_standAt ?_)) fun _ _ x => x))
  obtain ⟨us, akw⟩ := a
  obtain ⟨hkw, vs, H1, I1, r, hlen, q1⟩ := h1
  obtain rfl : akw = [] := hkw
  have hC := I1.bk _ _ (I.mod.kin _ _ lk)
  have hN1 := hN.keeps I1.bk
  obtain ⟨oI, hoI, hcI⟩ := fn_there I1.kIn c.fn
  obtain ⟨hp, g, d, tk, os⟩ := s1
  simp only [hpl2]
  refine wpAny_bind (wpAny_keeperOf_exc hC ?_)
  refine wpAny_bind (wpAny_call_exc_init (hrest := by show us.length ≤ sizeLine; rw [← r.length]; exact hlen) G hC hN1 (hm2 _ _ hin) hoI hcI fun h' y mk => ?_)
  obtain ⟨t0, e1, e2, e3⟩ := mk.there
  have ob : XnOb y C none h' := ⟨_, _, t0, e1, rfl, rfl, rfl, rfl, rfl⟩
  obtain ⟨hy, I2⟩ := xc_laid (o := xnO y C none) I1 mk.keeps mk.new (xn_ok ob)
  have r2 : Vals (V.ref y :: vs) (Value.ref y :: us) := .cons rfl r
  have q2 := q1 y hy
  have hl : (Value.ref y :: us ++ []).length = ps.length := by
    rw [List.append_nil, ← r2.length]
    exact F.len _ _ _ _ q2
  have hb2 := hb _ (Value.ref y :: us) I2.kIn hl
  rw [List.append_nil] at hb2
  refine wpAny_call (codeAny_mono (F.run _ X.stack _ _ ⟨Value.ref y :: us, []⟩ (Value.ref y :: us) _ _ _ (hr.make C us []) (I2.env0.make C us []) hb2 r2 q2) fun rr s' hq => ?_)
  cases rr with
  | error e => exact hq.elim
  | ok fl =>
    cases fl with
    | ret u =>
      obtain ⟨v, H', I3, rv, ev, dx, hx, q3⟩ := I2.after hq
      subst ev
      refine ⟨rv, wpAny_bind (wpAny_holding (wpAny_point (wpAny_pure ?_)))⟩
      have b := xn_get I3.hok hx
      obtain ⟨o, ws, t1, f1, f2, f3, f4, f5, f6⟩ := id b
      have J := I3.write (x := y) (e := y) (o := xcO y C dx) (t' := s'.toks) (h' := s'.heap) (by rw [hx]; exact True.intro) (.inl rfl) (fun _ _ _ z => z) ⟨_, f1⟩ (xc_ok b.xc)
      obtain ⟨oc, od, oda, osl⟩ := o
      dsimp only at f2 f3 f4
      subst f2 f4
      exact ⟨y, od, ws, osl, rfl, I3.bk _ _ (I.mod.kin _ _ lk), f1, f6, O pins σ _ y C dx _ ⟨J, upd_same, .inl b.nw⟩ q3⟩
    | next => exact hq.elim
    | brk => exact hq.elim
    | cont => exact hq.elim
end L2
namespace L2
open PySem PySem.Spec PyProof.Rows
theorem xset_of {K : PySem.W.Frag} {C N : Addr} {nm q : Str} {bs bm : List Value} {hdct : Bool} {sn : List Str} {sub : List Value} {ab : Bool} {col : Option Bool} {dd : Option Addr} {k0 k1 k2 k3 k5 : Option Value} {B newId : String} (sa : PySem.W.findIn K (.ref C) "__setattr__" = some (some (.builtin "object.__setattr__"))) (hd : PySem.W.hasDictIn K C = true)
    (lk : K.lookup C = some (excClassObj nm q C N bs bm hdct sn sub ab col dd k0 k1 k2 k3 k5 newId)) (SF : StoreFacts B bm "object.__setattr__" "object") : PySem.W.XSet K C :=
  ⟨sa, hd, _, B, bm, by unfold PySem.W.clsIn; rw [lk], rfl, SF⟩
end L2
namespace My
open PySem PySem.Spec PyProof.Rows L2
structure XIDef (K : PySem.W.Frag) (C : Addr) (qual : Str) (st : Stmt) (fa : Addr) (fd : FuncData) : Prop where
  mkI : XMkI K C fa
  fn : Fun K "__init__" qual st fa fd
end My

set_option Elab.async false
set_option linter.all false
set_option maxRecDepth 100000

namespace PySem.W
open PySem PySem.Spec PySem.Calls PyProof.Rows
section
variable {prog : Program} {w : World} {A : Around} {E : Value → Shared → Prop} {s : Shared} {K : Frag} {x C f : Addr} {ox : Obj} {od : Option Obj} {b tv : Value}
theorem rich_own {Q : Value → Shared → Prop} (X : K.In s.heap) (I : InstAt s.heap x ox C od) (hs : findIn K (.ref C) "__eq__" = some (some (.ref f))) (hf : isFn K (.ref f) = true) (tb : Looks (model prog w) s.heap (typeOf b) tv)
    (hr : tv = .ref C ∨ tv ≠ .ref C ∧ Looks (model prog w) s.heap (isSubtype tv (.ref C)) false) (hu : A.units < cLine) (h : wpAny (model prog w) A (call (.ref f) [.ref x, b]) (fun v s' => ∃ r, v = .bool r ∧ Q (.bool r) s') E s) :
    wpAny (model prog w) A (richCompare .Eq (.ref x) b) Q E s := by
  have L0 := I.type (M := model prog w)
  obtain ⟨hh, g, d, t, os⟩ := s
  unfold richCompare
  refine wpAny_holding (wpAny_bind (wpAny_cRoomFor hu ?_))
  simp only [oneThing_ref]
  refine wpAny_bind (L0.at (wpAny_bind (tb.at ?_)))
  have go : wpAny (model prog w) A (tryCompare (.ref x) "__eq__" b) (fun v s' => ∃ r, v = some (.bool r) ∧ Q (.bool r) s') E ⟨hh, g, d, t, os⟩ := by
    unfold tryCompare
    refine wpAny_bind (ifBound_K X I hs hf (wpAny_mono h (fun v s' z => ?_) fun _ _ z => z))
    obtain ⟨r, rfl, q⟩ := z
    exact wpAny_pure ⟨r, rfl, q⟩
  have go2 : wpAny (model prog w) A (tryCompare (.ref x) (cmpInfo .Eq).2.1 b) (fun v s' => ∃ r, v = some (.bool r) ∧ Q (.bool r) s') E ⟨hh, g, d, t, os⟩ := go
  rcases hr with rfl | ⟨ne, L⟩
  · rw [if_neg (by simp)]
    refine wpAny_bind (wpAny_pure ?_)
    simp only [Bool.false_eq_true, if_false]
    refine wpAny_bind (wpAny_mono go2 (fun v s' z => ?_) fun _ _ z => z)
    obtain ⟨r, rfl, q⟩ := z
    exact wpAny_pure q
  · rw [if_pos (by simpa using fun z => ne z.symm)]
    refine wpAny_bind (L.at ?_)
    simp only [Bool.false_eq_true, if_false]
    refine wpAny_bind (wpAny_mono go2 (fun v s' z => ?_) fun _ _ z => z)
    obtain ⟨r, rfl, q⟩ := z
    exact wpAny_pure q
end
end PySem.W
namespace L2
open PySem PySem.Spec PyProof.Rows
section
variable {X : Cx} {CX : CXT} {k : Nat} {f C : Addr} {fd : FuncData} {ps : List Str} {sp : Sp} {E : XK}

noncomputable def rEqOwn (C : Addr) (sp : Sp) (E : XK) : R2 := fun x y H Q => ∃ a da fa b db fb, x = .ref a ∧ H a = some (.ins C da fa) ∧ y = .ref b ∧ H b = some (.ins C db fb) ∧ sp [x, y] H (fun v H' => ∃ r, v = .bl r ∧ Q (.bl r) H') E
theorem op_eqOwn (hm : Meth X.K C "__eq__" f) (F : FnOk X.prog X.w X.K X.mg X.base CX k f fd ps sp) (hr : Room k X.A) (hb : Binds X.K fd ps []) (hu : X.A.units + 64 < cLine) (hx : Passes CX X E) : OpR X (compareOp .Eq) (rEqOwn C sp E) := by
  constructor
  intro pins s σ H x y v u Q I rx ry h
  obtain ⟨a, da, fa, b, db, fb, rfl, ha, rfl, hb2, q⟩ := h
  obtain rfl : v = Value.ref a := rx
  obtain rfl : u = Value.ref b := ry
  obtain ⟨mA, O, _, _, _, _⟩ := ins_get I.hok ha
  obtain ⟨od, J, _⟩ := O.look
  obtain ⟨mB, O2, _, _, _, _⟩ := ins_get I.hok hb2
  obtain ⟨od2, J2, _⟩ := O2.look
  refine PySem.W.rich_own I.kIn J hm.at_ hm.fn J2.type (.inl rfl) (by omega) ?_
  refine wpAny_mono (run_fn (ds := []) (dvs := []) F hr hb .nil hx I (.cons (show RelV (.ref a) (Value.ref a) from rfl) (.cons (show RelV (.ref b) (Value.ref b) from rfl) .nil)) q) (fun v' s' z => ?_) fun _ _ z => z
  obtain ⟨v1, H', I', rv, r, rfl, q'⟩ := z
  cases rv
  exact ⟨r, rfl, .bl r, H', I', rfl, q'⟩

end
end L2
namespace L2
open PySem PySem.Spec PyProof.Rows

structure OCls (K : PySem.W.Frag) (C : Addr) : Prop where
  cl : Cls K C
  ca : PySem.W.findIn K (.ref C) "__class__" = some (some (.builtin "object.__class__"))
  mo : PySem.W.mroIn K C (.type "object") = some true
  ty : PySem.W.typeIn K (.ref C) = some (.type "type")
theorem kit_no {K : PySem.W.Frag} {D : Addr} (c : OCls K D) {T : String} (h : ∃ l : List String, fastBuiltinMro T = some (l.map Value.type)) : PySem.W.kitOne K (.type T) (.ref D) = some false := by
  obtain ⟨l, e⟩ := h
  obtain ⟨cd, hc, _⟩ := PySem.W.any_some c.cl.hd
  unfold PySem.W.kitOne PySem.W.kitCls
  rw [if_neg (by simp)]
  dsimp only
  rw [hc, c.ty, if_pos (by simp)]
  show (fastBuiltinMro T).map (·.contains (Value.ref D)) = some false
  rw [e]
  have : (l.map Value.type).contains (.ref D) = false := by simp
  show some ((l.map Value.type).contains (.ref D)) = some false
  rw [this]
theorem mro_list : fastBuiltinMro "list" = some (["list", "object"].map Value.type) := by kernel_rfl
theorem mro_tuple : fastBuiltinMro "tuple" = some (["tuple", "object"].map Value.type) := by kernel_rfl
theorem mro_int : fastBuiltinMro "int" = some (["int", "object"].map Value.type) := by kernel_rfl
theorem mro_bool : fastBuiltinMro "bool" = some (["bool", "int", "object"].map Value.type) := by kernel_rfl
theorem mro_str : fastBuiltinMro "str" = some (["str", "object"].map Value.type) := by kernel_rfl
theorem mro_none : fastBuiltinMro "NoneType" = some (["NoneType", "object"].map Value.type) := by kernel_rfl
theorem tyd_mro {H : Hp} {v : V} (h : My.Tyd H v) : ∃ l : List String, fastBuiltinMro (My.tyN H v) = some (l.map Value.type) := by
  cases v with
  | non => exact ⟨_, mro_none⟩
  | bl b => exact ⟨_, mro_bool⟩
  | int i => exact ⟨_, mro_int⟩
  | str x => exact ⟨_, mro_str⟩
  | ref a =>
    rcases h with ⟨xs, e⟩ | ⟨xs, e⟩
    · exact ⟨_, by show fastBuiltinMro (match H a with | some (.lst _) => "list" | _ => "tuple") = _; rw [e]; exact mro_list⟩
    · exact ⟨_, by show fastBuiltinMro (match H a with | some (.lst _) => "list" | _ => "tuple") = _; rw [e]; exact mro_tuple⟩
  | _ => exact h.elim

noncomputable def rIsO (K : PySem.W.Frag) : List V → Hp → VK → Prop := fun vs H Q => ∃ x D, vs = [x, .ref D] ∧ OCls K D ∧ ((∃ a dx fs, x = .ref a ∧ H a = some (.ins D dx fs) ∧ Q (.bl true) H) ∨ (My.Tyd H x ∧ Q (.bl false) H))
theorem call_isO {X : Cx} {K : PySem.W.Frag} (hK : X.K = K := by rfl) : CallR X (.builtin "isinstance") (rIsO K) := by
  subst hK
  constructor
  intro pins s σ H xs us Q I r h
  obtain ⟨x, D, rfl, oc, h⟩ := h
  cases r with
  | cons r1 rr =>
    cases rr with
    | cons r2 rr =>
      cases rr
      cases r2
      rcases h with ⟨a, dx, fs, rfl, ha, q⟩ | ⟨ty, q⟩
      · have e : PySem.W.kitOne X.K (.ref D) (.ref D) = some true := by unfold PySem.W.kitOne; rw [if_pos (by simp)]
        exact isinst_ok I r1 (.ins ha oc.cl oc.ca (obj_class_get _) (obj_class_takes _) oc.mo) e fun tk => ⟨.bl true, H, I.tok tk, rfl, q⟩
      · exact isinst_ok I r1 ty.ty (kit_no oc (tyd_mro ty)) fun tk => ⟨.bl false, H, I.tok tk, rfl, q⟩
end L2

set_option Elab.async false
set_option linter.all false
set_option maxRecDepth 100000

namespace L2
open PySem PySem.Spec PyProof.Rows
section
variable {X : Cx}

end
end L2

set_option Elab.async false
set_option linter.all false
set_option maxRecDepth 100000

namespace My
open PySem PySem.Spec PyProof.Rows L2

noncomputable def sp_exc_init (C : Addr) (f : Str) : Sp := fun vs H Q _ => ∃ (x : Addr) (w : Str), vs = [.ref x, .str w] ∧ H x = some (xnO x C none) ∧ w.length ≤ 50 ∧ ∀ dx, H dx = none → dx ≠ x → Q .non (upd (upd H dx (.xd [(f, .str w)])) x (xnO x C (some dx)))

noncomputable def Raised (H : Hp) (C : Addr) (f w : Str) (E : XK) : Prop := ∀ H' dx, Same H H' → H' dx = some (.xd [(f, .str w)]) → E (.ref C) (some dx) H'
theorem raised_by {H H1 : Hp} {C x : Addr} {f w : Str} {E : XK} (h : Raised H C f w E) (s : Same H H1) (hx : H1 x = none) (l : w.length ≤ 50) :
    sp_exc_init C f [.ref x, .str w] (upd H1 x (xnO x C none)) (fun v H2 => v = .non ∧ ∃ dx, H2 x = some (xnO x C dx) ∧ E (.ref C) dx (upd H2 x (xcO x C dx))) fun _ _ _ => False := by
  refine ⟨x, w, rfl, upd_same, l, fun dx hd ne => ⟨rfl, some dx, upd_same, h _ dx (fun b o e => ?_) ?_⟩⟩
  · have nb : b ≠ x := fun z => by rw [z] at e; have := s _ _ e; rw [hx] at this; cases this
    have e1 : upd H1 x (xnO x C none) b = some o := by rw [upd_ne nb]; exact s _ _ e
    have nd : b ≠ dx := fun z => by rw [z, hd] at e1; cases e1
    rw [upd_ne nb, upd_ne nb, upd_ne nd]
    exact e1
  · rw [upd_ne ne, upd_ne ne, upd_same]

noncomputable def optS : Option Str → V
  | some w => .str w
  | none => .non

end My
namespace My
open PySem PySem.Spec PyProof.Rows L2
end My
namespace My
open PySem PySem.Spec PyProof.Rows L2
end My

set_option Elab.async false
set_option linter.all false
set_option maxRecDepth 100000

namespace PySem.W
open PySem PySem.Spec PySem.Calls PyProof.Rows
theorem only_no {T : String} (hT : (T == "object") = false) : ∀ {l : List Value}, onlyObject l = true → l.contains (.type T) = false
  | [.type n], e => by
    rw [show n = "object" from beq_iff_eq.mp e]
    have : T ≠ "object" := beq_eq_false_iff_ne.mp hT
    simp [this]
  | .ref c :: r, e => by
    rw [List.contains_cons, only_no hT (l := r) (by cases r <;> first | exact e | cases e)]
    simp
theorem mro_no {K : Frag} {C : Addr} {T : String} (po : plainOver K C = true) (hT : (T == "object") = false) : mroIn K C (.type T) = some false := by
  obtain ⟨cd, hc, ho⟩ := any_some po
  have ne : cd.mro.isEmpty = false := by cases q : cd.mro with | nil => rw [q] at ho; cases ho | cons _ _ => rfl
  unfold mroIn
  rw [hc, Option.bind_some, if_neg (by rw [ne]; decide), only_no hT ho]
section
variable {prog : Program} {w : World} {A : Around} {E : Value → Shared → Prop} {s : Shared} {K : Frag} {x C f : Addr} {ox : Obj} {od : Option Obj} {a : Value} {T : String}
theorem ni_tuple {M : Model} {Q : Fin → Shared → Prop} (L : Looks M s.heap (isInstance (.ref x) (.type "tuple")) false) (h : Q (.done (.ret .notImplemented)) s) : wpAny M A (Builtin.«tuple.__eq__» ⟨[a, .ref x], []⟩) Q E s := by
  show wpAny _ _ (isInstance (.ref x) (.type "tuple") >>= fun r => _) _ _ s
  exact wpAny_bind (L.here (wpAny_pure h))
theorem ni_list {M : Model} {Q : Fin → Shared → Prop} (L : Looks M s.heap (isInstance (.ref x) (.type "list")) false) (h : Q (.done (.ret .notImplemented)) s) : wpAny M A (Builtin.«list.__eq__» ⟨[a, .ref x], []⟩) Q E s := by
  show wpAny _ _ (isInstance (.ref x) (.type "list") >>= fun r => _) _ _ s
  exact wpAny_bind (L.here (wpAny_pure h))
theorem rich_ref {Q : Value → Shared → Prop} (X : K.In s.heap) (I : InstAt s.heap x ox C od) (hs : findIn K (.ref C) "__eq__" = some (some (.ref f))) (hf : isFn K (.ref f) = true) (po : plainOver K C = true) (hT : (T == "object") = false) (ta : Looks (model prog w) s.heap (typeOf a) (.type T)) (no : oneThing? .Eq a (.ref x) = none) (hu : A.units < cLine)
    (ht : ∀ Q : Option Value → Shared → Prop, Q none s → wpAny (model prog w) A (tryCompare a (cmpInfo .Eq).2.1 (.ref x)) Q E s) (h : wpAny (model prog w) A (call (.ref f) [.ref x, a]) (fun v s' => ∃ r, v = .bool r ∧ Q (.bool r) s') E s) : wpAny (model prog w) A (richCompare .Eq a (.ref x)) Q E s := by
  have L0 := I.type (M := model prog w)
  have sub : Looks (model prog w) s.heap (isSubtype (.ref C) (.type T)) false := looks_subIn X (by show mroIn K C (.type T) = some false; exact mro_no po hT)
  obtain ⟨hh, g, d, t, os⟩ := s
  unfold richCompare
  refine wpAny_holding (wpAny_bind (wpAny_cRoomFor hu ?_))
  simp only [no]
  refine wpAny_bind (ta.at (wpAny_bind (L0.at ?_)))
  rw [if_pos (by simp)]
  refine wpAny_bind (sub.at ?_)
  simp only [Bool.false_eq_true, if_false]
  refine wpAny_bind (ht _ ?_)
  have go : wpAny (model prog w) A (tryCompare (.ref x) (cmpInfo .Eq).2.2 a) (fun v s' => ∃ r, v = some (.bool r) ∧ Q (.bool r) s') E ⟨hh, g, d, t, os⟩ := by
    show wpAny (model prog w) A (tryCompare (.ref x) "__eq__" a) _ E _
    unfold tryCompare
    refine wpAny_bind (ifBound_K X I hs hf (wpAny_mono h (fun v s' z => ?_) fun _ _ z => z))
    obtain ⟨r, rfl, q⟩ := z
    exact wpAny_pure ⟨r, rfl, q⟩
  simp only [Bool.not_false, if_true]
  refine wpAny_bind (wpAny_mono go (fun v s' z => ?_) fun _ _ z => z)
  obtain ⟨r, rfl, q⟩ := z
  exact wpAny_pure q
theorem meets_str (z : Str) (t : Tok) (x C : Addr) (dx : Option Addr) (sl : Array (Option Value)) : PySem.Meets (Builtin.«str.__eq__» ⟨[.str z t, .ref x], []⟩) (fun _ R s => s.heap.get? x = some ⟨.ref C, dx, .plain, sl⟩ ∧ R (.ok (.ret Value.notImplemented)) s) :=
  .of_wp fun prog w A R s h => by obtain ⟨hp, g, d, tk, os⟩ := s; obtain ⟨hl, h⟩ := h; wp_walk; exact ⟨_, rfl, h⟩
theorem meets_int (i : Int) (t : Tok) (x C : Addr) (dx : Option Addr) (sl : Array (Option Value)) : PySem.Meets (Builtin.«int.__eq__» ⟨[.int i t, .ref x], []⟩) (fun _ R s => s.heap.get? x = some ⟨.ref C, dx, .plain, sl⟩ ∧ R (.ok (.ret Value.notImplemented)) s) :=
  .of_wp fun prog w A R s h => by obtain ⟨hp, g, d, tk, os⟩ := s; obtain ⟨hl, h⟩ := h; wp_walk; exact ⟨_, rfl, h⟩
theorem meets_none (x C : Addr) (dx : Option Addr) (sl : Array (Option Value)) : PySem.Meets (Builtin.«NoneType.__eq__» ⟨[.none, .ref x], []⟩) (fun _ R s => s.heap.get? x = some ⟨.ref C, dx, .plain, sl⟩ ∧ R (.ok (.ret Value.notImplemented)) s) :=
  .of_wp fun prog w A R s h => by obtain ⟨hp, g, d, tk, os⟩ := s; obtain ⟨hl, h⟩ := h; wp_walk; exact ⟨_, rfl, h⟩
theorem try_ni {id : String} (hT : s.TypeIs a T) (slot : Slot T (cmpInfo .Eq).2.1 id) (hc : ∀ Q : Value → Shared → Prop, Q .notImplemented s → wpAny (model prog w) A (call (.builtin id) [a, .ref x]) Q E s) :
    ∀ Q : Option Value → Shared → Prop, Q none s → wpAny (model prog w) A (tryCompare a (cmpInfo .Eq).2.1 (.ref x)) Q E s := fun Q q => by
  unfold tryCompare
  exact wpAny_bind (wpAny_callSpecialIfBound?_slot hT slot (hc _ (wpAny_pure q)))
end
end PySem.W
namespace L2
open PySem PySem.Spec PyProof.Rows
section
variable {X : Cx} {CX : CXT} {k : Nat} {f C : Addr} {fd : FuncData} {ps : List Str} {sp : Sp} {E : XK}

noncomputable def rEqRef (C : Addr) (sp : Sp) (E : XK) : R2 := fun x y H Q =>
  (∃ a da fa, x = .ref a ∧ H a = some (.ins C da fa) ∧ (My.Tyd H y ∨ ∃ b db fb, y = .ref b ∧ H b = some (.ins C db fb)) ∧ sp [x, y] H (fun v H' => ∃ r, v = .bl r ∧ Q (.bl r) H') E) ∨
  (∃ b db fb, y = .ref b ∧ H b = some (.ins C db fb) ∧ My.Tyd H x ∧ (∀ q, x ≠ .bl q) ∧ sp [y, x] H (fun v H' => ∃ r, v = .bl r ∧ Q (.bl r) H') E)
theorem looks_tyd {pins : List (Addr × Obj)} {s : Shared} {σ : St} {H : Hp} {y : V} {u : Value} {M : Model} (I : Inv X pins σ H s) (ty : My.Tyd H y) (r : RelV y u) : PySem.W.Looks M s.heap (typeOf u) (.type (My.tyN H y)) := by
  cases y with
  | non => cases (show u = Value.none from r); exact .of_pure rfl
  | bl b => cases (show u = Value.bool b from r); exact .of_pure rfl
  | int i => obtain ⟨t, rfl⟩ := r; exact .of_pure rfl
  | str z => obtain ⟨t, rfl⟩ := r; exact .of_pure rfl
  | ref a =>
    obtain rfl : u = Value.ref a := r
    rcases ty with ⟨xs, e⟩ | ⟨xs, e⟩
    · have z : My.tyN H (.ref a) = "list" := by show (match H a with | some (.lst _) => "list" | _ => "tuple") = _; rw [e]
      obtain ⟨its, _, ⟨o, n, ho, hc, _⟩, _⟩ := I.list (SqL.of e)
      rw [z, ← hc]
      exact (PySem.W.Looks.ld ho).andThen .now
    · have z : My.tyN H (.ref a) = "tuple" := by show (match H a with | some (.lst _) => "list" | _ => "tuple") = _; rw [e]
      obtain ⟨its, _, ⟨o, ho, hc, _⟩, _⟩ := I.tuple (SqT.of e)
      rw [z, ← hc]
      exact (PySem.W.Looks.ld ho).andThen .now
  | _ => exact ty.elim
theorem op_eqRef (hm : Meth X.K C "__eq__" f) (cl : Cls X.K C) (F : FnOk X.prog X.w X.K X.mg X.base CX k f fd ps sp) (hr : Room k X.A) (hb : Binds X.K fd ps []) (hu : X.A.units + 64 < cLine) (hx : Passes CX X E) : OpR X (compareOp .Eq) (rEqRef C sp E) := by
  constructor
  intro pins s σ H x y v u Q I rx ry h
  rcases h with ⟨a, da, fa, rfl, ha, hy, q⟩ | ⟨b, db, fb, rfl, hb2, ty, nb, q⟩
  · obtain rfl : v = Value.ref a := rx
    obtain ⟨mA, O, _, _, _, _⟩ := ins_get I.hok ha
    obtain ⟨od, J, _⟩ := O.look
    have fin : wpAny (model X.prog X.w) X.A (call (.ref f) [.ref a, u]) (fun v s' => ∃ r, v = .bool r ∧ EP X pins σ Q (.bool r) s') X.xe s := by
      refine wpAny_mono (run_fn (ds := []) (dvs := []) F hr hb .nil hx I (.cons (show RelV (.ref a) (Value.ref a) from rfl) (.cons ry .nil)) q) (fun v' s' z => ?_) fun _ _ z => z
      obtain ⟨v1, H', I', rv, r, rfl, q'⟩ := z
      cases rv
      exact ⟨r, rfl, .bl r, H', I', rfl, q'⟩
    rcases hy with ty | ⟨b, db, fb, rfl, hb2⟩
    · have sub : PySem.W.Looks (model X.prog X.w) s.heap (isSubtype (.type (My.tyN H y)) (.ref C)) false := by
        obtain ⟨l, e⟩ := tyd_mro ty
        refine PySem.W.looks_subIn I.kIn ?_
        show (fastBuiltinMro (My.tyN H y)).map (·.contains (Value.ref C)) = some false
        rw [e]
        show some ((l.map Value.type).contains (.ref C)) = some false
        have : (l.map Value.type).contains (.ref C) = false := by simp
        rw [this]
      exact PySem.W.rich_own I.kIn J hm.at_ hm.fn (looks_tyd I ty ry) (.inr ⟨by simp, sub⟩) (by omega) fin
    · obtain rfl : u = Value.ref b := ry
      obtain ⟨mB, O2, _, _, _, _⟩ := ins_get I.hok hb2
      obtain ⟨od2, J2, _⟩ := O2.look
      exact PySem.W.rich_own I.kIn J hm.at_ hm.fn J2.type (.inl rfl) (by omega) fin
  · obtain rfl : u = Value.ref b := ry
    obtain ⟨mA, O, _, _, _, _⟩ := ins_get I.hok hb2
    obtain ⟨od, J, _⟩ := O.look
    have hob : s.heap.get? b = some ⟨.ref C, some db, .plain, #[]⟩ := O.obj
    have fin : wpAny (model X.prog X.w) X.A (call (.ref f) [.ref b, v]) (fun v s' => ∃ r, v = .bool r ∧ EP X pins σ Q (.bool r) s') X.xe s := by
      refine wpAny_mono (run_fn (ds := []) (dvs := []) F hr hb .nil hx I (.cons (show RelV (.ref b) (Value.ref b) from rfl) (.cons rx .nil)) q) (fun v' s' z => ?_) fun _ _ z => z
      obtain ⟨v1, H', I', rv, r, rfl, q'⟩ := z
      cases rv
      exact ⟨r, rfl, .bl r, H', I', rfl, q'⟩
    have L := looks_tyd (M := model X.prog X.w) I ty rx
    cases x with
    | non =>
      cases (show v = Value.none from rx)
      refine PySem.W.rich_ref I.kIn J hm.at_ hm.fn cl.po (T := "NoneType") (by decide) L rfl (by omega) (PySem.W.try_ni (T := "NoneType") ?_ PySem.F.slot_NoneType_eq fun Q q => call_meets PySem.F.slot_NoneType_eq ?_ PySem.F.entry_NoneType_eq (PySem.F.args_NoneType_eq_2 _ _) (PySem.W.meets_none b C (some db) #[]) ⟨hob, q⟩) fin
      · exact typeIs_none s
      · exact typeIs_none s
    | int i =>
      obtain ⟨t, rfl⟩ := rx
      exact PySem.W.rich_ref I.kIn J hm.at_ hm.fn cl.po (T := "int") (by decide) L rfl (by omega) (PySem.W.try_ni (T := "int") (typeIs_int s i t) PySem.F.slot_int_eq fun Q q => call_meets PySem.F.slot_int_eq (typeIs_int s i t) PySem.F.entry_int_eq (PySem.F.args_int_eq_2 _ _) (PySem.W.meets_int i t b C (some db) #[]) ⟨hob, q⟩) fin
    | str z =>
      obtain ⟨t, rfl⟩ := rx
      exact PySem.W.rich_ref I.kIn J hm.at_ hm.fn cl.po (T := "str") (by decide) L rfl (by omega) (PySem.W.try_ni (T := "str") (typeIs_str s z t) PySem.F.slot_str_eq fun Q q => call_meets PySem.F.slot_str_eq (typeIs_str s z t) PySem.F.entry_str_eq (PySem.F.args_str_eq_2 _ _) (PySem.W.meets_str z t b C (some db) #[]) ⟨hob, q⟩) fin
    | ref c =>
      obtain rfl : v = Value.ref c := rx
      have isI : ∀ {T : String}, (T == "object") = false → PySem.W.Looks (model X.prog X.w) s.heap (isInstance (.ref b) (.type T)) false := fun hT => J.type.andThen (PySem.W.looks_mroIn I.kIn (PySem.W.mro_no cl.po hT))
      rcases ty with ⟨xs, e⟩ | ⟨xs, e⟩
      · have z : My.tyN H (.ref c) = "list" := by show (match H c with | some (.lst _) => "list" | _ => "tuple") = _; rw [e]
        rw [z] at L
        obtain ⟨its, r, ⟨o, n, ho, hc, hdn, hd⟩, _⟩ := I.list (SqL.of e)
        have hT : s.TypeIs (.ref c) "list" := ⟨_, ho, hc⟩
        exact PySem.W.rich_ref I.kIn J hm.at_ hm.fn cl.po (T := "list") (by decide) L rfl (by omega) (PySem.W.try_ni (T := "list") hT PySem.F.slot_list_eq fun Q q => wpAny_call_entry PySem.F.slot_list_eq hT PySem.F.entry_list_eq (PySem.W.ni_list (isI (by decide)) ⟨_, rfl, q⟩) (PySem.F.args_list_eq_2 _ _)) fin
      · have z : My.tyN H (.ref c) = "tuple" := by show (match H c with | some (.lst _) => "list" | _ => "tuple") = _; rw [e]
        rw [z] at L
        obtain ⟨its, r, p, _⟩ := I.tuple (SqT.of e)
        exact PySem.W.rich_ref I.kIn J hm.at_ hm.fn cl.po (T := "tuple") (by decide) L rfl (by omega) (PySem.W.try_ni (T := "tuple") p.typeIs PySem.F.slot_tuple_eq fun Q q => wpAny_call_entry PySem.F.slot_tuple_eq p.typeIs PySem.F.entry_tuple_eq (PySem.W.ni_tuple (isI (by decide)) ⟨_, rfl, q⟩) (PySem.F.args_tuple_eq_2 _ _)) fin
    | bl qq => exact absurd rfl (nb qq)
    | _ => exact ty.elim
end
end L2
namespace PySem.W
open PySem PySem.Spec PySem.Calls PyProof.Rows
section
variable {prog : Program} {w : World} {A : Around} {E : Value → Shared → Prop} {s : Shared} {K : Frag} {x y C f : Addr} {ox oy : Obj} {od oe : Option Obj}

theorem rich_ne {Q : Value → Shared → Prop} (X : K.In s.heap) (I : InstAt s.heap x ox C od) (J : InstAt s.heap y oy C oe) (hs : findIn K (.ref C) "__eq__" = some (some (.ref f))) (hf : isFn K (.ref f) = true) (hn : findIn K (.ref C) "__ne__" = some (some (.builtin "object.__ne__"))) (hm : mroIn K C (.type "object") = some true)
    (hu : A.units + 1 < cLine) (h : wpAny (model prog w) A.in1 (call (.ref f) [.ref x, .ref y]) (fun v s' => ∃ r, v = .bool r ∧ Q (.bool (!r)) s') E s) : wpAny (model prog w) A (richCompare .NotEq (.ref x) (.ref y)) Q E s := by
  have L0 := I.type (M := model prog w)
  have L1 := J.type (M := model prog w)
  obtain ⟨hh, g, d, t, os⟩ := s
  have go : wpAny (model prog w) A (tryCompare (.ref x) "__ne__" (.ref y)) (fun v s' => ∃ r, v = some (.bool r) ∧ Q (.bool r) s') E ⟨hh, g, d, t, os⟩ := by
    unfold tryCompare
    refine wpAny_bind ?_
    have call1 : wpAny (model prog w) A (call (.builtin "object.__ne__") ([.ref x] ++ [.ref y])) (fun v s' => ∃ r, v = .bool r ∧ Q (.bool r) s') E ⟨hh, g, d, t, os⟩ := by
      refine wpAny_call (codeAny_call_builtin PySem.F.cmp_object.ne.plain PySem.F.cmpEntry_ne (@check_slot (model prog w) _ _ ⟨hh, g, d, t, os⟩ "object.__ne__" "object" "__ne__" (.ref x) [.ref y] [] _ PySem.F.cmpKind_ne PySem.F.cmpSplit_ne (I.type.andThen (looks_mroIn X hm)) (PySem.F.cmpArgs_ne _ _) ?_))
      unfold Builtin.«object.__ne__»
      refine wpAny_bind (wpAny_pure (wpAny_bind (wpAny_cRoomFor (by show A.units + 1 < cLine; exact hu) ?_)))
      refine wpAny_bind (ifBound_K X I hs hf (wpAny_mono h (fun v s' z => ?_) fun _ _ z => z))
      obtain ⟨r, rfl, q⟩ := z
      refine wpAny_bind (wpAny_truthy_bool ?_)
      exact wpAny_pure ⟨_, rfl, q⟩
    simp only [callSpecialIfBound?, bindSpecialIfBound?]
    refine wpAny_holding (wpAny_bind (wpAny_bind (wpAny_bind (L0.at ((looks_findIn X hn).at ?_)))))
    have fin : wpAny (model prog w) A (call (.builtin "object.__ne__") ([.ref x] ++ [.ref y]) >>= fun v => pure (some v)) (fun v s' => wpAny (model prog w) A (match v with | some .notImplemented => pure none | none => pure none | some v => pure (some v)) (fun v s' => ∃ r, v = some (.bool r) ∧ Q (.bool r) s') E s') E ⟨hh, g, d, t, os⟩ := by
      refine wpAny_bind (wpAny_mono call1 (fun v s' z => ?_) fun _ _ z => z)
      obtain ⟨r, rfl, q⟩ := z
      exact wpAny_pure (wpAny_pure ⟨r, rfl, q⟩)
    refine wpAny_bind (wpAny_askSetting (wpAny_ite ?_))
    rw [PySem.F.cmp_object.ne.bind]
    split
    · exact wpAny_bind (wpAny_pure (wpAny_pure fin))
    · exact wpAny_tryCatch (wpAny_bind (wpAny_pure (wpAny_pure fin)))
  unfold richCompare
  refine wpAny_holding (wpAny_bind (wpAny_cRoomFor (by omega) ?_))
  simp only [oneThing_ref]
  refine wpAny_bind (L0.at (wpAny_bind (L1.at ?_)))
  rw [if_neg (by simp)]
  refine wpAny_bind (wpAny_pure ?_)
  simp only [Bool.false_eq_true, if_false]
  have go2 : wpAny (model prog w) A (tryCompare (.ref x) (cmpInfo .NotEq).2.1 (.ref y)) (fun v s' => ∃ r, v = some (.bool r) ∧ Q (.bool r) s') E ⟨hh, g, d, t, os⟩ := go
  refine wpAny_bind (wpAny_mono go2 (fun v s' z => ?_) fun _ _ z => z)
  obtain ⟨r, rfl, q⟩ := z
  exact wpAny_pure q
end
end PySem.W
namespace L2
open PySem PySem.Spec PyProof.Rows
section
variable {X : Cx} {k : Nat} {f C : Addr} {fd : FuncData} {ps : List Str} {sp : Sp}

noncomputable def rNeOwn (C : Addr) (sp : Sp) : R2 := fun x y H Q => ∃ a da fa b db fb, x = .ref a ∧ H a = some (.ins C da fa) ∧ y = .ref b ∧ H b = some (.ins C db fb) ∧ sp [x, y] H (fun v H' => ∃ r, v = .bl r ∧ Q (.bl (!r)) H') E0
theorem op_neOwn (oc : OCls X.K C) (hn : PySem.W.findIn X.K (.ref C) "__ne__" = some (some (.builtin "object.__ne__"))) (hm : Meth X.K C "__eq__" f) (F : FnOk X.prog X.w X.K X.mg X.base CX0 k f fd ps sp) (hr : Room (k + 1) X.A) (hb : Binds X.K fd ps []) (hu : X.A.units + 64 < cLine) : OpR X (compareOp .NotEq) (rNeOwn C sp) := by
  constructor
  intro pins s σ H x y v u Q I rx ry h
  obtain ⟨a, da, fa, b, db, fb, rfl, ha, rfl, hb2, q⟩ := h
  obtain rfl : v = Value.ref a := rx
  obtain rfl : u = Value.ref b := ry
  obtain ⟨mA, O, _, _, _, _⟩ := ins_get I.hok ha
  obtain ⟨od, J, _⟩ := O.look
  obtain ⟨mB, O2, _, _, _, _⟩ := ins_get I.hok hb2
  obtain ⟨od2, J2, _⟩ := O2.look
  refine PySem.W.rich_ne I.kIn J J2 hm.at_ hm.fn hn oc.mo (by omega) ?_
  have hl : [Value.ref a, Value.ref b].length = ps.length := by rw [← F.len _ _ _ _ q]; rfl
  have hb1 := hb s [Value.ref a, Value.ref b] I.kIn (by rw [List.append_nil]; exact hl)
  rw [List.append_nil] at hb1
  refine wpAny_call (codeAny_mono (F.run X.A.in1 X.stack s H ⟨[.ref a, .ref b], []⟩ [.ref a, .ref b] [.ref a, .ref b] _ _ hr.in1 I.env0.in1 hb1 (.cons rfl (.cons rfl .nil)) q) fun r s' hq => ?_)
  cases r with
  | error e => exact hq.elim
  | ok fl =>
    cases fl with
    | ret u =>
      obtain ⟨v1, H', I', rv, r, rfl, q'⟩ := I.after hq
      cases rv
      exact ⟨r, rfl, .bl (!r), H', I', rfl, q'⟩
    | next => exact hq.elim
    | brk => exact hq.elim
    | cont => exact hq.elim
end
end L2
namespace PySem.W
open PySem PySem.Spec PySem.Calls PyProof.Rows
section
variable {prog : Program} {w : World} {A : Around} {E : Value → Shared → Prop} {s : Shared} {K : Frag} {x C f : Addr} {ox : Obj} {od : Option Obj}

theorem repr_own {Q : Value → Shared → Prop} (hu : A.in1.units < cLine) (X : K.In s.heap) (I : InstAt s.heap x ox C od) (hs : findIn K (.ref C) "__repr__" = some (some (.ref f))) (hf : isFn K (.ref f) = true)
    (h : wpAny (model prog w) A.in1 (call (.ref f) [.ref x]) (fun v s' => ∃ z t, v = .str z t ∧ Q (.str z t) s') E s) : wpAny (model prog w) A (call (.builtin "repr") [.ref x]) Q E s := by
  refine Calls.call_function_entry PySem.F.kind_repr PySem.F.plain_repr PySem.F.entry_repr (PySem.F.args_repr1 _) ?_
  unfold Builtin.«repr»
  refine wpAny_bind (m := oneArg "repr" _) (wpAny_pure ?_)
  refine wpAny_bind (wpAny_cRoomFor hu ?_)
  refine wpAny_bind (wpAny_bind (I.type.here ((looks_findIn X hs).here ?_)))
  show wpAny _ _ (if (some (Value.ref f)).isNone = true then _ else _) _ _ _
  rw [if_neg (by simp)]
  refine wpAny_bind (m := callSpecialIfBound? (.ref x) (Str.ofString "__repr__") _) (ifBound_K X I hs hf (wpAny_mono h (fun r s' hr => ?_) fun _ _ y => y))
  obtain ⟨z, t, rfl, q⟩ := hr
  refine wpAny_bind (wpAny_isInstance (typeIs_str _ _ _) isSubtype_str_str ?_)
  first
    | exact wpAny_pure ⟨_, rfl, q⟩
    | (rw [if_pos rfl]; exact wpAny_pure ⟨_, rfl, q⟩)
    | (simp only [if_true]; exact wpAny_pure ⟨_, rfl, q⟩)
end
end PySem.W
namespace L2
open PySem PySem.Spec PyProof.Rows
section
variable {X : Cx} {k : Nat} {f C : Addr} {fd : FuncData} {ps : List Str} {sp : Sp}

noncomputable def rRepO (C : Addr) (sp : Sp) : List V → Hp → VK → Prop := fun vs H Q => ∃ a da fa, vs = [.ref a] ∧ H a = some (.ins C da fa) ∧ sp [.ref a] H (fun v H' => ∃ z, v = .str z ∧ Q (.str z) H') E0
theorem call_reprO (hm : Meth X.K C "__repr__" f) (F : FnOk X.prog X.w X.K X.mg X.base CX0 k f fd ps sp) (hr : Room (k + 1) X.A) (hb : Binds X.K fd ps []) (hu : X.A.units + 64 < cLine) : CallR X (.builtin "repr") (rRepO C sp) := by
  constructor
  intro pins s σ H xs us Q I r h
  obtain ⟨a, da, fa, rfl, ha, q⟩ := h
  cases r with
  | cons r1 rr =>
  cases rr
  cases (show _ = Value.ref a from r1)
  obtain ⟨mA, O, _, _, _, _⟩ := ins_get I.hok ha
  obtain ⟨od, J, _⟩ := O.look
  refine PySem.W.repr_own (by show X.A.units + 1 < cLine; omega) I.kIn J hm.at_ hm.fn ?_
  have hl : [Value.ref a].length = ps.length := by rw [← F.len _ _ _ _ q]; rfl
  have hb1 := hb s [Value.ref a] I.kIn (by rw [List.append_nil]; exact hl)
  rw [List.append_nil] at hb1
  refine wpAny_call (codeAny_mono (F.run X.A.in1 X.stack s H ⟨[.ref a], []⟩ [.ref a] [.ref a] _ _ hr.in1 I.env0.in1 hb1 (.cons rfl .nil) q) fun r s' hq => ?_)
  cases r with
  | error e => exact hq.elim
  | ok fl =>
    cases fl with
    | ret u =>
      obtain ⟨v1, H', I', rv, z, rfl, q'⟩ := I.after hq
      obtain ⟨t, rfl⟩ := rv
      exact ⟨z, t, rfl, .str z, H', I', ⟨t, rfl⟩, q'⟩
    | next => exact hq.elim
    | brk => exact hq.elim
    | cont => exact hq.elim
end
end L2

set_option Elab.async false
set_option linter.all false
set_option maxRecDepth 100000

namespace L2
open PySem PySem.Spec PyProof.Rows
noncomputable def IsTrip (h : Heap) (T : Addr) (a b c : Value) : Prop := h.get? T = some { cls := .type "tuple", data := .seq #[a, b, c] }
structure ZA3 (z TI TO i1 i2 i3 l1 l2 l3 : Addr) : Prop where
  TIz : TI ≠ z
  TOz : TO ≠ z
  i1z : i1 ≠ z
  i2z : i2 ≠ z
  i3z : i3 ≠ z
  TITO : TI ≠ TO
  TIi1 : TI ≠ i1
  TIi2 : TI ≠ i2
  TIi3 : TI ≠ i3
  TOi1 : TO ≠ i1
  TOi2 : TO ≠ i2
  TOi3 : TO ≠ i3
  i12 : i1 ≠ i2
  i13 : i1 ≠ i3
  i23 : i2 ≠ i3
  l1z : l1 ≠ z
  l2z : l2 ≠ z
  l3z : l3 ≠ z
  l2i1 : l2 ≠ i1
  l2TO : l2 ≠ TO
  l3i1 : l3 ≠ i1
  l3i2 : l3 ≠ i2
  l3TO : l3 ≠ TO
theorem za3 (I l1 l2 l3 : Nat) (h1 : l1 < I) (h2 : l2 < I) (h3 : l3 < I) : ZA3 (I + 5) (I + 3) (I + 4) I (I + 1) (I + 2) l1 l2 l3 := by
  constructor <;> (refine PySem.W.neN ?_; omega)
section
variable {prog : Program} {w : World} {A : Around} {E : Value → Shared → Prop} {s : Shared}
theorem upd_trip {T : Addr} {a b c x : Value} {k : Nat} {Q : Unit → Shared → Prop} (hT : IsTrip s.heap T a b c)
    (h : ∀ h', h'.get? T = some { cls := .type "tuple", data := .seq ((#[a, b, c] : Array Value).setIfInBounds k x) } → Heap.SameBut T s.heap h' → Q () { s with heap := h' }) :
    wpAny (model prog w) A (updateSeq T (·.setIfInBounds k x)) Q E s := by
  refine wpAny_updateSeq hT rfl (h _ ?_ (Heap.SameBut.update ..))
  rw [Heap.get?_update_self _ hT rfl]
  simp [Obj.mapSeq]
theorem z3_open {z TI TO i1 i2 i3 : Addr} {Q : Fin → Shared → Prop} (hz : IsZip s.heap z TI TO .none) (hTI : IsTrip s.heap TI (.ref i1) (.ref i2) (.ref i3)) {a b c : Value} (hTO : IsTrip s.heap TO a b c) {c1 c2 c3 : Src} {k : Nat} {xs ys zs : Array Value}
    (D : ZA3 z TI TO i1 i2 i3 c1.2 c2.2 c3.2) (h1 : SIt s.heap i1 c1 k) (h2 : SIt s.heap i2 c2 k) (h3 : SIt s.heap i3 c3 k) (hl1 : SSq s.heap c1 xs) (hl2 : SSq s.heap c2 ys) (hl3 : SSq s.heap c3 zs)
    (hi : ∀ x y v h', xs[k]? = some x → ys[k]? = some y → zs[k]? = some v → IsZip h' z TI TO (rawInt s.heap.objs.size) → IsTrip h' TO x y v → SIt h' i1 c1 (k + 1) → SIt h' i2 c2 (k + 1) → SIt h' i3 c3 (k + 1) → IsTrip h' s.heap.objs.size x y v → h'.objs.size = s.heap.objs.size + 1 →
      (∀ c o, c ≠ z → c ≠ TO → c ≠ i1 → c ≠ i2 → c ≠ i3 → s.heap.get? c = some o → h'.get? c = some o) → Q (.done (.ret (.ref s.heap.objs.size))) { s with heap := h' })
    (he : xs[k]? = none ∨ ys[k]? = none ∨ zs[k]? = none → A.handled = none ∧ ∀ h' e, (∀ c o, c ≠ z → c ≠ TO → c ≠ i1 → c ≠ i2 → c ≠ i3 → s.heap.get? c = some o → h'.get? c = some o) → (∃ o, h'.get? e = some o ∧ o.cls = .type "StopIteration") → E (.ref e) { s with heap := h' }) :
    wpAny (model prog w) A (Builtin.«zip.__next__» ⟨[.ref z], []⟩) Q E s := by
  show wpAny _ _ (field (.ref z) 2 >>= _) _ _ _; refine wpAny_bind (wpAny_field hz rfl (x := .bool false) rfl ?_)
  show wpAny _ _ (field (.ref z) 3 >>= _) _ _ _; refine wpAny_bind (wpAny_field hz rfl (x := .ref TI) rfl (wpAny_bind (wpAny_seqItems hTI rfl ?_)))
  show wpAny _ _ (Builtin.SmallTypes.ownedTupleIsFree (.ref z) >>= _) _ _ _; refine wpAny_bind ?_; unfold Builtin.SmallTypes.ownedTupleIsFree
  refine wpAny_bind (wpAny_field hz rfl (x := .none) rfl (wpAny_pure ?_)); simp only [if_true]
  refine wpAny_bind (wpAny_rule (wpAny_bind (wpAny_field hz rfl (x := .ref TO) rfl (wpAny_bind (wpAny_setField_rec hz (by simp) fun g1 hz1 s1 => ?_)))))
  replace hz1 : IsZip g1 z TI TO .ellipsis := hz1
  refine wpAny_bind ?_; simp only [List.zipIdx_cons, List.zipIdx_nil, List.forIn_cons, List.forIn_nil]
  refine wpAny_bind (wpAny_bind (wpAny_onRaise ?_)); show wpAny _ _ (Builtin.SmallTypes.nextOf (.ref i1) >>= _) _ _ _
  cases hx : xs[k]? with
  | none =>
    obtain ⟨hh, he⟩ := he (.inl hx)
    refine wpAny_bind (nx_end hh (h1.but s1.extBut D.i1z) (hl1.but s1.extBut D.l1z) hx fun g2 e s2 q => ?_)
    obtain ⟨oe, hoe, hce⟩ := q
    have hz2 : IsZip g2 z TI TO .ellipsis := s2 _ _ D.i1z.symm hz1
    have hez : e ≠ z := fun x => by subst x; rw [hz2] at hoe; cases hoe; simp at hce
    exact wpAny_setField_rec hz2 (by simp) fun g3 _ s3 => he g3 e (fun c o c1 _ c3 _ _ x => s3.extBut _ _ c1 (s2 _ _ c3 (s1.extBut _ _ c1 x))) ⟨oe, s3.extBut _ _ hez hoe, hce⟩
  | some x =>
    refine wpAny_bind (nx_item (h1.but s1.extBut D.i1z) (hl1.but s1.extBut D.l1z) hx fun g2 h12 s2 => wpAny_pure ?_)
    have hTO2 : IsTrip g2 TO a b c := s2.extBut _ _ D.TOi1 (s1.extBut _ _ D.TOz hTO)
    refine wpAny_bind (wpAny_seqItems hTO2 rfl (wpAny_bind (upd_trip hTO2 fun g3 hTO3 s3 => wpAny_bind (wpAny_letGo (wpAny_pure ?_)))))
    replace hTO3 : IsTrip g3 TO x b c := hTO3
    have k2 : SIt g3 i2 c2 k := ((h2.but s1.extBut D.i2z).but s2.extBut D.i12.symm).but s3.extBut D.TOi2.symm
    have l2 : SSq g3 c2 ys := ((hl2.but s1.extBut D.l2z).but s2.extBut D.l2i1).but s3.extBut D.l2TO
    have k3 : SIt g3 i3 c3 k := ((h3.but s1.extBut D.i3z).but s2.extBut D.i13.symm).but s3.extBut D.TOi3.symm
    have l3 : SSq g3 c3 zs := ((hl3.but s1.extBut D.l3z).but s2.extBut D.l3i1).but s3.extBut D.l3TO
    have hz3 : IsZip g3 z TI TO .ellipsis := s3.extBut _ _ D.TOz.symm (s2.extBut _ _ D.i1z.symm hz1)
    refine wpAny_bind (wpAny_bind (wpAny_onRaise ?_)); show wpAny _ _ (Builtin.SmallTypes.nextOf (.ref i2) >>= _) _ _ _
    cases hy : ys[k]? with
    | none =>
      obtain ⟨hh, he⟩ := he (.inr (.inl hy))
      refine wpAny_bind (nx_end hh k2 l2 hy fun g4 e s4 q => ?_)
      obtain ⟨oe, hoe, hce⟩ := q
      have hz4 : IsZip g4 z TI TO .ellipsis := s4 _ _ D.i2z.symm hz3
      have hez : e ≠ z := fun x => by subst x; rw [hz4] at hoe; cases hoe; simp at hce
      exact wpAny_setField_rec hz4 (by simp) fun g5 _ s5 => he g5 e (fun c o c1 c2 c3 c4 _ x => s5.extBut _ _ c1 (s4 _ _ c4 (s3.extBut _ _ c2 (s2.extBut _ _ c3 (s1.extBut _ _ c1 x))))) ⟨oe, s5.extBut _ _ hez hoe, hce⟩
    | some y =>
      refine wpAny_bind (nx_item k2 l2 hy fun g4 h24 s4 => wpAny_pure ?_)
      have hTO4 : IsTrip g4 TO x b c := s4.extBut _ _ D.TOi2 hTO3
      refine wpAny_bind (wpAny_seqItems hTO4 rfl (wpAny_bind (upd_trip hTO4 fun g5 hTO5 s5 => wpAny_bind (wpAny_letGo (wpAny_pure ?_)))))
      replace hTO5 : IsTrip g5 TO x y c := hTO5
      have m3 : SIt g5 i3 c3 k := (k3.but s4.extBut D.i23.symm).but s5.extBut D.TOi3.symm
      have n3 : SSq g5 c3 zs := (l3.but s4.extBut D.l3i2).but s5.extBut D.l3TO
      have hz5 : IsZip g5 z TI TO .ellipsis := s5.extBut _ _ D.TOz.symm (s4.extBut _ _ D.i2z.symm hz3)
      have h15' : SIt g5 i1 c1 (k + 1) := ((h12.but s3.extBut D.TOi1.symm).but s4.extBut D.i12).but s5.extBut D.TOi1.symm
      have h25' : SIt g5 i2 c2 (k + 1) := h24.but s5.extBut D.TOi2.symm
      have kp5 : ∀ c o, c ≠ z → c ≠ TO → c ≠ i1 → c ≠ i2 → c ≠ i3 → s.heap.get? c = some o → g5.get? c = some o := fun c o c1 c2 c3 c4 _ e => s5.extBut _ _ c2 (s4.extBut _ _ c4 (s3.extBut _ _ c2 (s2.extBut _ _ c3 (s1.extBut _ _ c1 e))))
      have sz5 : g5.objs.size = s.heap.objs.size := by rw [s5.1, s4.1, s3.1, s2.1, s1.1]
      refine wpAny_bind (wpAny_bind (wpAny_onRaise ?_)); show wpAny _ _ (Builtin.SmallTypes.nextOf (.ref i3) >>= _) _ _ _
      cases hv : zs[k]? with
      | none =>
        obtain ⟨hh, he⟩ := he (.inr (.inr hv))
        refine wpAny_bind (nx_end hh m3 n3 hv fun g6 e s6 q => ?_)
        obtain ⟨oe, hoe, hce⟩ := q
        have hz6 : IsZip g6 z TI TO .ellipsis := s6 _ _ D.i3z.symm hz5
        have hez : e ≠ z := fun x => by subst x; rw [hz6] at hoe; cases hoe; simp at hce
        exact wpAny_setField_rec hz6 (by simp) fun g7 _ s7 => he g7 e (fun c o c1 c2 c3 c4 c5 x => s7.extBut _ _ c1 (s6 _ _ c5 (kp5 c o c1 c2 c3 c4 c5 x))) ⟨oe, s7.extBut _ _ hez hoe, hce⟩
      | some v =>
        refine wpAny_bind (nx_item m3 n3 hv fun g6 h36 s6 => wpAny_pure ?_)
        have hTO6 : IsTrip g6 TO x y c := s6.extBut _ _ D.TOi3 hTO5
        refine wpAny_bind (wpAny_seqItems hTO6 rfl (wpAny_bind (upd_trip hTO6 fun g7 hTO7 s7 => wpAny_bind (wpAny_letGo (wpAny_pure (wpAny_pure ?_))))))
        replace hTO7 : IsTrip g7 TO x y v := hTO7
        have hsz : g7.objs.size = s.heap.objs.size := by rw [s7.1, s6.1, sz5]
        have hz7 : IsZip g7 z TI TO .ellipsis := s7.extBut _ _ D.TOz.symm (s6.extBut _ _ D.i3z.symm hz5)
        have kp : ∀ c o, c ≠ z → c ≠ TO → c ≠ i1 → c ≠ i2 → c ≠ i3 → s.heap.get? c = some o → g7.get? c = some o := fun c o c1 c2 c3 c4 c5 e => s7.extBut _ _ c2 (s6.extBut _ _ c5 (kp5 c o c1 c2 c3 c4 c5 e))
        have h15 : SIt g7 i1 c1 (k + 1) := (h15'.but s6.extBut D.i13).but s7.extBut D.TOi1.symm
        have h25 : SIt g7 i2 c2 (k + 1) := (h25'.but s6.extBut D.i23).but s7.extBut D.TOi2.symm
        have h35 : SIt g7 i3 c3 (k + 1) := h36.but s7.extBut D.TOi3.symm
        have zl : z < g7.objs.size := Heap.lt_size hz7
        refine wpAny_bind (wpAny_seqItems hTO7 rfl (wpAny_bind (wpAny_newTuple ?_)))
        show wpAny _ _ (Builtin.SmallTypes.ownedTupleHandOut (.ref z) (.ref g7.objs.size) >>= _) _ _ _; refine wpAny_bind ?_; unfold Builtin.SmallTypes.ownedTupleHandOut
        have hz8 : IsZip (g7.push { cls := .type "tuple", data := .seq #[x, y, v] }) z TI TO .ellipsis := Heap.get?_push_of_some _ hz7
        refine wpAny_bind (wpAny_setField_rec hz8 (by simp) fun g9 hz9 s9 => ?_)
        replace hz9 : IsZip g9 z TI TO (rawInt g7.objs.size) := hz9
        refine wpAny_setField_rec hz9 (by simp) fun g8 hz8 s8 => ?_
        replace hz8 : IsZip g8 z TI TO (rawInt g7.objs.size) := hz8
        have up : ∀ c o, c ≠ z → g7.get? c = some o → g8.get? c = some o := fun c o c1 e => s8.extBut _ _ c1 (s9.extBut _ _ c1 (Heap.get?_push_of_some _ e))
        have hT8 : IsTrip g8 g7.objs.size x y v := s8.extBut _ _ (Nat.ne_of_gt zl) (s9.extBut _ _ (Nat.ne_of_gt zl) (Heap.get?_push_size _ rfl))
        have z8 : g8.objs.size = g7.objs.size + 1 := by rw [s8.1, s9.1, Heap.size_push]
        rw [hsz] at hz8 hT8 z8
        refine wpAny_pure ?_
        show Q (.done (.ret (.ref g7.objs.size))) _
        rw [hsz]
        exact hi x y v g8 hx hy hv hz8 (up _ _ D.TOz hTO7) (h15.at fun o e => up _ o D.i1z e) (h25.at fun o e => up _ o D.i2z e) (h35.at fun o e => up _ o D.i3z e) hT8 z8 fun c o c1 c2 c3 c4 c5 e => up c o c1 (kp c o c1 c2 c3 c4 c5 e)
theorem z3_next {z TI TO i1 i2 i3 : Addr} {Q : Option Value → Shared → Prop} (hz : IsZip s.heap z TI TO .none) (hTI : IsTrip s.heap TI (.ref i1) (.ref i2) (.ref i3)) {a b c : Value} (hTO : IsTrip s.heap TO a b c) {c1 c2 c3 : Src} {k : Nat} {xs ys zs : Array Value}
    (D : ZA3 z TI TO i1 i2 i3 c1.2 c2.2 c3.2) (h1 : SIt s.heap i1 c1 k) (h2 : SIt s.heap i2 c2 k) (h3 : SIt s.heap i3 c3 k) (hl1 : SSq s.heap c1 xs) (hl2 : SSq s.heap c2 ys) (hl3 : SSq s.heap c3 zs)
    (hi : ∀ x y v h', xs[k]? = some x → ys[k]? = some y → zs[k]? = some v → IsZip h' z TI TO (rawInt s.heap.objs.size) → IsTrip h' TO x y v → SIt h' i1 c1 (k + 1) → SIt h' i2 c2 (k + 1) → SIt h' i3 c3 (k + 1) → IsTrip h' s.heap.objs.size x y v → h'.objs.size = s.heap.objs.size + 1 →
      (∀ c o, c ≠ z → c ≠ TO → c ≠ i1 → c ≠ i2 → c ≠ i3 → s.heap.get? c = some o → h'.get? c = some o) → Q (some (.ref s.heap.objs.size)) { s with heap := h' })
    (he : xs[k]? = none ∨ ys[k]? = none ∨ zs[k]? = none → A.handled = none ∧ ∀ h', (∀ c o, c ≠ z → c ≠ TO → c ≠ i1 → c ≠ i2 → c ≠ i3 → s.heap.get? c = some o → h'.get? c = some o) → Q none { s with heap := h' }) :
    wpAny (model prog w) A (pyNext (.ref z)) Q E s := by
  have hT : s.TypeIs (.ref z) "zip" := ⟨_, hz, rfl⟩
  unfold pyNext
  refine wpAny_bind (wpAny_attempt (wpAny_callSpecial?_slot (name := Str.ofString "__next__") hT F.slot_zip_next (wpAny_call_entry F.slot_zip_next hT F.entry_zip_next (z3_open hz hTI hTO D h1 h2 h3 hl1 hl2 hl3 ?_ ?_) (F.args_zip_next_1 _))))
  · exact fun x y v h' e1 e2 e3 q1 q2 q3 q4 q5 q6 q7 q8 => ⟨_, rfl, wpAny_pure (hi x y v h' e1 e2 e3 q1 q2 q3 q4 q5 q6 q7 q8)⟩
  · intro q
    obtain ⟨hh, he⟩ := he q
    refine ⟨hh, fun h' e kp hx => ?_⟩
    obtain ⟨o, ho, hc⟩ := hx
    exact wpAny_bind (wpAny_isInstance (T := "StopIteration") (b := true) ⟨o, ho, hc⟩ isSubtype_stop (wpAny_pure (he h' kp)))
theorem typeCall_zip_3 (a b c : Value) : checkTypeCall "zip" ⟨[a, b, c], []⟩ = pure () := by kernel_rfl
theorem newCall_zip_3 (a b c : Value) : checkBuiltinCall "zip.__new__" ⟨[.type "zip", a, b, c], []⟩ = pure () := by kernel_rfl
noncomputable abbrev zi3 (h : Heap) (c1 c2 c3 : Src) : Heap := (zh2 h c1 c2).push { cls := .type (itN c3), data := .fields #[.ref c3.2, .int 0 0] }
noncomputable abbrev zh6 (h : Heap) (c1 c2 c3 : Src) : Heap := (((zi3 h c1 c2 c3).push { cls := .type "tuple", data := .seq #[.ref h.objs.size, .ref (h.push { cls := .type (itN c1), data := .fields #[.ref c1.2, .int 0 0] }).objs.size, .ref (zh2 h c1 c2).objs.size] }).push { cls := .type "tuple", data := .seq #[.none, .none, .none] }).push
  { cls := .type "zip", data := .fields #[.none, .bool false, .bool false, .ref (zi3 h c1 c2 c3).objs.size, .ref ((zi3 h c1 c2 c3).push { cls := .type "tuple", data := .seq #[.ref h.objs.size, .ref (h.push { cls := .type (itN c1), data := .fields #[.ref c1.2, .int 0 0] }).objs.size, .ref (zh2 h c1 c2).objs.size] }).objs.size] }
set_option maxHeartbeats 4000000 in
theorem z3_new (c1 c2 c3 : Src) (xs ys zs : Array Value) :
    Meets (Builtin.«zip.__new__» ⟨[.type "zip", .ref c1.2, .ref c2.2, .ref c3.2], []⟩) (fun _ R s => SSq s.heap c1 xs ∧ SSq s.heap c2 ys ∧ SSq s.heap c3 zs ∧ R (.ok (.ret (.ref (s.heap.objs.size + 5)))) { s with heap := zh6 s.heap c1 c2 c3 }) :=
  .of_wp fun prog w A R s h => by
    obtain ⟨hp, g, d, tk, os⟩ := s
    obtain ⟨p1, p2, p3, h⟩ := h
    have hsub := sub_zip
    have q1 : SSq (Shared.heap ⟨hp, g, d, tk, os⟩) c1 xs := p1
    have q2 : SSq (Shared.heap ⟨hp.push { cls := .type (itN c1), data := .fields #[.ref c1.2, .int 0 0] }, g, d, tk, os⟩) c2 ys := SSq.push p2 _
    have q3 : SSq (Shared.heap ⟨zh2 hp c1 c2, g, d, tk, os⟩) c3 zs := SSq.push (SSq.push p3 _) _
    wp_walk using it_seq q1, it_seq q2, it_seq q3
    have e : (((zi3 hp c1 c2 c3).push { cls := .type "tuple", data := .seq #[.ref hp.objs.size, .ref (hp.push { cls := .type (itN c1), data := .fields #[.ref c1.2, .int 0 0] }).objs.size, .ref (zh2 hp c1 c2).objs.size] }).push { cls := .type "tuple", data := .seq #[.none, .none, .none] }).objs.size = hp.objs.size + 5 := by
      simp only [Heap.size_push]
    refine ⟨_, rfl, ?_⟩
    have h' : R (.ok (.ret (.ref (hp.objs.size + 5)))) _ := h
    rw [← e] at h'
    exact h'
theorem args_init_4 (a b c d : Value) : argsOk "object.__init__" ⟨[a, b, c, d], []⟩ := by
  unfold argsOk; rw [signature?_of (id := "object.__init__") (n := ['_', '_', 't', 'i', 'n', 'i', '_', '_']) (o := ['t', 'c', 'e', 'j', 'b', 'o']) (by kernel_rfl) PySem.F.owner_object]; kernel_rfl
theorem z3_call {c1 c2 c3 : Src} {xs ys zs : Array Value} {Q : Value → Shared → Prop} (p1 : SSq s.heap c1 xs) (p2 : SSq s.heap c2 ys) (p3 : SSq s.heap c3 zs)
    (h : ∀ h', IsZip h' (s.heap.objs.size + 5) (s.heap.objs.size + 3) (s.heap.objs.size + 4) .none → IsTrip h' (s.heap.objs.size + 3) (.ref s.heap.objs.size) (.ref (s.heap.objs.size + 1)) (.ref (s.heap.objs.size + 2)) → IsTrip h' (s.heap.objs.size + 4) .none .none .none →
      SIt h' s.heap.objs.size c1 0 → SIt h' (s.heap.objs.size + 1) c2 0 → SIt h' (s.heap.objs.size + 2) c3 0 → (∀ c o, s.heap.get? c = some o → h'.get? c = some o) → Q (.ref (s.heap.objs.size + 5)) { s with heap := h' }) :
    wpAny (model prog w) A (call (.type "zip") [.ref c1.2, .ref c2.2, .ref c3.2]) Q E s := by
  refine callType_new F.called_zip (by decide) (typeCall_zip_3 _ _ _) (newCall_zip_3 _ _ _) (fun obj => args_init_4 obj _ _ _) F.entry_zip_new (z3_new c1 c2 c3 xs ys zs) ⟨p1, p2, p3, ?_⟩
  have up : ∀ {g : Heap} {o : Obj} {c : Addr} {u : Obj}, g.get? c = some u → (g.push o).get? c = some u := fun e => Heap.get?_push_of_some _ e
  have nw : ∀ {g : Heap} {o : Obj} {c : Addr}, o.isFreed = false → c = g.objs.size → (g.push o).get? c = some o := fun f e => by rw [e]; exact Heap.get?_push_size _ f
  have g5 : IsZip (zh6 s.heap c1 c2 c3) (s.heap.objs.size + 5) (s.heap.objs.size + 3) (s.heap.objs.size + 4) .none := by
    refine nw rfl (by simp only [Heap.size_push]) |>.trans ?_
    simp only [Heap.size_push]
  have g3 : IsTrip (zh6 s.heap c1 c2 c3) (s.heap.objs.size + 3) (.ref s.heap.objs.size) (.ref (s.heap.objs.size + 1)) (.ref (s.heap.objs.size + 2)) := by
    refine (up (up (nw rfl (by simp only [Heap.size_push])))).trans ?_
    simp only [Heap.size_push]
  have g4 : IsTrip (zh6 s.heap c1 c2 c3) (s.heap.objs.size + 4) .none .none .none := up (nw rfl (by simp only [Heap.size_push]))
  have g1 : SIt (zh6 s.heap c1 c2 c3) s.heap.objs.size c1 0 := .new (up (up (up (up (up (nw rfl rfl))))))
  have g2 : SIt (zh6 s.heap c1 c2 c3) (s.heap.objs.size + 1) c2 0 := .new (up (up (up (up (nw rfl (by simp only [Heap.size_push]))))))
  have g6 : SIt (zh6 s.heap c1 c2 c3) (s.heap.objs.size + 2) c3 0 := .new (up (up (up (nw rfl (by simp only [Heap.size_push])))))
  exact ⟨⟨_, g5, rfl⟩, h _ g5 g3 g4 g1 g2 g6 fun c o x => up (up (up (up (up (up x)))))⟩
end
noncomputable def Itz3 (K : PySem.W.Frag) (c1 c2 c3 : Src) : It :=
  ⟨fun i H => ∃ (xs ys zs : List V) (x y v : V), SqS K H c1 xs ∧ SqS K H c2 ys ∧ SqS K H c3 zs ∧ xs[i]? = some x ∧ ys[i]? = some y ∧ zs[i]? = some v,
    fun i H u H' => ∃ T x y v, u = .ref T ∧ H T = none ∧ H' = upd H T (.tup [x, y, v]) ∧ (∀ xs, SqS K H c1 xs → xs[i]? = some x) ∧ (∀ ys, SqS K H c2 ys → ys[i]? = some y) ∧ ∀ zs, SqS K H c3 zs → zs[i]? = some v,
    fun i H => ∃ xs ys zs : List V, SqS K H c1 xs ∧ SqS K H c2 ys ∧ SqS K H c3 zs ∧ (xs.length ≤ i ∨ ys.length ≤ i ∨ zs.length ≤ i)⟩
theorem turn_zip3 {P : Program} {w : World} {K : PySem.W.Frag} {elts : List Expr} {kk : Nat} {tpos : Pos} {c1 c2 c3 : Src} {z TI TO i1 i2 i3 : Addr} (D : ZA3 z TI TO i1 i2 i3 c1.2 c2.2 c3.2) :
    Turn P w K (.Tuple elts kk tpos) (Itz3 K c1 c2 c3) [z, TI, TO, i1, i2, i3] z (fun i h => IsZip h z TI TO .none ∧ IsTrip h TI (.ref i1) (.ref i2) (.ref i3) ∧ (∃ x y v, IsTrip h TO x y v) ∧ SIt h i1 c1 i ∧ SIt h i2 c2 i ∧ SIt h i3 c3 i) where
  mem := by simp
  obj := fun i h st c hc => by
    obtain ⟨hz, hTI, ⟨x, y, v, hTO⟩, h1, h2, h3⟩ := st
    have e' : c = z ∨ c = TI ∨ c = TO ∨ c = i1 ∨ c = i2 ∨ c = i3 := by simpa using hc
    rcases e' with q | q | q | q | q | q
    · rw [q]; exact ⟨_, hz, fun v q => nomatch q⟩
    · rw [q]; exact ⟨_, hTI, fun v q => nomatch q⟩
    · rw [q]; exact ⟨_, hTO, fun v q => nomatch q⟩
    · rw [q]; exact h1.obj
    · rw [q]; exact h2.obj
    · rw [q]; exact h3.obj
  keep := fun i h h' st k => by
    obtain ⟨hz, hTI, ⟨x, y, v, hTO⟩, h1, h2, h3⟩ := st
    exact ⟨k z (by simp) _ hz, k TI (by simp) _ hTI, ⟨x, y, v, k TO (by simp) _ hTO⟩, h1.at fun o q => k i1 (by simp) o q, h2.at fun o q => k i2 (by simp) o q, h3.at fun o q => k i3 (by simp) o q⟩
  item := by
    intro X hP hw hK hc i pins s σ H E I hf st hg
    subst hP hw hK
    obtain ⟨hz, hTI, ⟨x0, y0, v0, hTO⟩, h1, h2, h3⟩ := st
    obtain ⟨xs, ys, zs, x, y, v, hqx, hqy, hqv, hx, hy, hv⟩ := hg
    obtain ⟨its, rv, p⟩ := hqx.inv I
    obtain ⟨its2, rv2, p2⟩ := hqy.inv I
    obtain ⟨its3, rv3, p3⟩ := hqv.inv I
    obtain ⟨u, hu, ru⟩ := rv.get hx
    obtain ⟨u2, hu2, ru2⟩ := rv2.get hy
    obtain ⟨u3, hu3, ru3⟩ := rv3.get hv
    have hzl : z < s.heap.objs.size := Heap.lt_size hz
    refine z3_next hz hTI hTO D h1 h2 h3 p p2 p3 (fun v1 v2 v3 h' e1 e2 e3 z' TO' h1' h2' h3' hT hsz hk => ?_) (fun q => ?_)
    · have ev : v1 = u := by
        have : its.toArray[i]? = some u := by simpa using hu
        rw [this] at e1; exact (Option.some.inj e1).symm
      have ev2 : v2 = u2 := by
        have : its2.toArray[i]? = some u2 := by simpa using hu2
        rw [this] at e2; exact (Option.some.inj e2).symm
      have ev3 : v3 = u3 := by
        have : its3.toArray[i]? = some u3 := by simpa using hu3
        rw [this] at e3; exact (Option.some.inj e3).symm
      subst ev ev2 ev3
      refine ⟨_, rfl, wpAny_letOwnedTupleGo_zip (s := { s with heap := h' }) z' fun h'' z'' sb => ?_⟩
      have hT2 : h''.get? s.heap.objs.size = some { cls := .type "tuple", data := .seq #[v1, v2, v3] } := (sb.2 _ (Nat.ne_of_gt hzl)).trans hT
      have new : ObjOk X.prog X.w (upd H s.heap.objs.size (.tup [x, y, v])) h'' s.heap.objs.size (.tup [x, y, v]) :=
        ⟨by show 3 ≤ sizeLine; decide, [v1, v2, v3], .cons ru (.cons ru2 (.cons ru3 .nil)), ⟨_, hT2, rfl, ⟨_, rfl⟩, rfl⟩⟩
      have I1 : Inv X pins σ (upd H s.heap.objs.size (.tup [x, y, v])) { s with heap := h'' } :=
        I.turnedNew (t' := s.toks) (ch := [z, TI, TO, i1, i2, i3]) (fun c o hb q => (sb.2 c (fun q' => hb (by simp [q']))).trans (hk c o (fun q' => hb (by simp [q'])) (fun q' => hb (by simp [q'])) (fun q' => hb (by simp [q'])) (fun q' => hb (by simp [q'])) (fun q' => hb (by simp [q'])) q)) hf (Nat.le_refl _) new
      refine ⟨.ref s.heap.objs.size, _, I1, rfl, ⟨_, x, y, v, rfl, I.hok.fresh (Nat.le_refl _), rfl, fun l hl => by rw [hl.inj I hqx]; exact hx, fun l hl => by rw [hl.inj I hqy]; exact hy, fun l hl => by rw [hl.inj I hqv]; exact hv⟩, ⟨z'', ?_, ⟨v1, v2, v3, ?_⟩, ?_, ?_, ?_⟩, fun c hcm => ?_⟩
      · exact (sb.2 _ D.TIz).trans (hk _ _ D.TIz D.TITO D.TIi1 D.TIi2 D.TIi3 hTI)
      · exact (sb.2 _ D.TOz).trans TO'
      · exact h1'.at fun o q => (sb.2 _ D.i1z).trans q
      · exact h2'.at fun o q => (sb.2 _ D.i2z).trans q
      · exact h3'.at fun o q => (sb.2 _ D.i3z).trans q
      · have hlt : c < s.heap.objs.size := by
          have e' : c = z ∨ c = TI ∨ c = TO ∨ c = i1 ∨ c = i2 ∨ c = i3 := by simpa using hcm
          rcases e' with q | q | q | q | q | q
          · rw [q]; exact hzl
          · rw [q]; exact Heap.lt_size hTI
          · rw [q]; exact Heap.lt_size hTO
          · rw [q]; exact h1.lt
          · rw [q]; exact h2.lt
          · rw [q]; exact h3.lt
        rw [upd_ne (Nat.ne_of_lt hlt)]
        exact (hf c hcm).1
    · exfalso
      have h1' : its.toArray[i]? = some u := by simpa using hu
      have h2' : its2.toArray[i]? = some u2 := by simpa using hu2
      have h3' : its3.toArray[i]? = some u3 := by simpa using hu3
      rcases q with q | q | q
      · rw [h1'] at q; cases q
      · rw [h2'] at q; cases q
      · rw [h3'] at q; cases q
  done := by
    intro X hP hw hK hc i pins s σ H E I hf st hg
    subst hP hw hK
    obtain ⟨hz, hTI, ⟨x0, y0, v0, hTO⟩, h1, h2, h3⟩ := st
    obtain ⟨xs, ys, zs, hqx, hqy, hqv, hend⟩ := hg
    obtain ⟨its, rv, p⟩ := hqx.inv I
    obtain ⟨its2, rv2, p2⟩ := hqy.inv I
    obtain ⟨its3, rv3, p3⟩ := hqv.inv I
    have l1 := rv.length
    have l2 := rv2.length
    have l3 := rv3.length
    refine z3_next hz hTI hTO D h1 h2 h3 p p2 p3 (fun v1 v2 v3 h' e1 e2 e3 => ?_) (fun _ => ⟨I.ok.hd hc, fun h' hk => ⟨rfl, I.turnedL (t' := s.toks) (ch := [z, TI, TO, i1, i2, i3]) (fun c o hb q =>
      hk c o (fun q' => hb (by simp [q'])) (fun q' => hb (by simp [q'])) (fun q' => hb (by simp [q'])) (fun q' => hb (by simp [q'])) (fun q' => hb (by simp [q'])) q) hf⟩⟩)
    exfalso
    rcases hend with q | q | q
    · have : its.toArray[i]? = none := by simp; omega
      rw [this] at e1; cases e1
    · have : its2.toArray[i]? = none := by simp; omega
      rw [this] at e2; cases e2
    · have : its3.toArray[i]? = none := by simp; omega
      rw [this] at e3; cases e3
  self := fun A i s Q E st h => wpAny_pyIter_zip st.1 h
noncomputable def iZip3 (K : PySem.W.Frag) (ta : TA) : TI := fun σ H R => ta σ H fun vs H1 => ∃ c1 c2 c3 xs ys zs, vs = [.ref c1.2, .ref c2.2, .ref c3.2] ∧ SqS K H1 c1 xs ∧ SqS K H1 c2 ys ∧ SqS K H1 c3 zs ∧ R (Itz3 K c1 c2 c3) H1
theorem pi_zip3 {X : Cx} {e e2 e3 : Expr} {ta : TA} {p pos tpos : Pos} {elts : List Expr} {kk : Nat} (hg : Gl X "zip") (hm : X.mg "zip" = none) (ha : PA X [e, e2, e3] ta)
    (hs : starEach [e, e2, e3] X.env = (false, eval e X.env) :: starEach [e2, e3] X.env := by rfl) (hpl : (backTo pos (starEach [e2, e3] X.env)).any (·.1) = false := by rfl) :
    PI X (.Tuple elts kk tpos) (.Call (.Name "zip" p) [e, e2, e3] [] pos) (iZip3 X.K ta) := by
  constructor
  intro pins s σ H R I h
  refine Call_ (ld_blt I hg hm boot_zip5 (PyProof.Rows.callWith_type1 (thn (ha pos pins s σ H _ I h) fun us s1 ⟨vs, H1, I1, r1, q1⟩ => ?_) hs hpl))
  obtain ⟨c1, c2, c3, xs, ys, zs, ex, hqx, hqy, hqv, q⟩ := q1
  subst ex
  cases r1 with
  | cons r rr =>
    cases rr with
    | cons r' rr =>
      cases rr with
      | cons r'' rr =>
        cases rr
        cases r
        cases r'
        cases r''
        obtain ⟨its, rv, p1⟩ := hqx.inv I1
        obtain ⟨its2, rv2, p2⟩ := hqy.inv I1
        obtain ⟨its3, rv3, p3⟩ := hqv.inv I1
        have la : c1.2 < s1.heap.objs.size := p1.lt
        have lb : c2.2 < s1.heap.objs.size := p2.lt
        have lc : c3.2 < s1.heap.objs.size := p3.lt
        refine z3_call p1 p2 p3 fun h' hz hTI hTO h1 h2 h3 hk => wpAny_pyIter_zip hz ?_
        have I2 : Inv X pins σ H1 { s1 with heap := h' } := I1.kept (t' := s1.toks) hk
        refine ⟨s1.heap.objs.size + 5, [s1.heap.objs.size + 5, s1.heap.objs.size + 3, s1.heap.objs.size + 4, s1.heap.objs.size, s1.heap.objs.size + 1, s1.heap.objs.size + 2], _, _, H1, rfl, I2, turn_zip3 (za3 s1.heap.objs.size c1.2 c2.2 c3.2 la lb lc), ⟨hz, hTI, ⟨_, _, _, hTO⟩, h1, h2, h3⟩, fun c hcm => ?_, q⟩
        have e' : c = s1.heap.objs.size + 5 ∨ c = s1.heap.objs.size + 3 ∨ c = s1.heap.objs.size + 4 ∨ c = s1.heap.objs.size ∨ c = s1.heap.objs.size + 1 ∨ c = s1.heap.objs.size + 2 := by simpa using hcm
        have hle : s1.heap.objs.size ≤ c := by
          rcases e' with z | z | z | z | z | z <;> rw [z] <;> first | exact Nat.le_refl _ | exact Nat.le_add_right _ _
        exact I1.fpOk hle (I1.hok.fresh hle)

theorem for_zip3 {K : PySem.W.Frag} {c1 c2 c3 : Src} {xs ys zs : List V} {g : TG} {tb : TS} {D : Ends} {σ : St} {H : Hp} {n : Nat} (hn : xs.length = n ∧ ys.length = n ∧ zs.length = n) (Pv : Nat → St → Hp → Prop) (h0 : Pv 0 σ H) (hx : ∀ i σ H, Pv i σ H → SqS K H c1 xs) (hy : ∀ i σ H, Pv i σ H → SqS K H c2 ys) (hv : ∀ i σ H, Pv i σ H → SqS K H c3 zs)
    (hs : ∀ i x y v T σ H, xs[i]? = some x → ys[i]? = some y → zs[i]? = some v → Pv i σ H → H T = none → g (.ref T) σ (upd H T (.tup [x, y, v])) fun σ2 H2 => tb { D with nx := Pv (i + 1), ct := Pv (i + 1), bk := D.nx } σ2 H2) (hd : ∀ σ H, Pv n σ H → D.nx σ H) :
    ∃ W : Nat → Nat → St → Hp → Prop, (∃ m, W 0 m σ H) ∧ ∀ i m σ H, W i m σ H →
      ((Itz3 K c1 c2 c3).stop i H ∧ D.nx σ H) ∨ ((Itz3 K c1 c2 c3).go i H ∧ ∃ N : St → Hp → Prop, (∀ σ' H', N σ' H' → ∃ m', m' < m ∧ W (i + 1) m' σ' H') ∧ ∀ x H', (Itz3 K c1 c2 c3).yld i H x H' → g x σ H' fun σ2 H2 => tb { D with nx := N, ct := N, bk := D.nx } σ2 H2) := by
  obtain ⟨n1, n2, n3⟩ := hn
  refine ⟨fun i m σ H => m = n - i ∧ i ≤ n ∧ Pv i σ H, ⟨_, rfl, Nat.zero_le _, h0⟩, ?_⟩
  rintro i m σ H ⟨rfl, hi, p⟩
  by_cases hlt : i < n
  · have i1 : i < xs.length := by omega
    have i2 : i < ys.length := by omega
    have i3 : i < zs.length := by omega
    refine .inr ⟨⟨xs, ys, zs, xs[i], ys[i], zs[i], hx _ _ _ p, hy _ _ _ p, hv _ _ _ p, by simp [i1], by simp [i2], by simp [i3]⟩, Pv (i + 1), fun σ' H' p' => ⟨n - (i + 1), by omega, rfl, hlt, p'⟩, fun u H' y => ?_⟩
    obtain ⟨T, x, y, v, rfl, hT, rfl, qx, qy, qv⟩ := y
    exact hs i x y v T σ H (qx xs (hx _ _ _ p)) (qy ys (hy _ _ _ p)) (qv zs (hv _ _ _ p)) p hT
  · have e : i = n := by omega
    subst e
    exact .inl ⟨⟨xs, ys, zs, hx _ _ _ p, hy _ _ _ p, hv _ _ _ p, by omega⟩, hd σ H p⟩
end L2

set_option Elab.async false
set_option linter.all false
set_option maxRecDepth 100000

namespace My
open PySem PySem.Spec PyProof.Rows L2
noncomputable def shI (h : Sh) : List Int := [h.r, h.e, h.f, h.b, h.c]
noncomputable def shD (h : Sh) : PyData := .tuple ((shI h).map PyData.int)
theorem shD_eas (h : Sh) : Eas 1 (shD h) := Eas.tup (by show 5 ≤ 1000; decide) fun d hd => by
  obtain ⟨i, _, rfl⟩ := List.mem_map.mp hd
  exact Eas.int 0 i
theorem shD_dt {H : Hp} {t : Addr} {h : Sh} (e : H t = some (.tup (shV h))) : Dt H (.ref t) (shD h) := .tup e (dt_ints H (shI h))
noncomputable def boundsM : List (Str × Int × Int) := [("rows", 2, 8), ("entries", 2, 8), ("fan", 2, 8), ("buckets", 1, 8), ("bits", 2, 64)]

noncomputable def wrongM : List (Str × Int × Int) → List PyData → Option Str
  | (n, lo, hi) :: bs, d :: ds => if wholeB lo hi d = true then wrongM bs ds else some n
  | _, _ => none
where wholeB (lo hi : Int) : PyData → Bool
  | .int i => decide (lo ≤ i) && decide (i ≤ hi)
  | _ => false
noncomputable def sp_first_wrongD : Sp := fun vs H Q _ => ∃ (t : Addr) (xs : List V) (ds : List PyData), vs = [.ref t] ∧ H t = some (.tup xs) ∧ DtAll H xs ds ∧ ds.length = 5 ∧ (∀ d ∈ ds, Eas 4 d) ∧ ∀ H', Same H H' → Q (optS (wrongM boundsM ds)) H'
theorem wrong_sh {h : Sh} (ok : ShOk h) : wrongM boundsM ((shI h).map PyData.int) = none := by
  have o1 := ok.r
  have o2 := ok.e
  have o3 := ok.f
  have o4 := ok.b
  have o5 := ok.c
  have b : ∀ (lo hi : Int) (n : Nat), lo ≤ n → (n : Int) ≤ hi → wrongM.wholeB lo hi (.int n) = true := fun lo hi n h1 h2 => by
    show (decide (lo ≤ (n : Int)) && decide ((n : Int) ≤ hi)) = true
    rw [decide_eq_true h1, decide_eq_true h2]; rfl
  show wrongM boundsM [.int h.r, .int h.e, .int h.f, .int h.b, .int h.c] = none
  unfold boundsM
  simp only [wrongM]
  rw [if_pos (b 2 8 h.r (by omega) (by omega)), if_pos (b 2 8 h.e (by omega) (by omega)), if_pos (b 2 8 h.f (by omega) (by omega)), if_pos (b 1 8 h.b (by omega) (by omega)), if_pos (b 2 64 h.c (by omega) (by omega))]
theorem wrongM_short {ds : List PyData} {w : Str} (h : wrongM boundsM ds = some w) : w.length ≤ 50 := by
  have key : ∀ (bs : List (Str × Int × Int)) (ds : List PyData), wrongM bs ds = some w → w ∈ bs.map (·.1) := by
    intro bs
    induction bs with
    | nil => intro ds h; cases ds <;> cases h
    | cons b bs ih =>
      intro ds h
      obtain ⟨n, lo, hi⟩ := b
      cases ds with
      | nil => cases h
      | cons d ds =>
        have h : (if wrongM.wholeB lo hi d = true then wrongM bs ds else some n) = some w := h
        split at h
        · exact List.mem_cons_of_mem _ (ih ds h)
        · cases h; exact List.mem_cons_self
  have := key _ _ h
  simp only [boundsM, List.map_cons, List.map_nil, List.mem_cons, List.not_mem_nil, or_false] at this
  rcases this with rfl | rfl | rfl | rfl | rfl <;> decide +kernel
noncomputable def sp_Shape_initE (cN : Addr) : Sp := fun vs H _ E => ∃ (x : Addr) (v1 v2 v3 v4 v5 : V) (ds : List PyData) (w : Str), vs = [.ref x, v1, v2, v3, v4, v5] ∧ DtAll H [v1, v2, v3, v4, v5] ds ∧ ds.length = 5 ∧ (∀ d ∈ ds, Eas 4 d) ∧ wrongM boundsM ds = some w ∧ Raised H cN "name" w E

noncomputable def repS (a b c d e : Int) : Str := Str.empty ++ "Shape(" ++ toString a ++ ", " ++ toString b ++ ", " ++ toString c ++ ", " ++ toString d ++ ", " ++ toString e ++ ")"
noncomputable def sp_Shape_repr (C : Addr) : Sp := fun vs H Q _ => ∃ (x : Addr) (h : Sh), vs = [.ref x] ∧ ShAt C H x h ∧ ShOk h ∧ Q (.str (repS h.r h.e h.f h.b h.c)) H
theorem numLen : ∀ n : Fin 65, ((toString ((n : Nat) : Int) : String) : Str).length ≤ 2 := by decide +kernel
theorem num_len {n : Nat} (h : n ≤ 64) : ((toString (n : Int) : String) : Str).length ≤ 2 := numLen ⟨n, by omega⟩
theorem num_log {n : Nat} (h : n ≤ 64) : (n : Int).natAbs.log2 < 1920 := by
  rw [Int.natAbs_natCast]
  exact Nat.lt_of_le_of_lt (Nat.log2_le_self n) (by omega)
theorem whole_int {lo hi : Int} {d : PyData} (h : wrongM.wholeB lo hi d = true) : ∃ i, d = .int i ∧ lo ≤ i ∧ i ≤ hi := by
  cases d with
  | int i =>
    have h : (decide (lo ≤ i) && decide (i ≤ hi)) = true := h
    rw [Bool.and_eq_true, decide_eq_true_eq, decide_eq_true_eq] at h
    exact ⟨i, rfl, h.1, h.2⟩
  | _ => cases h
theorem good_five {ds : List PyData} (l : ds.length = 5) (h : wrongM boundsM ds = none) : ∃ s : Sh, ShOk s ∧ ds = (shI s).map PyData.int := by
  obtain ⟨a, b, c, d, e, rfl⟩ : ∃ a b c d e, ds = [a, b, c, d, e] := by
    match ds, l with
    | [a, b, c, d, e], _ => exact ⟨a, b, c, d, e, rfl⟩
  unfold boundsM at h
  simp only [wrongM] at h
  split at h
  · rename_i h1
    split at h
    · rename_i h2
      split at h
      · rename_i h3
        split at h
        · rename_i h4
          split at h
          · rename_i h5
            obtain ⟨i1, rfl, a1, b1⟩ := whole_int h1
            obtain ⟨i2, rfl, a2, b2⟩ := whole_int h2
            obtain ⟨i3, rfl, a3, b3⟩ := whole_int h3
            obtain ⟨i4, rfl, a4, b4⟩ := whole_int h4
            obtain ⟨i5, rfl, a5, b5⟩ := whole_int h5
            refine ⟨⟨i1.toNat, i2.toNat, i3.toNat, i4.toNat, i5.toNat⟩, ⟨by show 2 ≤ i1.toNat ∧ i1.toNat ≤ 8; omega, by show 2 ≤ i2.toNat ∧ i2.toNat ≤ 8; omega, by show 2 ≤ i3.toNat ∧ i3.toNat ≤ 8; omega, by show 1 ≤ i4.toNat ∧ i4.toNat ≤ 8; omega, by show 2 ≤ i5.toNat ∧ i5.toNat ≤ 64; omega⟩, ?_⟩
            show _ = [PyData.int (i1.toNat : Nat), .int (i2.toNat : Nat), .int (i3.toNat : Nat), .int (i4.toNat : Nat), .int (i5.toNat : Nat)]
            rw [Int.toNat_of_nonneg (by omega), Int.toNat_of_nonneg (by omega), Int.toNat_of_nonneg (by omega), Int.toNat_of_nonneg (by omega), Int.toNat_of_nonneg (by omega)]
          · cases h
        · cases h
      · cases h
    · cases h
  · cases h
theorem ints_of5 {H : Hp} : ∀ {is : List Int} {vs : List V}, DtAll H vs (is.map PyData.int) → vs = is.map V.int
  | [], _, .nil => rfl
  | i :: is, _, .cons h r => by cases h; rw [ints_of5 r]; rfl

noncomputable def sp_law_made05 (C : Addr) : Sp := fun vs H Q _ => ∃ (p : Addr) (xs : List V) (ds : List PyData), vs = [.ref p] ∧ H p = some (.lst xs) ∧ DtAll H xs ds ∧ ds.length = 5 ∧ (∀ d ∈ ds, Eas 4 d) ∧
  (∀ w, wrongM boundsM ds = some w → ∀ l H', Same H H' → H l = none → H' l = some (.lst [.str w]) → Q (.ref l) H') ∧
  (∀ h : Sh, ShOk h → ds = (shI h).map PyData.int → ∀ x H', H x = none → Same H H' → ShAt C H' x h → Q (.ref x) H')

noncomputable def sp_law_is05 (C : Addr) : Sp := fun vs H Q _ => ∃ (x p : Addr) (h : Sh), vs = [.ref x, .ref p] ∧ ShAt C H x h ∧ ShOk h ∧ H p = some (.lst ((shI h).map V.int)) ∧ ∀ H', Same H H' → Q (.bl true) H'
theorem rep_join (a b c d e : Str) : Str.empty ++ "Shape(" ++ a ++ ", " ++ b ++ ", " ++ c ++ ", " ++ d ++ ", " ++ e ++ ")" = ("Shape(" ++ Txt.join ", " [a, b, c, d, e]) ++ ")" := by
  refine TL.ext_tl ?_
  have e0 : TL.tl Str.empty = [] := by decide +kernel
  rw [TL.join_eq]
  simp only [TL.tl_append, TL.tl_join, TL.joinL, List.map_cons, List.map_nil, List.append_assoc, e0, List.nil_append]

noncomputable def sp_left05 (C : Addr) : Sp := fun vs H Q _ => ∃ (b p : Addr) (h : Sh), vs = [.ref b, .ref p] ∧ Bag H b ∧ ShOk h ∧ H p = some (.lst ((shI h).map V.int)) ∧
  ∀ q x l (h' : Sh) H', H' q = some (.tup [.ref x, .ref l]) → ShAt C H' x h' → ShOk h' → H' l = some (.lst ((shI h').map V.int)) → Eff b H H' → Q (.ref q) H'
noncomputable def sp_law_due05 : Sp := fun vs H Q _ => ∃ (p : Addr) (xs : List V) (ds : List PyData), vs = [.ref p] ∧ H p = some (.lst xs) ∧ DtAll H xs ds ∧ ds.length = 5 ∧ (∀ d ∈ ds, Eas 4 d) ∧
  ∀ l H', Same H H' → H' l = some (.lst (match wrongM boundsM ds with | none => [] | some w => [.str w])) → Q (.ref l) H'

structure K5 (C : Addr) (H : Hp) (S F : Addr) (as ps : List Addr) (hs : List Sh) : Prop where
  s : H S = some (.lst (as.map V.ref))
  f : H F = some (.lst (ps.map V.ref))
  la : as.length = hs.length
  lp : ps.length = hs.length
  n : S ≠ F
  sh : ∀ (j : Nat) (x : Addr) (h : Sh), as[j]? = some x → hs[j]? = some h → ShAt C H x h ∧ ShOk h
  fi : ∀ (j : Nat) (p : Addr) (h : Sh), ps[j]? = some p → hs[j]? = some h → H p = some (.lst ((shI h).map V.int)) ∧ p ≠ S ∧ p ≠ F
theorem K5.same {C : Addr} {H H' : Hp} {S F : Addr} {as ps : List Addr} {hs : List Sh} (k : K5 C H S F as ps hs) (e : Same H H') : K5 C H' S F as ps hs :=
  ⟨e _ _ k.s, e _ _ k.f, k.la, k.lp, k.n, fun j x h h1 h2 => ⟨let ⟨dx, t, e1, e2⟩ := (k.sh j x h h1 h2).1; ⟨dx, t, e _ _ e1, e _ _ e2⟩, (k.sh j x h h1 h2).2⟩, fun j p h h1 h2 => ⟨e _ _ (k.fi j p h h1 h2).1, (k.fi j p h h1 h2).2⟩⟩
theorem shAt_upd {C : Addr} {H : Hp} {S x : Addr} {h : Sh} {xs ys : List V} (e : ShAt C H x h) (s : H S = some (.lst xs)) : ShAt C (upd H S (.lst ys)) x h := by
  obtain ⟨dx, t, e1, e2⟩ := e
  refine ⟨dx, t, ?_, ?_⟩
  · rw [upd_ne (fun z => by rw [z, s] at e1; cases e1)]; exact e1
  · rw [upd_ne (fun z => by rw [z, s] at e2; cases e2)]; exact e2
theorem K5.snoc {C : Addr} {H : Hp} {S F x p : Addr} {as ps : List Addr} {hs : List Sh} {h : Sh} (k : K5 C H S F as ps hs) (hx : ShAt C H x h) (ok : ShOk h) (hp : H p = some (.lst ((shI h).map V.int))) (n1 : p ≠ S) (n2 : p ≠ F) :
    K5 C (upd (upd H S (.lst (as.map V.ref ++ [.ref x]))) F (.lst (ps.map V.ref ++ [.ref p]))) S F (as ++ [x]) (ps ++ [p]) (hs ++ [h]) := by
  have fS : (upd H S (.lst (as.map V.ref ++ [.ref x]))) F = some (.lst (ps.map V.ref)) := by rw [upd_ne k.n.symm]; exact k.f
  have up : ∀ {q : Addr} {o : HO}, q ≠ S → q ≠ F → H q = some o → upd (upd H S (.lst (as.map V.ref ++ [.ref x]))) F (.lst (ps.map V.ref ++ [.ref p])) q = some o := fun a b e => by rw [upd_ne b, upd_ne a]; exact e
  have cut : ∀ {α : Type} {l : List α} {a b : α} {j : Nat}, (l ++ [a])[j]? = some b → (l[j]? = some b) ∨ (j = l.length ∧ b = a) := fun {α l a b j} e => by
    by_cases q : j < l.length
    · rw [List.getElem?_append_left q] at e; exact .inl e
    · rw [List.getElem?_append_right (by omega)] at e
      have := (List.getElem?_eq_some_iff.mp e).1
      simp at this
      have j0 : j - l.length = 0 := by omega
      rw [j0] at e
      cases e
      exact .inr ⟨by omega, rfl⟩
  refine ⟨by rw [upd_ne k.n, upd_same, List.map_append]; rfl, by rw [upd_same, List.map_append]; rfl, by rw [List.length_append, List.length_append, k.la]; rfl, by rw [List.length_append, List.length_append, k.lp]; rfl, k.n, fun j y g h1 h2 => ?_, fun j y g h1 h2 => ?_⟩
  · rcases cut h1 with q1 | ⟨q1, rfl⟩ <;> rcases cut h2 with q2 | ⟨q2, rfl⟩
    · exact ⟨shAt_upd (shAt_upd (k.sh j y g q1 q2).1 k.s) fS, (k.sh j y g q1 q2).2⟩
    · have := (List.getElem?_eq_some_iff.mp q1).1; have := k.la; omega
    · have := (List.getElem?_eq_some_iff.mp q2).1; have := k.la; omega
    · exact ⟨shAt_upd (shAt_upd hx k.s) fS, ok⟩
  · rcases cut h1 with q1 | ⟨q1, rfl⟩ <;> rcases cut h2 with q2 | ⟨q2, rfl⟩
    · obtain ⟨a1, a2, a3⟩ := k.fi j y g q1 q2
      exact ⟨up a2 a3 a1, a2, a3⟩
    · have := (List.getElem?_eq_some_iff.mp q1).1; have := k.lp; omega
    · have := (List.getElem?_eq_some_iff.mp q2).1; have := k.lp; omega
    · exact ⟨up n1 n2 hp, n1, n2⟩
theorem DtAll.set {H : Hp} {v : V} {d : PyData} (h : Dt H v d) : ∀ {xs : List V} {ds : List PyData} (j : Nat), DtAll H xs ds → DtAll H (xs.set j v) (ds.set j d)
  | _, _, _, .nil => .nil
  | _, _, 0, .cons _ r => .cons h r
  | _, _, j + 1, .cons a r => .cons a (DtAll.set h j r)
theorem hide2_same {H H' : Hp} {b B : Addr} (k : ∀ c o, c ≠ b → c ≠ B → H c = some o → H' c = some o) : Same (hide (hide H b) B) (hide (hide H' b) B) := fun c o e => by
  obtain ⟨e1, n1⟩ := hide_of e
  obtain ⟨e2, n2⟩ := hide_of e1
  exact hide_at (hide_at (k c o n2 n1 e2) n2) n1

structure Bent5 (H0 : Hp) (b B : Addr) (H : Hp) : Prop where
  bag : Bag H b
  keep : ∀ c o, c ≠ b → c ≠ B → H0 c = some o → H c = some o
  dat : ∃ xs ds, H B = some (.lst xs) ∧ DtAll (hide (hide H b) B) xs ds ∧ ds.length = 5 ∧ ∀ d ∈ ds, Eas 4 d
theorem wrongM_eas {ds : List PyData} {w : Str} (h : wrongM boundsM ds = some w) : Eas 0 (.str w) := by
  have key : ∀ (bs : List (Str × Int × Int)) (ds : List PyData), wrongM bs ds = some w → w ∈ bs.map (·.1) := by
    intro bs
    induction bs with
    | nil => intro ds h; cases ds <;> cases h
    | cons b bs ih =>
      intro ds h
      obtain ⟨n, lo, hi⟩ := b
      cases ds with
      | nil => cases h
      | cons d ds =>
        have h : (if wrongM.wholeB lo hi d = true then wrongM bs ds else some n) = some w := h
        split at h
        · exact List.mem_cons_of_mem _ (ih ds h)
        · cases h; exact List.mem_cons_self
  have := key _ _ h
  simp only [boundsM, List.map_cons, List.map_nil, List.mem_cons, List.not_mem_nil, or_false] at this
  rcases this with rfl | rfl | rfl | rfl | rfl <;> exact ⟨by decide +kernel, by decide +kernel, by decide +kernel, by decide +kernel⟩
theorem eqv_lt (a b : List PyData) : PyData.eqv (.tuple a) (.tuple b) = PyData.eqv (.list a) (.list b) := by rfl
theorem shD_eqv (h g : Sh) : PyData.eqv (shD h) (shD g) = decide (shI h = shI g) := by
  show PyData.eqv (.tuple [.int h.r, .int h.e, .int h.f, .int h.b, .int h.c]) (.tuple [.int g.r, .int g.e, .int g.f, .int g.b, .int g.c]) = _
  simp [PyData.eqv, PyData.eqvAll, shI]
  rfl
theorem sh_inj {h g : Sh} (e : (shI h).map PyData.int = (shI g).map PyData.int) : h = g := by
  obtain ⟨a1, a2, a3, a4, a5⟩ := h
  obtain ⟨b1, b2, b3, b4, b5⟩ := g
  simp [shI] at e
  obtain ⟨e1, e2, e3, e4, e5⟩ := e
  have f1 : a1 = b1 := by omega
  have f2 : a2 = b2 := by omega
  have f3 : a3 = b3 := by omega
  have f4 : a4 = b4 := by omega
  have f5 : a5 = b5 := by omega
  subst f1 f2 f3 f4 f5
  rfl
theorem rep_short {h : Sh} (ok : ShOk h) : (repS h.r h.e h.f h.b h.c).length ≤ 1000 := by
  have o1 := ok.r
  have o2 := ok.e
  have o3 := ok.f
  have o4 := ok.b
  have o5 := ok.c
  have l1 := num_len (show h.r ≤ 64 by omega)
  have l2 := num_len (show h.e ≤ 64 by omega)
  have l3 := num_len (show h.f ≤ 64 by omega)
  have l4 := num_len (show h.b ≤ 64 by omega)
  have l5 := num_len (show h.c ≤ 64 by omega)
  have z0 : Str.empty.length = 0 := by decide +kernel
  have z1 : ("Shape(" : Str).length = 6 := by decide +kernel
  have z2 : (", " : Str).length = 2 := by decide +kernel
  have z3 : (")" : Str).length = 1 := by decide +kernel
  unfold repS
  simp only [Str.length_append, z0, z1, z2, z3]
  omega
end My

set_option Elab.async false
set_option linter.all false
set_option maxRecDepth 100000
namespace My
open PySem PySem.Spec PyProof.Rows L2
noncomputable def top (i : Nat) : Stmt := PySem.Challenge.pw_whatindex_k05_shapes.main.body.getD i (.Pass ⟨0, 0, 0, 0⟩)
noncomputable abbrev s_NoShape___init__ : Stmt := inClass (top 1) 0
noncomputable abbrev s_is_whole : Stmt := top 6
noncomputable abbrev s_first_wrong : Stmt := top 9
noncomputable abbrev s_Shape___init__ : Stmt := inClass (top 10) 0
noncomputable abbrev s_Shape_rows : Stmt := inClass (top 10) 1
noncomputable abbrev s_Shape_entries : Stmt := inClass (top 10) 2
noncomputable abbrev s_Shape_fan : Stmt := inClass (top 10) 3
noncomputable abbrev s_Shape_buckets : Stmt := inClass (top 10) 4
noncomputable abbrev s_Shape_bits : Stmt := inClass (top 10) 5
noncomputable abbrev s_Shape___eq__ : Stmt := inClass (top 10) 6
noncomputable abbrev s_Shape___repr__ : Stmt := inClass (top 10) 7
noncomputable abbrev s_law_bag : Stmt := top 12
noncomputable abbrev s_law_take : Stmt := top 13
noncomputable abbrev s_law_whole : Stmt := top 14
noncomputable abbrev s_law_made : Stmt := top 15
noncomputable abbrev s_law_due : Stmt := top 16
noncomputable abbrev s_law_is : Stmt := top 17
noncomputable abbrev s_law_left_out : Stmt := top 18
noncomputable abbrev s_law : Stmt := top 19
structure Txt (K : PySem.W.Frag) (mg : Str → Option Value) (a_BOUNDS : Addr) (a_BOUNDS_0 : Addr) (a_BOUNDS_1 : Addr) (a_BOUNDS_2 : Addr) (a_BOUNDS_3 : Addr) (a_BOUNDS_4 : Addr) (a_Shape : Addr) (a_NoShape : Addr) (a_NoStore : Addr) (a_NoRow : Addr) (a_NoDesign : Addr) (kA_Shape___init__ : Addr) : Prop where
  z_ValueError : mg "ValueError" = none
  z_abs : mg "abs" = none
  z_all : mg "all" = none
  z_any : mg "any" = none
  z_bool : mg "bool" = none
  z_int : mg "int" = none
  z_isinstance : mg "isinstance" = none
  z_len : mg "len" = none
  z_list : mg "list" = none
  z_max : mg "max" = none
  z_min : mg "min" = none
  z_range : mg "range" = none
  z_repr : mg "repr" = none
  z_str : mg "str" = none
  z_tuple : mg "tuple" = none
  z_zip : mg "zip" = none
  g_BOUNDS : mg "BOUNDS" = some (.ref a_BOUNDS)
  q_BOUNDS_0 : ∃ (o : Obj) (its : Array Value) (n : Nat), K.lookup a_BOUNDS_0 = some o ∧ o.cls = .type "tuple" ∧ o.data = .seq its n ∧ its.size ≤ sizeLine ∧ Vals [V.str "rows", V.int 2, V.int 8] its.toList
  q_BOUNDS_1 : ∃ (o : Obj) (its : Array Value) (n : Nat), K.lookup a_BOUNDS_1 = some o ∧ o.cls = .type "tuple" ∧ o.data = .seq its n ∧ its.size ≤ sizeLine ∧ Vals [V.str "entries", V.int 2, V.int 8] its.toList
  q_BOUNDS_2 : ∃ (o : Obj) (its : Array Value) (n : Nat), K.lookup a_BOUNDS_2 = some o ∧ o.cls = .type "tuple" ∧ o.data = .seq its n ∧ its.size ≤ sizeLine ∧ Vals [V.str "fan", V.int 2, V.int 8] its.toList
  q_BOUNDS_3 : ∃ (o : Obj) (its : Array Value) (n : Nat), K.lookup a_BOUNDS_3 = some o ∧ o.cls = .type "tuple" ∧ o.data = .seq its n ∧ its.size ≤ sizeLine ∧ Vals [V.str "buckets", V.int 1, V.int 8] its.toList
  q_BOUNDS_4 : ∃ (o : Obj) (its : Array Value) (n : Nat), K.lookup a_BOUNDS_4 = some o ∧ o.cls = .type "tuple" ∧ o.data = .seq its n ∧ its.size ≤ sizeLine ∧ Vals [V.str "bits", V.int 2, V.int 64] its.toList
  q_BOUNDS : ∃ (o : Obj) (its : Array Value) (n : Nat), K.lookup a_BOUNDS = some o ∧ o.cls = .type "tuple" ∧ o.data = .seq its n ∧ its.size ≤ sizeLine ∧ Vals [V.ref a_BOUNDS_0, V.ref a_BOUNDS_1, V.ref a_BOUNDS_2, V.ref a_BOUNDS_3, V.ref a_BOUNDS_4] its.toList
  cl_Shape : Cls K a_Shape
  mg_Shape : mg "Shape" = some (.ref a_Shape)
  oc_Shape : OCls K a_Shape
  on_Shape : PySem.W.findIn K (.ref a_Shape) "__ne__" = some (some (.builtin "object.__ne__"))
  na_Shape_measures : NoAttr K a_Shape "measures"
  xc_NoShape : XCls K a_NoShape
  mg_NoShape : mg "NoShape" = some (.ref a_NoShape)
  xb_NoShape : XBase K a_NoShape "ValueError" "ValueError.__init__"
  xt_NoShape : PySem.W.XSet K a_NoShape
  xc_NoStore : XCls K a_NoStore
  mg_NoStore : mg "NoStore" = some (.ref a_NoStore)
  xc_NoRow : XCls K a_NoRow
  mg_NoRow : mg "NoRow" = some (.ref a_NoRow)
  xc_NoDesign : XCls K a_NoDesign
  mg_NoDesign : mg "NoDesign" = some (.ref a_NoDesign)
  xk_NoShape_NoDesign : PySem.W.kitOne K (.ref a_NoShape) (.ref a_NoDesign) = some false
  xk_NoShape_NoRow : PySem.W.kitOne K (.ref a_NoShape) (.ref a_NoRow) = some false
  xk_NoShape_NoStore : PySem.W.kitOne K (.ref a_NoShape) (.ref a_NoStore) = some false
  xk_NoShape_ValueError : PySem.W.kitOne K (.ref a_NoShape) (.type "ValueError") = some true
  xm_NoShape_NoShape : PySem.W.exmOne K (.ref a_NoShape) (.ref a_NoShape) = some true
  na_NoShape_name : NoAttr K a_NoShape "name"
  kk_Shape___init__ : ∃ (c : Value) (dd : Option Addr) (n : Nat) (sl : Array (Option Value)) (h0 : Int) (t0 : Tok) (h1 : Int) (t1 : Tok) (h2 : Int) (t2 : Tok) (h3 : Int) (t3 : Tok) (h4 : Int) (t4 : Tok) (td_Shape___init___rows : Tok) (td_Shape___init___entries : Tok) (td_Shape___init___fan : Tok) (td_Shape___init___buckets : Tok) (td_Shape___init___bits : Tok), K.lookup kA_Shape___init__ = some ⟨c, dd, .dict #[⟨h0, .str "rows" t0, (Value.int 4 td_Shape___init___rows)⟩, ⟨h1, .str "entries" t1, (Value.int 4 td_Shape___init___entries)⟩, ⟨h2, .str "fan" t2, (Value.int 3 td_Shape___init___fan)⟩, ⟨h3, .str "buckets" t3, (Value.int 4 td_Shape___init___buckets)⟩, ⟨h4, .str "bits" t4, (Value.int 16 td_Shape___init___bits)⟩] n, sl⟩
  d_NoShape___init__ : ∃ fa fd, XIDef K a_NoShape "NoShape.__init__" s_NoShape___init__ fa fd
  d_is_whole : ∃ fa fd, Def K mg "is_whole" s_is_whole fa fd
  d_first_wrong : ∃ fa fd, Def K mg "first_wrong" s_first_wrong fa fd
  d_Shape___init__ : ∃ fa fd, MkDefD K a_Shape "Shape.__init__" s_Shape___init__ .none (.ref kA_Shape___init__) fa fd
  d_Shape_rows : ∃ fa fd, PDef K a_Shape "rows" "Shape.rows" s_Shape_rows fa fd
  d_Shape_entries : ∃ fa fd, PDef K a_Shape "entries" "Shape.entries" s_Shape_entries fa fd
  d_Shape_fan : ∃ fa fd, PDef K a_Shape "fan" "Shape.fan" s_Shape_fan fa fd
  d_Shape_buckets : ∃ fa fd, PDef K a_Shape "buckets" "Shape.buckets" s_Shape_buckets fa fd
  d_Shape_bits : ∃ fa fd, PDef K a_Shape "bits" "Shape.bits" s_Shape_bits fa fd
  d_Shape___eq__ : ∃ fa fd, MDef K a_Shape "__eq__" "Shape.__eq__" s_Shape___eq__ fa fd
  d_Shape___repr__ : ∃ fa fd, MDef K a_Shape "__repr__" "Shape.__repr__" s_Shape___repr__ fa fd
  d_law_bag : ∃ fa fd, Def K mg "_law_bag" s_law_bag fa fd
  d_law_take : ∃ fa fd, Def K mg "_law_take" s_law_take fa fd
  d_law_whole : ∃ fa fd, Def K mg "_law_whole" s_law_whole fa fd
  d_law_made : ∃ fa fd, Def K mg "_law_made" s_law_made fa fd
  d_law_due : ∃ fa fd, Def K mg "_law_due" s_law_due fa fd
  d_law_is : ∃ fa fd, Def K mg "_law_is" s_law_is fa fd
  d_law_left_out : ∃ fa fd, Def K mg "_law_left_out" s_law_left_out fa fd
section
variable {P : Program} {w : World} {K : PySem.W.Frag} {mg : Str → Option Value} {base : Heap} {a_BOUNDS : Addr} {a_BOUNDS_0 : Addr} {a_BOUNDS_1 : Addr} {a_BOUNDS_2 : Addr} {a_BOUNDS_3 : Addr} {a_BOUNDS_4 : Addr} {a_Shape : Addr} {a_NoShape : Addr} {a_NoStore : Addr} {a_NoRow : Addr} {a_NoDesign : Addr} {kA_Shape___init__ : Addr}
theorem sc_NoShape___init__ : FnScope ["self", "name"] ["self", "name"] (defScope s_NoShape___init__) := ⟨rfl, rfl, rfl, by decide +kernel, rfl, by decide +kernel, by decide +kernel⟩

set_option maxHeartbeats 8000000 in
theorem ok_NoShape___init__ {fa : Addr} {fd : FuncData} (T : Txt K mg a_BOUNDS a_BOUNDS_0 a_BOUNDS_1 a_BOUNDS_2 a_BOUNDS_3 a_BOUNDS_4 a_Shape a_NoShape a_NoStore a_NoRow a_NoDesign kA_Shape___init__) (D : XIDef K a_NoShape "NoShape.__init__" s_NoShape___init__ fa fd) : FnOk P w K mg base CX0 1 fa fd ["self", "name"] (sp_exc_init a_NoShape "name") := by
  refine D.fn.ok sc_NoShape___init__ (fun vs H Q E h => ?_) (fun cdv A outer s H vs Q E hr h => ?_)
  · obtain ⟨x, w, rfl, _⟩ := h
    rfl
  ·
    obtain ⟨x, w, rfl, hx, hl, k⟩ := h
    refine ⟨_, (pss_cons (ps_expr (pe_binit T.xb_NoShape (by rfl) T.z_ValueError bt_ValueError (pa_cons (pv 0) (pa_cons (pe_fstr (pj_cons (pe_fmt (pv 1)) (pj_cons pe_str pj_nil))) pa_nil))))
    (pss_one (ps_xfld T.xt_NoShape (pv 0) (pv 1) rfl))), ?_⟩
    have h2 : (" is no such number of a shape" : Str).length = 29 := by decide +kernel
    have h0 : Str.empty.length = 0 := by decide +kernel
    refine ⟨_, rfl, _, rfl, .inl ⟨w, rfl, Nat.le_trans hl (by decide), w, rfl, ?_, _, rfl, ?_, ?_, ?_⟩⟩
    · rw [Str.length_append, h0]; exact Nat.le_trans (show _ ≤ 100 by omega) (by decide)
    · rw [Str.length_append, Str.length_append, h0, h2]; exact Nat.le_trans (show _ ≤ 100 by omega) (by decide)
    · rw [Str.length_append, Str.length_append, h0, h2]; exact Nat.le_trans (show _ ≤ 100 by omega) (by decide)
    refine ⟨x, none, _, rfl, hx, by show 1 ≤ sizeLine; decide, ?_⟩
    exact ⟨_, rfl, _, rfl, x, rfl, hx, T.na_NoShape_name.taker, k⟩
theorem sc_is_whole : FnScope ["thing"] ["thing"] (defScope s_is_whole) := ⟨rfl, rfl, rfl, by decide +kernel, rfl, by decide +kernel, by decide +kernel⟩

set_option maxHeartbeats 8000000 in
theorem ok_is_whole {fa : Addr} {fd : FuncData} (T : Txt K mg a_BOUNDS a_BOUNDS_0 a_BOUNDS_1 a_BOUNDS_2 a_BOUNDS_3 a_BOUNDS_4 a_Shape a_NoShape a_NoStore a_NoRow a_NoDesign kA_Shape___init__) (D : Def K mg "is_whole" s_is_whole fa fd) : FnOk P w K mg base CX0 1 fa fd ["thing"] sp_is_whole := by
  refine D.fn.ok sc_is_whole (fun vs H Q E h => ?_) (fun cdv A outer s H vs Q E hr h => ?_)
  · obtain ⟨v, rfl, _⟩ := h
    rfl
  ·
    obtain ⟨v, rfl, hv, k⟩ := h
    refine ⟨_, (pss_one (ps_ret (pe_and (pe_callB call_isT (by rfl) T.z_isinstance bt_isinstance (pa_cons (pv 0) (pa_cons (pe_bltn (v := V.ty "int") (by rfl) T.z_int bt_int rfl) pa_nil))) (pe_one (pe_not (pe_callB call_isT (by rfl) T.z_isinstance bt_isinstance (pa_cons (pv 0) (pa_cons (pe_bltn (v := V.ty "bool") (by rfl) T.z_bool bt_bool rfl) pa_nil)))))))), ?_⟩
    refine ⟨_, rfl, _, _, rfl, hv, rfl, _, rfl, ?_⟩
    rcases inst_int hv with ⟨i, rfl, e1, e2⟩ | ⟨b, rfl, e1, e2⟩ | ⟨e1, e2, e3⟩
    · rw [e1]
      refine iteT ⟨_, rfl, _, _, rfl, hv, rfl, _, rfl, ?_⟩
      rw [e2]
      exact k
    · rw [e1]
      refine iteT ⟨_, rfl, _, _, rfl, hv, rfl, _, rfl, ?_⟩
      rw [e2]
      exact k
    · rw [e1]
      refine iteF ?_
      rw [e3] at k
      exact k
theorem sc_first_wrong : FnScope ["measures", "name", "least", "greatest", "thing"] ["measures"] (defScope s_first_wrong) := ⟨rfl, rfl, rfl, by decide +kernel, rfl, by decide +kernel, by decide +kernel⟩

set_option maxHeartbeats 8000000 in
theorem okX_first_wrong {fa : Addr} {fd : FuncData} (T : Txt K mg a_BOUNDS a_BOUNDS_0 a_BOUNDS_1 a_BOUNDS_2 a_BOUNDS_3 a_BOUNDS_4 a_Shape a_NoShape a_NoStore a_NoRow a_NoDesign kA_Shape___init__) (D : Def K mg "first_wrong" s_first_wrong fa fd) : FnOk P w K mg base CX0 2 fa fd ["measures"] sp_first_wrongD := by
  obtain ⟨fa_is_whole, fd_is_whole, D_is_whole⟩ := T.d_is_whole
  have G_is_whole := ok_is_whole (P := P) (w := w) (base := base) T D_is_whole
  have b_is_whole := D_is_whole.fn.binds (ps := ["thing"]) fun _ _ _ _ _ _ us hl => match us, hl with | [_], _ => rfl
  refine D.fn.ok sc_first_wrong (fun vs H Q E h => ?_) (fun cdv A outer s H vs Q E hr h => ?_)
  · obtain ⟨t, xs, ds, rfl, _⟩ := h
    rfl
  ·
    have r_is_whole : Room 1 _ := hr.mono (by decide)
    obtain ⟨t, xs, ds, rfl, ht, hx, l5, es, k⟩ := h
    refine ⟨_, (pss_cons (ps_for PassesOwn.never rfl (pi_zip2 (by rfl) T.z_zip (pa_cons (pe_glob (v := V.ref a_BOUNDS) (by rfl) T.g_BOUNDS rfl) (pa_cons (pv 0) pa_nil))) (pg_tupK (K := K) (n := 2) (by rfl) (pgs_cons (pg_tupK (K := K) (n := 3) (by rfl) (pgs_cons (pg_name (i := 1) sc_first_wrong.nd rfl (by first | exact Or.inl rfl | exact Or.inr rfl)) (pgs_cons (pg_name (i := 2) sc_first_wrong.nd rfl (by first | exact Or.inl rfl | exact Or.inr rfl)) (pgs_cons (pg_name (i := 3) sc_first_wrong.nd rfl (by first | exact Or.inl rfl | exact Or.inr rfl)) pgs_nil)))) (pgs_cons (pg_name (i := 4) sc_first_wrong.nd rfl (by first | exact Or.inl rfl | exact Or.inr rfl)) pgs_nil)))
      (pss_one (ps_if (PW.pt (pw_or (pt_not (pt_val (pe_call G_is_whole r_is_whole (by rfl) D_is_whole.mg D_is_whole.fn.kp b_is_whole .nil pass0 (pa_cons (pv 4) pa_nil)))) (pw_or1 (pt_not (pt_chain op_le op_le (pv 2) (pv 4) (pv 3))))))
      (pss_one (ps_ret (pv 1)))
      pss_nil)))
    (pss_one (ps_ret pe_non))), ?_⟩
    have xl := hx.length
    refine ⟨_, rfl, (false, a_BOUNDS), (false, t), _, _, rfl, .inr T.q_BOUNDS, SqS.tup ht, for_zip2 (K := K) (c1 := (false, a_BOUNDS)) (c2 := (false, t)) (fun i σ H' => ∃ v1 v2 v3 v4, σ = [some (.ref t), v1, v2, v3, v4] ∧ Same H H' ∧ wrongM boundsM ds = wrongM (boundsM.drop i) (ds.drop i)) ⟨_, _, _, _, rfl, Same.refl _, rfl⟩ (fun i σ H' _ => .inr T.q_BOUNDS) (fun i σ H' ⟨_, _, _, _, _, s, _⟩ => SqS.tup (s _ _ ht)) ?_ ?_⟩
    · rintro i x y TT σ H1 hx' hy ⟨v1, v2, v3, v4, rfl, s1, ew⟩ hTT
      have s2 := s1.trans (same_new (o := HO.tup [x, y]) hTT)
      obtain ⟨d, hd, hdy⟩ := hx.get hy
      obtain ⟨b, nm, lo, hi, rfl, hb, hB⟩ : ∃ (b : Addr) (nm : Str) (lo hi : Int), x = .ref b ∧ (∀ H', SqT K H' b [.str nm, .int lo, .int hi]) ∧ boundsM.drop i = (nm, lo, hi) :: boundsM.drop (i + 1) := by
        match i, hx' with
        | 0, hx => cases hx; exact ⟨_, _, 2, 8, rfl, fun _ => .inr T.q_BOUNDS_0, rfl⟩
        | 1, hx => cases hx; exact ⟨_, _, 2, 8, rfl, fun _ => .inr T.q_BOUNDS_1, rfl⟩
        | 2, hx => cases hx; exact ⟨_, _, 2, 8, rfl, fun _ => .inr T.q_BOUNDS_2, rfl⟩
        | 3, hx => cases hx; exact ⟨_, _, 1, 8, rfl, fun _ => .inr T.q_BOUNDS_3, rfl⟩
        | 4, hx => cases hx; exact ⟨_, _, 2, 64, rfl, fun _ => .inr T.q_BOUNDS_4, rfl⟩
        | n + 5, hx => simp at hx
      have hdr : ds.drop i = d :: ds.drop (i + 1) := by
        have hl := (List.getElem?_eq_some_iff.mp hd).1
        rw [List.drop_eq_getElem_cons hl]
        have := (List.getElem?_eq_some_iff.mp hd).2
        rw [this]
      rw [hB, hdr] at ew
      have kbad : wrongM.wholeB lo hi d = false → ∀ H', Same H H' → Q (.str nm) H' := fun e H' s => by
        have kk := k H' s
        rw [ew] at kk
        have : wrongM ((nm, lo, hi) :: boundsM.drop (i + 1)) (d :: ds.drop (i + 1)) = some nm := by
          show (if wrongM.wholeB lo hi d = true then _ else some nm) = some nm
          rw [e]; rfl
        rw [this] at kk
        exact kk
      have kok : wrongM.wholeB lo hi d = true → wrongM boundsM ds = wrongM (boundsM.drop (i + 1)) (ds.drop (i + 1)) := fun e => by
        rw [ew]
        show (if wrongM.wholeB lo hi d = true then wrongM (boundsM.drop (i + 1)) (ds.drop (i + 1)) else some nm) = _
        rw [if_pos e]
      refine ⟨TT, _, rfl, SqT.of upd_same, rfl, _, _, rfl, b, _, rfl, hb _, rfl, _, _, rfl, _, _, rfl, _, _, rfl, rfl, _, _, rfl, rfl, ?_⟩
      have hd2 := hdy.same s2
      refine ⟨_, rfl, y, rfl, hd2.tyd (es d (List.mem_of_getElem? hd)).sh, ?_⟩
      have kret : wrongM.wholeB lo hi d = false → Q (.str nm) (upd H1 TT (.tup [.ref b, y])) := fun e => kbad e _ s2
      have knext : wrongM.wholeB lo hi d = true → ∃ v1 v2 v3 v4, [some (V.ref t), some (.str nm), some (.int lo), some (.int hi), some y] = [some (.ref t), v1, v2, v3, v4] ∧ Same H (upd H1 TT (.tup [.ref b, y])) ∧ wrongM boundsM ds = wrongM (boundsM.drop (i + 1)) (ds.drop (i + 1)) := fun e => ⟨_, _, _, _, rfl, s2, kok e⟩
      clear kbad kok ew hB hdr k
      cases hd2 with
      | int w =>
        refine ⟨_, rfl, iteF ?_⟩
        refine ⟨_, rfl, _, rfl, _, _, rfl, rfl, _, rfl, ?_⟩
        have ew : wrongM.wholeB lo hi (.int w) = (decide (lo ≤ w) && decide (w ≤ hi)) := rfl
        cases h1 : decide (lo ≤ w) with
        | false =>
          refine iteF ?_
          rw [h1, Bool.false_and] at ew
          exact ⟨_, rfl, iteT ⟨_, rfl, kret ew⟩⟩
        | true =>
          rw [h1, Bool.true_and] at ew
          refine iteT ⟨_, rfl, _, _, rfl, rfl, _, rfl, ?_⟩
          cases h2 : decide (w ≤ hi) with
          | false => rw [h2] at ew; exact iteT ⟨_, rfl, kret ew⟩
          | true => rw [h2] at ew; exact iteF (nextK (knext ew))
      | _ => exact ⟨_, rfl, iteT (iteT ⟨_, rfl, kret rfl⟩)⟩
    · rintro σ H1 ⟨v1, v2, v3, v4, rfl, s1, ew⟩
      have kk := k _ s1
      have e5 : min ([V.ref a_BOUNDS_0, V.ref a_BOUNDS_1, V.ref a_BOUNDS_2, V.ref a_BOUNDS_3, V.ref a_BOUNDS_4] : List V).length xs.length = 5 := by rw [xl, l5]; rfl
      rw [ew, e5] at kk
      exact kk
theorem ok_first_wrong {fa : Addr} {fd : FuncData} (T : Txt K mg a_BOUNDS a_BOUNDS_0 a_BOUNDS_1 a_BOUNDS_2 a_BOUNDS_3 a_BOUNDS_4 a_Shape a_NoShape a_NoStore a_NoRow a_NoDesign kA_Shape___init__) (D : Def K mg "first_wrong" s_first_wrong fa fd) : FnOk P w K mg base CX0 2 fa fd ["measures"] sp_first_wrong := (okX_first_wrong T D).imp fun vs H Q E h => by
  obtain ⟨t, hh, rfl, ht, ok, k⟩ := h
  refine ⟨t, _, (shI hh).map PyData.int, rfl, ht, dt_ints H (shI hh), rfl, fun d hd => ?_, fun H' s => ?_⟩
  · obtain ⟨i, _, rfl⟩ := List.mem_map.mp hd
    exact Eas.int _ i
  · rw [wrong_sh ok]; exact k H' s
theorem sc_Shape___init__ : FnScope ["self", "rows", "entries", "fan", "buckets", "bits", "measures", "wrong"] ["self", "rows", "entries", "fan", "buckets", "bits"] (defScope s_Shape___init__) := ⟨rfl, rfl, rfl, by decide +kernel, rfl, by decide +kernel, by decide +kernel⟩

set_option maxHeartbeats 8000000 in
theorem ok_Shape___init__ {fa : Addr} {fd : FuncData} (T : Txt K mg a_BOUNDS a_BOUNDS_0 a_BOUNDS_1 a_BOUNDS_2 a_BOUNDS_3 a_BOUNDS_4 a_Shape a_NoShape a_NoStore a_NoRow a_NoDesign kA_Shape___init__) (D : MkDefD K a_Shape "Shape.__init__" s_Shape___init__ .none (.ref kA_Shape___init__) fa fd) : FnOk P w K mg base CX0 3 fa fd ["self", "rows", "entries", "fan", "buckets", "bits"] (sp_Shape___init__ a_Shape) := by
  obtain ⟨fa_first_wrong, fd_first_wrong, D_first_wrong⟩ := T.d_first_wrong
  have G_first_wrong := ok_first_wrong (P := P) (w := w) (base := base) T D_first_wrong
  have b_first_wrong := D_first_wrong.fn.binds (ps := ["measures"]) fun _ _ _ _ _ _ us hl => match us, hl with | [_], _ => rfl
  refine D.fn.ok sc_Shape___init__ (fun vs H Q E h => ?_) (fun cdv A outer s H vs Q E hr h => ?_)
  · obtain ⟨x, dx, hh, rfl, _⟩ := h
    rfl
  ·
    have r_first_wrong : Room 2 _ := hr.mono (by decide)
    obtain ⟨x, dx, hh, rfl, hx, ok, k⟩ := h
    refine ⟨_, (pss_cons (ps_asg (pe_tup (pa_cons (pv 1) (pa_cons (pv 2) (pa_cons (pv 3) (pa_cons (pv 4) (pa_cons (pv 5) pa_nil)))))) (pg_name (i := 6) sc_Shape___init__.nd rfl (by first | exact Or.inl rfl | exact Or.inr rfl)))
    (pss_cons (ps_asg (pe_call G_first_wrong r_first_wrong (by rfl) D_first_wrong.mg D_first_wrong.fn.kp b_first_wrong .nil pass0 (pa_cons (pv 6) pa_nil)) (pg_name (i := 7) sc_Shape___init__.nd rfl (by first | exact Or.inl rfl | exact Or.inr rfl)))
    (pss_cons (ps_if (pt_cmpR op_notN (pv 7) pe_non (nomark _))
      (pss_one ps_never)
      pss_nil)
    (pss_one (ps_fld (pv 0) (pv 6) rfl))))), ?_⟩
    refine ⟨_, rfl, _, rfl, _, rfl, _, rfl, _, rfl, by show 5 ≤ sizeLine; decide, fun t ht => ?_⟩
    have s1 := same_new (o := HO.tup (shV hh)) ht
    have nx : x ≠ t := ne_of_none hx ht
    refine ⟨_, rfl, t, hh, rfl, upd_same, ok, fun H2 s2 => ?_⟩
    refine ⟨_, rfl, rfl, _, rfl, ?_⟩
    refine iteF (nextK ?_)
    refine ⟨_, rfl, _, rfl, x, a_Shape, dx, [], rfl, s2 _ _ (s1 _ _ hx), T.cl_Shape, T.na_Shape_measures, by show 0 < 1000; decide, ?_⟩
    refine k _ ⟨dx, t, upd_same, by rw [upd_ne nx.symm]; exact s2 _ _ upd_same⟩ (fun b o e nb => by rw [upd_ne nb]; exact s2 _ _ (s1 _ _ e))

set_option maxHeartbeats 8000000 in
theorem okE_Shape___init__ {fa : Addr} {fd : FuncData} (T : Txt K mg a_BOUNDS a_BOUNDS_0 a_BOUNDS_1 a_BOUNDS_2 a_BOUNDS_3 a_BOUNDS_4 a_Shape a_NoShape a_NoStore a_NoRow a_NoDesign kA_Shape___init__) (D : MkDefD K a_Shape "Shape.__init__" s_Shape___init__ .none (.ref kA_Shape___init__) fa fd) : FnOk P w K mg base (CXE P w) 3 fa fd ["self", "rows", "entries", "fan", "buckets", "bits"] (sp_Shape_initE a_NoShape) := by
  obtain ⟨fa_first_wrong, fd_first_wrong, D_first_wrong⟩ := T.d_first_wrong
  have G_first_wrong := okX_first_wrong (P := P) (w := w) (base := base) T D_first_wrong
  have b_first_wrong := D_first_wrong.fn.binds (ps := ["measures"]) fun _ _ _ _ _ _ us hl => match us, hl with | [_], _ => rfl
  obtain ⟨fa_NoShape___init__, fd_NoShape___init__, D_NoShape___init__⟩ := T.d_NoShape___init__
  have G_NoShape___init__ := ok_NoShape___init__ (P := P) (w := w) (base := base) T D_NoShape___init__
  have b_NoShape___init__ := D_NoShape___init__.fn.binds (ps := ["self", "name"]) fun _ _ _ _ _ _ us hl => match us, hl with | [_, _], _ => rfl
  refine D.fn.okE sc_Shape___init__ (fun vs H Q E h => ?_) (fun cdv A outer s H vs Q E hr h => ?_)
  · obtain ⟨x, v1, v2, v3, v4, v5, ds, w, rfl, _⟩ := h
    rfl
  ·
    have r_first_wrong : Room 2 _ := hr.mono (by decide)
    have r_NoShape___init__ : Room 1 _ := hr.mono (by decide)
    have rm_NoShape___init__ : Room (1 + 1) _ := hr.mono (by decide)
    obtain ⟨x, v1, v2, v3, v4, v5, ds, w, rfl, hx, l5, es, hw, k⟩ := h
    refine ⟨_, (pss_cons (ps_asg (pe_tup (pa_cons (pv 1) (pa_cons (pv 2) (pa_cons (pv 3) (pa_cons (pv 4) (pa_cons (pv 5) pa_nil)))))) (pg_name (i := 6) sc_Shape___init__.nd rfl (by first | exact Or.inl rfl | exact Or.inr rfl)))
    (pss_cons (ps_asg (pe_call G_first_wrong r_first_wrong (by rfl) D_first_wrong.mg D_first_wrong.fn.kp b_first_wrong .nil pass0 (pa_cons (pv 6) pa_nil)) (pg_name (i := 7) sc_Shape___init__.nd rfl (by first | exact Or.inl rfl | exact Or.inr rfl)))
    (pss_cons (ps_if (pt_cmpR op_notN (pv 7) pe_non (nomark _))
      (pss_one (ps_raiseI D_NoShape___init__.mkI G_NoShape___init__ rm_NoShape___init__ (by rfl) T.mg_NoShape b_NoShape___init__ rfl (outs_cx fun _ _ _ z => z) (pa_cons (pv 7) pa_nil)))
      pss_nil)
    (pss_one ps_never)))), ?_⟩
    refine ⟨_, rfl, _, rfl, _, rfl, _, rfl, _, rfl, by show 5 ≤ sizeLine; decide, fun t ht => ?_⟩
    have s1 := same_new (o := HO.tup [v1, v2, v3, v4, v5]) ht
    refine ⟨_, rfl, t, _, ds, rfl, upd_same, hx.same s1, l5, es, fun H2 s2 => ?_⟩
    rw [hw]
    refine ⟨_, rfl, rfl, _, rfl, iteT ?_⟩
    exact ⟨_, rfl, by show 1 ≤ sizeLine; decide, fun y hy => raised_by k (s1.trans s2) hy (wrongM_short hw)⟩
theorem okU_Shape___init__ {fa : Addr} {fd : FuncData} (T : Txt K mg a_BOUNDS a_BOUNDS_0 a_BOUNDS_1 a_BOUNDS_2 a_BOUNDS_3 a_BOUNDS_4 a_Shape a_NoShape a_NoStore a_NoRow a_NoDesign kA_Shape___init__) (D : MkDefD K a_Shape "Shape.__init__" s_Shape___init__ .none (.ref kA_Shape___init__) fa fd) : FnOk P w K mg base (CXE P w) 3 fa fd ["self", "rows", "entries", "fan", "buckets", "bits"] (spOr (sp_Shape___init__ a_Shape) (sp_Shape_initE a_NoShape)) := (FnOk.toE (ok_Shape___init__ T D)).both (okE_Shape___init__ T D)
theorem sc_Shape_rows : FnScope ["self"] ["self"] (defScope s_Shape_rows) := ⟨rfl, rfl, rfl, by decide +kernel, rfl, by decide +kernel, by decide +kernel⟩

set_option maxHeartbeats 8000000 in
theorem ok_Shape_rows {fa : Addr} {fd : FuncData} (T : Txt K mg a_BOUNDS a_BOUNDS_0 a_BOUNDS_1 a_BOUNDS_2 a_BOUNDS_3 a_BOUNDS_4 a_Shape a_NoShape a_NoStore a_NoRow a_NoDesign kA_Shape___init__) (D : PDef K a_Shape "rows" "Shape.rows" s_Shape_rows fa fd) : FnOk P w K mg base CX0 1 fa fd ["self"] (sp_Shape_of a_Shape (·.r)) := by
  refine D.fn.ok sc_Shape_rows (fun vs H Q E h => ?_) (fun cdv A outer s H vs Q E hr h => ?_)
  · obtain ⟨x, hh, rfl, _⟩ := h
    rfl
  ·
    obtain ⟨x, hh, rfl, ⟨dx, t, hx, ht⟩, k⟩ := h
    refine ⟨_, (pss_one (ps_ret (pe_ix ix_tup (pe_fld (pv 0) rfl) pe_int (fun _ _ => rfl)))), ?_⟩
    exact ⟨_, rfl, x, a_Shape, dx, _, _, rfl, hx, T.cl_Shape, T.na_Shape_measures, sfld_m _, t, _, _, _, rfl, rfl, SqT.of ht, atI_nat (j := 0) rfl, k⟩
theorem sc_Shape_entries : FnScope ["self"] ["self"] (defScope s_Shape_entries) := ⟨rfl, rfl, rfl, by decide +kernel, rfl, by decide +kernel, by decide +kernel⟩

set_option maxHeartbeats 8000000 in
theorem ok_Shape_entries {fa : Addr} {fd : FuncData} (T : Txt K mg a_BOUNDS a_BOUNDS_0 a_BOUNDS_1 a_BOUNDS_2 a_BOUNDS_3 a_BOUNDS_4 a_Shape a_NoShape a_NoStore a_NoRow a_NoDesign kA_Shape___init__) (D : PDef K a_Shape "entries" "Shape.entries" s_Shape_entries fa fd) : FnOk P w K mg base CX0 1 fa fd ["self"] (sp_Shape_of a_Shape (·.e)) := by
  refine D.fn.ok sc_Shape_entries (fun vs H Q E h => ?_) (fun cdv A outer s H vs Q E hr h => ?_)
  · obtain ⟨x, hh, rfl, _⟩ := h
    rfl
  ·
    obtain ⟨x, hh, rfl, ⟨dx, t, hx, ht⟩, k⟩ := h
    refine ⟨_, (pss_one (ps_ret (pe_ix ix_tup (pe_fld (pv 0) rfl) pe_int (fun _ _ => rfl)))), ?_⟩
    exact ⟨_, rfl, x, a_Shape, dx, _, _, rfl, hx, T.cl_Shape, T.na_Shape_measures, sfld_m _, t, _, _, _, rfl, rfl, SqT.of ht, atI_nat (j := 1) rfl, k⟩
theorem sc_Shape_fan : FnScope ["self"] ["self"] (defScope s_Shape_fan) := ⟨rfl, rfl, rfl, by decide +kernel, rfl, by decide +kernel, by decide +kernel⟩

set_option maxHeartbeats 8000000 in
theorem ok_Shape_fan {fa : Addr} {fd : FuncData} (T : Txt K mg a_BOUNDS a_BOUNDS_0 a_BOUNDS_1 a_BOUNDS_2 a_BOUNDS_3 a_BOUNDS_4 a_Shape a_NoShape a_NoStore a_NoRow a_NoDesign kA_Shape___init__) (D : PDef K a_Shape "fan" "Shape.fan" s_Shape_fan fa fd) : FnOk P w K mg base CX0 1 fa fd ["self"] (sp_Shape_of a_Shape (·.f)) := by
  refine D.fn.ok sc_Shape_fan (fun vs H Q E h => ?_) (fun cdv A outer s H vs Q E hr h => ?_)
  · obtain ⟨x, hh, rfl, _⟩ := h
    rfl
  ·
    obtain ⟨x, hh, rfl, ⟨dx, t, hx, ht⟩, k⟩ := h
    refine ⟨_, (pss_one (ps_ret (pe_ix ix_tup (pe_fld (pv 0) rfl) pe_int (fun _ _ => rfl)))), ?_⟩
    exact ⟨_, rfl, x, a_Shape, dx, _, _, rfl, hx, T.cl_Shape, T.na_Shape_measures, sfld_m _, t, _, _, _, rfl, rfl, SqT.of ht, atI_nat (j := 2) rfl, k⟩
theorem sc_Shape_buckets : FnScope ["self"] ["self"] (defScope s_Shape_buckets) := ⟨rfl, rfl, rfl, by decide +kernel, rfl, by decide +kernel, by decide +kernel⟩

set_option maxHeartbeats 8000000 in
theorem ok_Shape_buckets {fa : Addr} {fd : FuncData} (T : Txt K mg a_BOUNDS a_BOUNDS_0 a_BOUNDS_1 a_BOUNDS_2 a_BOUNDS_3 a_BOUNDS_4 a_Shape a_NoShape a_NoStore a_NoRow a_NoDesign kA_Shape___init__) (D : PDef K a_Shape "buckets" "Shape.buckets" s_Shape_buckets fa fd) : FnOk P w K mg base CX0 1 fa fd ["self"] (sp_Shape_of a_Shape (·.b)) := by
  refine D.fn.ok sc_Shape_buckets (fun vs H Q E h => ?_) (fun cdv A outer s H vs Q E hr h => ?_)
  · obtain ⟨x, hh, rfl, _⟩ := h
    rfl
  ·
    obtain ⟨x, hh, rfl, ⟨dx, t, hx, ht⟩, k⟩ := h
    refine ⟨_, (pss_one (ps_ret (pe_ix ix_tup (pe_fld (pv 0) rfl) pe_int (fun _ _ => rfl)))), ?_⟩
    exact ⟨_, rfl, x, a_Shape, dx, _, _, rfl, hx, T.cl_Shape, T.na_Shape_measures, sfld_m _, t, _, _, _, rfl, rfl, SqT.of ht, atI_nat (j := 3) rfl, k⟩
theorem sc_Shape_bits : FnScope ["self"] ["self"] (defScope s_Shape_bits) := ⟨rfl, rfl, rfl, by decide +kernel, rfl, by decide +kernel, by decide +kernel⟩

set_option maxHeartbeats 8000000 in
theorem ok_Shape_bits {fa : Addr} {fd : FuncData} (T : Txt K mg a_BOUNDS a_BOUNDS_0 a_BOUNDS_1 a_BOUNDS_2 a_BOUNDS_3 a_BOUNDS_4 a_Shape a_NoShape a_NoStore a_NoRow a_NoDesign kA_Shape___init__) (D : PDef K a_Shape "bits" "Shape.bits" s_Shape_bits fa fd) : FnOk P w K mg base CX0 1 fa fd ["self"] (sp_Shape_of a_Shape (·.c)) := by
  refine D.fn.ok sc_Shape_bits (fun vs H Q E h => ?_) (fun cdv A outer s H vs Q E hr h => ?_)
  · obtain ⟨x, hh, rfl, _⟩ := h
    rfl
  ·
    obtain ⟨x, hh, rfl, ⟨dx, t, hx, ht⟩, k⟩ := h
    refine ⟨_, (pss_one (ps_ret (pe_ix ix_tup (pe_fld (pv 0) rfl) pe_int (fun _ _ => rfl)))), ?_⟩
    exact ⟨_, rfl, x, a_Shape, dx, _, _, rfl, hx, T.cl_Shape, T.na_Shape_measures, sfld_m _, t, _, _, _, rfl, rfl, SqT.of ht, atI_nat (j := 4) rfl, k⟩
theorem sc_Shape___eq__ : FnScope ["self", "other"] ["self", "other"] (defScope s_Shape___eq__) := ⟨rfl, rfl, rfl, by decide +kernel, rfl, by decide +kernel, by decide +kernel⟩
/-- two shapes are alike if their measures are; no shape is like another thing -/
noncomputable def sp_Shape_eqA (C : Addr) : Sp := fun vs H Q _ => ∃ (x : Addr) (y : V) (h : Sh), vs = [.ref x, y] ∧ ShAt C H x h ∧ ((∃ z h', y = .ref z ∧ ShAt C H z h' ∧ Q (.bl (PyData.eqv (shD h) (shD h'))) H) ∨ (Tyd H y ∧ Q (.bl false) H))
set_option maxHeartbeats 8000000 in
theorem ok_Shape___eq__ {fa : Addr} {fd : FuncData} (T : Txt K mg a_BOUNDS a_BOUNDS_0 a_BOUNDS_1 a_BOUNDS_2 a_BOUNDS_3 a_BOUNDS_4 a_Shape a_NoShape a_NoStore a_NoRow a_NoDesign kA_Shape___init__) (D : MDef K a_Shape "__eq__" "Shape.__eq__" s_Shape___eq__ fa fd) : FnOk P w K mg base CX0 1 fa fd ["self", "other"] (sp_Shape_eqA a_Shape) := by
  refine D.fn.ok sc_Shape___eq__ (fun vs H Q E h => ?_) (fun cdv A outer s H vs Q E hr h => ?_)
  · obtain ⟨x, y, hh, rfl, _⟩ := h
    rfl
  ·
    obtain ⟨x, y, hh, rfl, ⟨dx, t, hx, ht⟩, k⟩ := h
    refine ⟨_, (pss_one (ps_ret (pe_and (pe_callB (call_isO (K := K)) (by rfl) T.z_isinstance bt_isinstance (pa_cons (pv 1) (pa_cons (pe_glob (v := V.ref a_Shape) (by rfl) T.mg_Shape rfl) pa_nil))) (pe_one (pe_cmpR (op_eqDK (K := K) hr.units) (pe_fld (pv 0) rfl) (pe_fld (pv 1) rfl) (nomark _)))))), ?_⟩
    rcases k with ⟨z, h', rfl, ⟨dy, t', hy, ht'⟩, k⟩ | ⟨ty, k⟩
    · refine ⟨_, rfl, .ref z, a_Shape, rfl, T.oc_Shape, .inl ⟨z, dy, _, rfl, hy, _, rfl, ?_⟩⟩
      refine iteT ?_
      exact ⟨_, rfl, x, a_Shape, dx, _, _, rfl, hx, T.cl_Shape, T.na_Shape_measures, sfld_m _, _, rfl, z, a_Shape, dy, _, _, rfl, hy, T.cl_Shape, T.na_Shape_measures, sfld_m _, shD hh, shD h', (shD_dt ht).dp, (shD_dt ht').dp, (shD_eas hh).shaped (by decide), (shD_eas h').shaped (by decide), k⟩
    · exact ⟨_, rfl, y, a_Shape, rfl, T.oc_Shape, .inr ⟨ty, _, rfl, iteF k⟩⟩
theorem sc_Shape___repr__ : FnScope ["self"] ["self"] (defScope s_Shape___repr__) := ⟨rfl, rfl, rfl, by decide +kernel, rfl, by decide +kernel, by decide +kernel⟩

set_option maxHeartbeats 8000000 in
theorem ok_Shape___repr__ {fa : Addr} {fd : FuncData} (T : Txt K mg a_BOUNDS a_BOUNDS_0 a_BOUNDS_1 a_BOUNDS_2 a_BOUNDS_3 a_BOUNDS_4 a_Shape a_NoShape a_NoStore a_NoRow a_NoDesign kA_Shape___init__) (D : MDef K a_Shape "__repr__" "Shape.__repr__" s_Shape___repr__ fa fd) : FnOk P w K mg base CX0 3 fa fd ["self"] (sp_Shape_repr a_Shape) := by
  obtain ⟨fa_Shape_bits, fd_Shape_bits, D_Shape_bits⟩ := T.d_Shape_bits
  have G_Shape_bits := ok_Shape_bits (P := P) (w := w) (base := base) T D_Shape_bits
  have b_Shape_bits := D_Shape_bits.fn.binds (ps := ["self"]) fun _ _ _ _ _ _ us hl => match us, hl with | [_], _ => rfl
  obtain ⟨fa_Shape_buckets, fd_Shape_buckets, D_Shape_buckets⟩ := T.d_Shape_buckets
  have G_Shape_buckets := ok_Shape_buckets (P := P) (w := w) (base := base) T D_Shape_buckets
  have b_Shape_buckets := D_Shape_buckets.fn.binds (ps := ["self"]) fun _ _ _ _ _ _ us hl => match us, hl with | [_], _ => rfl
  obtain ⟨fa_Shape_fan, fd_Shape_fan, D_Shape_fan⟩ := T.d_Shape_fan
  have G_Shape_fan := ok_Shape_fan (P := P) (w := w) (base := base) T D_Shape_fan
  have b_Shape_fan := D_Shape_fan.fn.binds (ps := ["self"]) fun _ _ _ _ _ _ us hl => match us, hl with | [_], _ => rfl
  obtain ⟨fa_Shape_entries, fd_Shape_entries, D_Shape_entries⟩ := T.d_Shape_entries
  have G_Shape_entries := ok_Shape_entries (P := P) (w := w) (base := base) T D_Shape_entries
  have b_Shape_entries := D_Shape_entries.fn.binds (ps := ["self"]) fun _ _ _ _ _ _ us hl => match us, hl with | [_], _ => rfl
  obtain ⟨fa_Shape_rows, fd_Shape_rows, D_Shape_rows⟩ := T.d_Shape_rows
  have G_Shape_rows := ok_Shape_rows (P := P) (w := w) (base := base) T D_Shape_rows
  have b_Shape_rows := D_Shape_rows.fn.binds (ps := ["self"]) fun _ _ _ _ _ _ us hl => match us, hl with | [_], _ => rfl
  refine D.fn.ok sc_Shape___repr__ (fun vs H Q E h => ?_) (fun cdv A outer s H vs Q E hr h => ?_)
  · obtain ⟨x, hh, rfl, _⟩ := h
    rfl
  ·
    have r_Shape_bits : Room 1 _ := hr.mono (by decide)
    have rm_Shape_bits : Room (1 + 1) _ := hr.mono (by decide)
    have r_Shape_buckets : Room 1 _ := hr.mono (by decide)
    have rm_Shape_buckets : Room (1 + 1) _ := hr.mono (by decide)
    have r_Shape_fan : Room 1 _ := hr.mono (by decide)
    have rm_Shape_fan : Room (1 + 1) _ := hr.mono (by decide)
    have r_Shape_entries : Room 1 _ := hr.mono (by decide)
    have rm_Shape_entries : Room (1 + 1) _ := hr.mono (by decide)
    have r_Shape_rows : Room 1 _ := hr.mono (by decide)
    have rm_Shape_rows : Room (1 + 1) _ := hr.mono (by decide)
    obtain ⟨x, hh, rfl, hx, ok, k⟩ := h
    refine ⟨_, (pss_one (ps_ret (pe_fstr (pj_cons pe_str (pj_cons (pe_fmt (pe_propE (pv 0) T.cl_Shape D_Shape_rows.prp G_Shape_rows rm_Shape_rows b_Shape_rows)) (pj_cons pe_str (pj_cons (pe_fmt (pe_propE (pv 0) T.cl_Shape D_Shape_entries.prp G_Shape_entries rm_Shape_entries b_Shape_entries)) (pj_cons pe_str (pj_cons (pe_fmt (pe_propE (pv 0) T.cl_Shape D_Shape_fan.prp G_Shape_fan rm_Shape_fan b_Shape_fan)) (pj_cons pe_str (pj_cons (pe_fmt (pe_propE (pv 0) T.cl_Shape D_Shape_buckets.prp G_Shape_buckets rm_Shape_buckets b_Shape_buckets)) (pj_cons pe_str (pj_cons (pe_fmt (pe_propE (pv 0) T.cl_Shape D_Shape_bits.prp G_Shape_bits rm_Shape_bits b_Shape_bits)) (pj_cons pe_str pj_nil)))))))))))))), ?_⟩
    obtain ⟨dx, t, ex, et⟩ := id hx
    have o1 := ok.r
    have o2 := ok.e
    have o3 := ok.f
    have o4 := ok.b
    have o5 := ok.c
    have l1 := num_len (show hh.r ≤ 64 by omega)
    have l2 := num_len (show hh.e ≤ 64 by omega)
    have l3 := num_len (show hh.f ≤ 64 by omega)
    have l4 := num_len (show hh.b ≤ 64 by omega)
    have l5 := num_len (show hh.c ≤ 64 by omega)
    have z0 : Str.empty.length = 0 := by decide +kernel
    have z1 : ("Shape(" : Str).length = 6 := by decide +kernel
    have z2 : (", " : Str).length = 2 := by decide +kernel
    have z3 : (")" : Str).length = 1 := by decide +kernel
    have big : ∀ {n : Nat}, n ≤ 100 → n ≤ sizeLine := fun h => Nat.le_trans h (by decide)
    refine ⟨_, rfl, big ?_, _, rfl, x, dx, _, rfl, ex, x, hh, rfl, hx, .inr ⟨_, rfl, num_log (show hh.r ≤ 64 by omega), _, rfl, big ?_, ?_⟩⟩
    · simp only [Str.length_append, z0, z1]; omega
    · simp only [Str.length_append, z0, z1]; omega
    refine ⟨_, rfl, big ?_, _, rfl, x, dx, _, rfl, ex, x, hh, rfl, hx, .inr ⟨_, rfl, num_log (show hh.e ≤ 64 by omega), _, rfl, big ?_, ?_⟩⟩
    · simp only [Str.length_append, z0, z1, z2]; omega
    · simp only [Str.length_append, z0, z1, z2]; omega
    refine ⟨_, rfl, big ?_, _, rfl, x, dx, _, rfl, ex, x, hh, rfl, hx, .inr ⟨_, rfl, num_log (show hh.f ≤ 64 by omega), _, rfl, big ?_, ?_⟩⟩
    · simp only [Str.length_append, z0, z1, z2]; omega
    · simp only [Str.length_append, z0, z1, z2]; omega
    refine ⟨_, rfl, big ?_, _, rfl, x, dx, _, rfl, ex, x, hh, rfl, hx, .inr ⟨_, rfl, num_log (show hh.b ≤ 64 by omega), _, rfl, big ?_, ?_⟩⟩
    · simp only [Str.length_append, z0, z1, z2]; omega
    · simp only [Str.length_append, z0, z1, z2]; omega
    refine ⟨_, rfl, big ?_, _, rfl, x, dx, _, rfl, ex, x, hh, rfl, hx, .inr ⟨_, rfl, num_log (show hh.c ≤ 64 by omega), _, rfl, big ?_, ?_⟩⟩
    · simp only [Str.length_append, z0, z1, z2]; omega
    · simp only [Str.length_append, z0, z1, z2]; omega
    refine ⟨_, rfl, big ?_, big ?_, k⟩
    · simp only [Str.length_append, z0, z1, z2, z3]; omega
    · simp only [Str.length_append, z0, z1, z2, z3]; omega
theorem sc_law_bag : FnScope ["_law_script", "_law_at", "_law_cell", "_law_great", "_law_primes"] ["_law_script", "_law_at"] (defScope s_law_bag) := ⟨rfl, rfl, rfl, by decide +kernel, rfl, by decide +kernel, by decide +kernel⟩
noncomputable def sp_law_bag (K : PySem.W.Frag) : Sp := fun vs H Q _ => ∃ (a : Addr) (ns : List Int) (k : Int), vs = [.ref a, .int k] ∧ SqL K H a (ns.map V.int) ∧ ns.length ≤ 63 ∧ 0 ≤ k ∧ k < 1000 ∧
  ∀ b H', H b = none → Same H H' → Bag H' b → Q (.ref b) H'
set_option maxHeartbeats 8000000 in
theorem ok_law_bag {fa : Addr} {fd : FuncData} (T : Txt K mg a_BOUNDS a_BOUNDS_0 a_BOUNDS_1 a_BOUNDS_2 a_BOUNDS_3 a_BOUNDS_4 a_Shape a_NoShape a_NoStore a_NoRow a_NoDesign kA_Shape___init__) (D : Def K mg "_law_bag" s_law_bag fa fd) : FnOk P w K mg base CX0 1 fa fd ["_law_script", "_law_at"] (sp_law_bag K) := by
  refine D.fn.ok sc_law_bag (fun vs H Q E h => ?_) (fun cdv A outer s H vs Q E hr h => ?_)
  · obtain ⟨a, ns, k, rfl, _⟩ := h
    rfl
  ·
    obtain ⟨a, ns, n, rfl, hS, hl, h0, h1, k⟩ := h
    refine ⟨_, (pss_cons (ps_asg pe_int (pg_name (i := 2) sc_law_bag.nd rfl (by first | exact Or.inl rfl | exact Or.inr rfl)))
    (pss_cons (ps_if (pt_cmpR op_lt (pv 1) (pe_callB call_len_seq (by rfl) T.z_len bt_len (pa_cons (pv 0) pa_nil)) (nomark _))
      (pss_one (ps_asg (pe_ix ix_list (pv 0) (pv 1) (fun _ _ => rfl)) (pg_name (i := 2) sc_law_bag.nd rfl (by first | exact Or.inl rfl | exact Or.inr rfl))))
      pss_nil)
    (pss_cons (ps_asg pe_int (pg_name (i := 3) sc_law_bag.nd rfl (by first | exact Or.inl rfl | exact Or.inr rfl)))
    (pss_cons (ps_if (pt_cmpR op_ge (pe_callB call_abs (by rfl) T.z_abs bt_abs (pa_cons (pv 2) pa_nil)) (pe_op op_pow pe_int pe_int) (nomark _))
      (pss_one (ps_asg (pe_callB call_abs (by rfl) T.z_abs bt_abs (pa_cons (pv 2) pa_nil)) (pg_name (i := 3) sc_law_bag.nd rfl (by first | exact Or.inl rfl | exact Or.inr rfl))))
      pss_nil)
    (pss_cons (ps_asg (pe_lst (pa_cons pe_int (pa_cons pe_int (pa_cons pe_int (pa_cons pe_int (pa_cons pe_int (pa_cons pe_int (pa_cons pe_int (pa_cons pe_int pa_nil))))))))) (pg_name (i := 4) sc_law_bag.nd rfl (by first | exact Or.inl rfl | exact Or.inr rfl)))
    (pss_one (ps_ret (pe_lst (pa_cons (pv 3) (pa_cons (pe_op op_mod (pe_op op_pow (pe_op op_add (pe_op op_add (pe_op op_mod (pv 2) pe_int) (pe_op op_mul pe_int (pv 1))) pe_int) pe_int) (pe_ix ix_list (pv 4) (pe_op op_mod (pv 1) pe_int) (fun _ _ => rfl))) pa_nil)))))))))), ?_⟩
    have prime : ∃ v, atI [V.int 2147483629, V.int 2147483587, V.int 2147483579, V.int 2147483563, V.int 2147483549, V.int 2147483543, V.int 2147483497, V.int 2147483489] (n % 8) = some v ∧ ∃ p : Int, v = .int p ∧ 0 < p ∧ p < 2147483648 := by
      refine at_all _ (fun x hx => ?_) (Int.emod_nonneg _ (by decide)) (by show n % 8 < 8; omega)
      simp only [List.mem_cons, List.not_mem_nil, or_false] at hx
      rcases hx with rfl | rfl | rfl | rfl | rfl | rfl | rfl | rfl <;> exact ⟨_, rfl, by decide, by decide⟩
    obtain ⟨_, ep, p, rfl, p0, p1⟩ := prime
    refine ⟨_, rfl, _, rfl, _, _, rfl, .inl hS, _, _, rfl, rfl, _, rfl, ?_⟩
    refine ite2 (fun c1 => ?_) (fun c1 => ?_)
    · obtain ⟨c, ec⟩ := at_int (ns := ns) h0 (by simpa using c1)
      refine ⟨_, rfl, _, rfl, a, _, _, _, rfl, rfl, hS, ec, ?_⟩
      refine ⟨_, rfl, _, rfl, _, _, rfl, rfl, ⟨by decide, by decide, by decide⟩, _, _, rfl, rfl, _, rfl, ?_⟩
      refine ite2 (fun c2 => ?_) (fun c2 => ?_)
      · refine ⟨_, rfl, _, rfl, ?_⟩
        refine ⟨by show 8 ≤ sizeLine; decide, fun q hq => ?_⟩
        refine ⟨_, rfl, _, rfl, _, _, rfl, rfl, (by decide : (0 : Int) < 2147483647), _, rfl, _, _, rfl, rfl, .inl ⟨by decide, by decide⟩, _, _, rfl, rfl, _, _, rfl, rfl, _, _, rfl, rfl, ⟨by decide, by decide, ?_⟩, _, rfl, _, rfl, _, _, rfl, rfl, (by decide : (0 : Int) < 8), q, _, _, _, rfl, rfl, SqL.of upd_same, ep, _, _, rfl, rfl, p0, ?_⟩
        · omega
        · refine ⟨by show 2 ≤ sizeLine; decide, fun b hb => ?_⟩
          refine k b _ ((same_new hq).free hb) ((same_new hq).trans (same_new hb)) ⟨_, _, upd_same, ?_, Int.emod_nonneg _ (by omega), Int.lt_trans (Int.emod_lt_of_pos _ p0) p1⟩
          split <;> omega
      · refine ⟨by show 8 ≤ sizeLine; decide, fun q hq => ?_⟩
        refine ⟨_, rfl, _, rfl, _, _, rfl, rfl, (by decide : (0 : Int) < 2147483647), _, rfl, _, _, rfl, rfl, .inl ⟨by decide, by decide⟩, _, _, rfl, rfl, _, _, rfl, rfl, _, _, rfl, rfl, ⟨by decide, by decide, ?_⟩, _, rfl, _, rfl, _, _, rfl, rfl, (by decide : (0 : Int) < 8), q, _, _, _, rfl, rfl, SqL.of upd_same, ep, _, _, rfl, rfl, p0, ?_⟩
        · omega
        · refine ⟨by show 2 ≤ sizeLine; decide, fun b hb => ?_⟩
          exact k b _ ((same_new hq).free hb) ((same_new hq).trans (same_new hb)) ⟨_, _, upd_same, by decide, Int.emod_nonneg _ (by omega), Int.lt_trans (Int.emod_lt_of_pos _ p0) p1⟩
    · refine ⟨_, rfl, _, rfl, _, _, rfl, rfl, ⟨by decide, by decide, by decide⟩, _, _, rfl, rfl, _, rfl, ?_⟩
      refine ite2 (fun c2 => ?_) (fun c2 => ?_)
      · exact absurd c2 (by decide)
      · refine ⟨by show 8 ≤ sizeLine; decide, fun q hq => ?_⟩
        refine ⟨_, rfl, _, rfl, _, _, rfl, rfl, (by decide : (0 : Int) < 2147483647), _, rfl, _, _, rfl, rfl, .inl ⟨by decide, by decide⟩, _, _, rfl, rfl, _, _, rfl, rfl, _, _, rfl, rfl, ⟨by decide, by decide, ?_⟩, _, rfl, _, rfl, _, _, rfl, rfl, (by decide : (0 : Int) < 8), q, _, _, _, rfl, rfl, SqL.of upd_same, ep, _, _, rfl, rfl, p0, ?_⟩
        · omega
        · refine ⟨by show 2 ≤ sizeLine; decide, fun b hb => ?_⟩
          exact k b _ ((same_new hq).free hb) ((same_new hq).trans (same_new hb)) ⟨_, _, upd_same, by decide, Int.emod_nonneg _ (by omega), Int.lt_trans (Int.emod_lt_of_pos _ p0) p1⟩
theorem sc_law_take : FnScope ["_law_bag_here", "_law_many", "_law_digit"] ["_law_bag_here", "_law_many"] (defScope s_law_take) := ⟨rfl, rfl, rfl, by decide +kernel, rfl, by decide +kernel, by decide +kernel⟩
noncomputable def sp_law_take : Sp := fun vs H Q _ => ∃ (b : Addr) (m : Int), vs = [.ref b, .int m] ∧ Bag H b ∧ 0 < m ∧ m < 1073741824 ∧ ∀ r H', 0 ≤ r → r < m → Eff b H H' → Q (.int r) H'
set_option maxHeartbeats 8000000 in
theorem ok_law_take {fa : Addr} {fd : FuncData} (T : Txt K mg a_BOUNDS a_BOUNDS_0 a_BOUNDS_1 a_BOUNDS_2 a_BOUNDS_3 a_BOUNDS_4 a_Shape a_NoShape a_NoStore a_NoRow a_NoDesign kA_Shape___init__) (D : Def K mg "_law_take" s_law_take fa fd) : FnOk P w K mg base CX0 1 fa fd ["_law_bag_here", "_law_many"] sp_law_take := by
  refine D.fn.ok sc_law_take (fun vs H Q E h => ?_) (fun cdv A outer s H vs Q E hr h => ?_)
  · obtain ⟨b, m, rfl, _⟩ := h
    rfl
  ·
    obtain ⟨b, m, rfl, ⟨g, x, hb, hg, hx0, hx1⟩, h0, h1, k⟩ := h
    refine ⟨_, (pss_cons (ps_if (pt_cmpR op_gt (pe_ix ix_list (pv 0) pe_int (fun _ _ => rfl)) pe_int (nomark _))
      (pss_cons (ps_asg (pe_op op_mod (pe_ix ix_list (pv 0) pe_int (fun _ _ => rfl)) (pv 1)) (pg_name (i := 2) sc_law_take.nd rfl (by first | exact Or.inl rfl | exact Or.inr rfl)))
    (pss_cons (ps_asg (pe_op op_fdiv (pe_ix ix_list (pv 0) pe_int (fun _ _ => rfl)) (pv 1)) (pg_sub (pv 0) pe_int set_list))
    (pss_one (ps_ret (pv 2)))))
      pss_nil)
    (pss_cons (ps_asg (pe_op op_mod (pe_op op_add (pe_op op_mul (pe_ix ix_list (pv 0) pe_int (fun _ _ => rfl)) pe_int) pe_int) pe_int) (pg_sub (pv 0) pe_int set_list))
    (pss_one (ps_ret (pe_op op_mod (pe_op op_mod (pe_op op_pow (pe_op op_fdiv (pe_ix ix_list (pv 0) pe_int (fun _ _ => rfl)) pe_int) pe_int) pe_int) (pv 1)))))), ?_⟩
    refine ⟨_, rfl, b, _, _, _, rfl, rfl, SqL.of hb, rfl, _, _, rfl, rfl, _, rfl, ?_⟩
    refine ite2 (fun c1 => ?_) (fun c1 => ?_)
    · refine ⟨_, rfl, b, _, _, _, rfl, rfl, SqL.of hb, rfl, _, rfl, _, _, rfl, rfl, h0, ?_⟩
      refine ⟨_, rfl, b, _, _, _, rfl, rfl, SqL.of hb, rfl, _, rfl, _, _, rfl, rfl, ⟨h0, h1⟩, _, rfl, b, _, _, _, rfl, rfl, hb, rfl, _, rfl, ?_⟩
      refine k _ _ (Int.emod_nonneg _ (by omega)) (Int.emod_lt_of_pos _ h0) ⟨⟨_, _, upd_same, Int.ediv_nonneg hg (by omega), hx0, hx1⟩, fun c o n e => by rw [upd_ne n]; exact e⟩
    · refine ⟨_, rfl, b, _, _, _, rfl, rfl, SqL.of hb, rfl, _, _, rfl, rfl, .inr ⟨by decide, by decide⟩, _, _, rfl, rfl, _, _, rfl, rfl, (by decide : (0 : Int) < 2147483647), _, rfl, b, _, _, _, rfl, rfl, hb, rfl, ?_⟩
      have hy0 : 0 ≤ (x * 48271 + 11) % 2147483647 := Int.emod_nonneg _ (by decide)
      have hy1 : (x * 48271 + 11) % 2147483647 < 2147483647 := Int.emod_lt_of_pos _ (by decide)
      refine ⟨_, rfl, b, _, _, _, rfl, rfl, SqL.of upd_same, rfl, _, _, rfl, rfl, ⟨by decide, by decide⟩, _, _, rfl, rfl, ⟨by decide, by decide, ?_⟩, _, _, rfl, rfl, (by decide : (0 : Int) < 2147483629), _, rfl, _, _, rfl, rfl, h0, ?_⟩
      · omega
      · refine k _ _ (Int.emod_nonneg _ (by omega)) (Int.emod_lt_of_pos _ h0) ⟨⟨_, _, upd_same, hg, hy0, Int.lt_trans hy1 (by decide)⟩, fun c o n e => by rw [upd_ne n]; exact e⟩
theorem sc_law_whole : FnScope ["_law_thing", "_law_low", "_law_high"] ["_law_thing", "_law_low", "_law_high"] (defScope s_law_whole) := ⟨rfl, rfl, rfl, by decide +kernel, rfl, by decide +kernel, by decide +kernel⟩
noncomputable def wholeD (lo hi : Int) : PyData → Bool
  | .int i => decide (lo ≤ i) && decide (i ≤ hi)
  | _ => false
noncomputable def sp_law_wholeD : Sp := fun vs H Q _ => ∃ (v : V) (d : PyData) (n : Nat) (lo hi : Int), vs = [v, .int lo, .int hi] ∧ Dt H v d ∧ Eas n d ∧ Q (.bl (wholeD lo hi d)) H
set_option maxHeartbeats 8000000 in
theorem ok_law_whole {fa : Addr} {fd : FuncData} (T : Txt K mg a_BOUNDS a_BOUNDS_0 a_BOUNDS_1 a_BOUNDS_2 a_BOUNDS_3 a_BOUNDS_4 a_Shape a_NoShape a_NoStore a_NoRow a_NoDesign kA_Shape___init__) (D : Def K mg "_law_whole" s_law_whole fa fd) : FnOk P w K mg base CX0 1 fa fd ["_law_thing", "_law_low", "_law_high"] sp_law_wholeD := by
  refine D.fn.ok sc_law_whole (fun vs H Q E h => ?_) (fun cdv A outer s H vs Q E hr h => ?_)
  · obtain ⟨v, d, n, lo, hi, rfl, _⟩ := h
    rfl
  ·
    obtain ⟨v, d, n, lo, hi, rfl, hv, hd, k⟩ := h
    refine ⟨_, (pss_one (ps_ret (pe_and (pe_callB call_isT (by rfl) T.z_isinstance bt_isinstance (pa_cons (pv 0) (pa_cons (pe_bltn (v := V.ty "int") (by rfl) T.z_int bt_int rfl) pa_nil))) (pe_and (pe_not (pe_callB call_isT (by rfl) T.z_isinstance bt_isinstance (pa_cons (pv 0) (pa_cons (pe_bltn (v := V.ty "bool") (by rfl) T.z_bool bt_bool rfl) pa_nil)))) (pe_one (pe_chain op_le op_le (pv 1) (pv 0) (pv 2))))))), ?_⟩
    have hty := hv.tyd hd.sh
    refine ⟨_, rfl, _, _, rfl, hty, rfl, _, rfl, ?_⟩
    rcases inst_int hty with ⟨i, rfl, e1, e2⟩ | ⟨b, rfl, e1, e2⟩ | ⟨e1, e2, e3⟩
    · rw [e1]
      refine iteT ⟨_, rfl, _, _, rfl, hty, rfl, _, rfl, ?_⟩
      rw [e2]
      cases hv
      have k : Q (.bl (decide (lo ≤ i) && decide (i ≤ hi))) H := k
      refine ⟨_, rfl, iteT ?_⟩
      refine ⟨_, rfl, _, rfl, _, _, rfl, rfl, _, rfl, ?_⟩
      cases c1 : decide (lo ≤ i) with
      | true => rw [c1] at k; exact iteT ⟨_, rfl, _, _, rfl, rfl, k⟩
      | false => rw [c1] at k; exact iteF k
    · rw [e1]
      refine iteT ⟨_, rfl, _, _, rfl, hty, rfl, _, rfl, ?_⟩
      rw [e2]
      cases hv
      exact ⟨_, rfl, iteF k⟩
    · rw [e1]
      refine iteF ?_
      have ek : wholeD lo hi d = false := by
        cases hv with
        | int i => cases e3
        | _ => rfl
      rw [ek] at k
      exact k
theorem sc_law_made : FnScope ["_law_five", "e"] ["_law_five"] (defScope s_law_made) := ⟨rfl, rfl, rfl, by decide +kernel, rfl, by decide +kernel, by decide +kernel⟩

set_option maxHeartbeats 8000000 in
theorem ok_law_made {fa : Addr} {fd : FuncData} (T : Txt K mg a_BOUNDS a_BOUNDS_0 a_BOUNDS_1 a_BOUNDS_2 a_BOUNDS_3 a_BOUNDS_4 a_Shape a_NoShape a_NoStore a_NoRow a_NoDesign kA_Shape___init__) (D : Def K mg "_law_made" s_law_made fa fd) : FnOk P w K mg base CX0 5 fa fd ["_law_five"] (sp_law_made05 a_Shape) := by
  obtain ⟨fa_Shape___init__, fd_Shape___init__, D_Shape___init__⟩ := T.d_Shape___init__
  have G_Shape___init__ := okU_Shape___init__ (P := P) (w := w) (base := base) T D_Shape___init__
  obtain ⟨kc_Shape___init__, kdd_Shape___init__, kn_Shape___init__, ksl_Shape___init__, h0_Shape___init__, t0_Shape___init__, h1_Shape___init__, t1_Shape___init__, h2_Shape___init__, t2_Shape___init__, h3_Shape___init__, t3_Shape___init__, h4_Shape___init__, t4_Shape___init__, td_Shape___init___rows, td_Shape___init___entries, td_Shape___init___fan, td_Shape___init___buckets, td_Shape___init___bits, hlK_Shape___init__⟩ := T.kk_Shape___init__
  have kb_Shape___init___0 : KBinds K fd_Shape___init__ ["self", "rows", "entries", "fan", "buckets", "bits"] ["bits", "rows", "entries", "buckets", "fan"] (fun us ws => match us, ws with | [u0], [w0, w1, w2, w3, w4] => [u0, w1, w2, w4, w3, w0] | _, _ => []) (fun us ws => match us, ws with | [u0], [w0, w1, w2, w3, w4] => [u0, w1, w2, w4, w3, w0] | _, _ => []) := by
    obtain ⟨oc, od, doc, pm, an, cdv, ct, osl, rfl, lk, hcd⟩ := D_Shape___init__.fn.ex
    refine ⟨fun s us ws X hl => ?_, fun {vs us zs ws} r1 r2 => ?_⟩
    · rcases us with _ | ⟨u0, _ | ⟨_, _⟩⟩ <;> rcases ws with _ | ⟨w0, _ | ⟨w1, _ | ⟨w2, _ | ⟨w3, _ | ⟨w4, _ | ⟨_, _⟩⟩⟩⟩⟩⟩ <;> first | (cases hl; done) | exact .of_eq rfl | exact PySem.W.kp_binds X (fun S => (peek_load hlK_Shape___init__).trans (rfl)) | exact PySem.W.kp_binds X (fun S => (peek_load hlK_Shape___init__).trans ((peek_load hlK_Shape___init__).trans (rfl))) | exact PySem.W.kp_binds X (fun S => (peek_load hlK_Shape___init__).trans ((peek_load hlK_Shape___init__).trans ((peek_load hlK_Shape___init__).trans (rfl)))) | exact PySem.W.kp_binds X (fun S => (peek_load hlK_Shape___init__).trans ((peek_load hlK_Shape___init__).trans ((peek_load hlK_Shape___init__).trans ((peek_load hlK_Shape___init__).trans (rfl))))) | exact PySem.W.kp_binds X (fun S => (peek_load hlK_Shape___init__).trans ((peek_load hlK_Shape___init__).trans ((peek_load hlK_Shape___init__).trans ((peek_load hlK_Shape___init__).trans ((peek_load hlK_Shape___init__).trans (rfl))))))
    · rcases r1 with _ | ⟨u0, _ | ⟨ux, uy⟩⟩ <;> rcases r2 with _ | ⟨w0, _ | ⟨w1, _ | ⟨w2, _ | ⟨w3, _ | ⟨w4, _ | ⟨wx, wy⟩⟩⟩⟩⟩⟩ <;> first | exact .nil | exact (.cons u0 (.cons w1 (.cons w2 (.cons w4 (.cons w3 (.cons w0 .nil))))))
  refine D.fn.ok sc_law_made (fun vs H Q E h => ?_) (fun cdv A outer s H vs Q E hr h => ?_)
  · obtain ⟨p, xs, ds, rfl, _⟩ := h
    rfl
  ·
    have r_Shape___init__ : Room 3 _ := hr.mono (by decide)
    have rm_Shape___init__ : Room (3 + 1) _ := hr.mono (by decide)
    obtain ⟨p, xs, ds, rfl, hp, hx, l5, es, kw, kg⟩ := h
    refine ⟨_, (pss_one (ps_try rfl rfl (fun _ _ _ O => (pss_one (ps_ret (pe_makeK0 D_Shape___init__.mkc G_Shape___init__ rm_Shape___init__ (by rfl) T.mg_Shape kb_Shape___init___0 (passE O) (pk_cons (pe_ix (ix_listK (K := K)) (pv 0) pe_int (fun _ _ => rfl)) (pk_cons (pe_ix (ix_listK (K := K)) (pv 0) pe_int (fun _ _ => rfl)) (pk_cons (pe_ix (ix_listK (K := K)) (pv 0) pe_int (fun _ _ => rfl)) (pk_cons (pe_ix (ix_listK (K := K)) (pv 0) pe_int (fun _ _ => rfl)) (pk_cons (pe_ix (ix_listK (K := K)) (pv 0) pe_int (fun _ _ => rfl)) pk_nil))))))))) (ph_as (i := 1) (by rfl) T.mg_NoShape sc_law_made.nd rfl (by rfl) (fun _ => (pss_cons (ps_if (PW.pt (pw_or (pt_not (pt_val (pe_callB (call_isXK (K := K)) (by rfl) T.z_isinstance bt_isinstance (pa_cons (pv 1) (pa_cons (pe_bltn (v := V.ty "ValueError") (by rfl) T.z_ValueError bt_ValueError rfl) pa_nil))))) (pw_or1 (pt_val (pe_callB (call_isXK (K := K)) (by rfl) T.z_isinstance bt_isinstance (pa_cons (pv 1) (pa_cons (pe_tup (pa_cons (pe_glob (v := V.ref a_NoStore) (by rfl) T.mg_NoStore rfl) (pa_cons (pe_glob (v := V.ref a_NoDesign) (by rfl) T.mg_NoDesign rfl) (pa_cons (pe_glob (v := V.ref a_NoRow) (by rfl) T.mg_NoRow rfl) pa_nil)))) pa_nil)))))))
      (pss_one (ps_ret (pe_lst (pa_cons pe_str pa_nil))))
      pss_nil)
    (pss_one (ps_ret (pe_lst (pa_cons (pe_xatK (K := K) (pv 1) rfl) pa_nil)))))) ph_none))), ?_⟩
    obtain ⟨v1, v2, v3, v4, v5, rfl⟩ : ∃ v1 v2 v3 v4 v5, xs = [v1, v2, v3, v4, v5] := by
      have := hx.length
      match xs, this.trans l5 with
      | [a, b, c, d, e], _ => exact ⟨a, b, c, d, e, rfl⟩
    refine ⟨_, rfl, p, _, _, v5, rfl, rfl, SqL.of hp, atI_nat (j := 4) rfl, _, rfl, p, _, _, v1, rfl, rfl, SqL.of hp, atI_nat (j := 0) rfl, _, rfl, p, _, _, v2, rfl, rfl, SqL.of hp, atI_nat (j := 1) rfl, _, rfl, p, _, _, v4, rfl, rfl, SqL.of hp, atI_nat (j := 3) rfl, _, rfl, p, _, _, v3, rfl, rfl, SqL.of hp, atI_nat (j := 2) rfl, fun x dx nx ndx nex => ?_⟩
    have s1 := same_new (o := HO.own x) ndx
    have nx1 : (upd H dx (.own x)) x = none := by rw [upd_ne (fun z => nex z.symm)]; exact nx
    have s2 := s1.trans (same_new (o := HO.ins a_Shape dx []) nx1)
    have ex : (upd (upd H dx (.own x)) x (.ins a_Shape dx [])) x = some (.ins a_Shape dx []) := upd_same
    generalize hH2 : upd (upd H dx (.own x)) x (.ins a_Shape dx []) = H2 at s2 ex ⊢
    cases hw : wrongM boundsM ds with
    | some w =>
      refine .inr ⟨x, v1, v2, v3, v4, v5, ds, w, rfl, hx.same s2, l5, es, hw, fun H' d s3 hd3 y C hC hy => ?_⟩
      cases hC
      refine ⟨true, T.xm_NoShape_NoShape, iteT ?_⟩
      have cl := T.xc_NoShape
      refine ⟨_, rfl, y, a_NoShape, some d, .ty "ValueError", true, rfl, hy, (fun d' z => by cases z; exact ⟨_, hd3⟩), cl, .inl ⟨rfl, T.xk_NoShape_ValueError⟩, _, rfl, iteF ?_⟩
      refine ⟨_, rfl, by show 3 ≤ sizeLine; decide, fun tp ntp => ?_⟩
      have s4 := same_new (o := HO.tup [V.ref a_NoStore, V.ref a_NoDesign, V.ref a_NoRow]) ntp
      refine ⟨y, a_NoShape, some d, .ref tp, false, rfl, s4 _ _ hy, (fun d' z => by cases z; exact ⟨_, s4 _ _ hd3⟩), cl, .inr ⟨tp, _, rfl, upd_same, rfl, kitAny_cons T.xk_NoShape_NoStore (kitAny_cons T.xk_NoShape_NoDesign (kitAny_cons T.xk_NoShape_NoRow kitAny_nil))⟩, _, rfl, iteF (nextK ?_)⟩
      refine ⟨_, rfl, y, a_NoShape, d, _, _, rfl, s4 _ _ hy, s4 _ _ hd3, cl, T.na_NoShape_name, rfl, by show 1 ≤ sizeLine; decide, fun l hl => kw w hw l _ (((s2.trans s3).trans s4).trans (same_new hl)) ?_ upd_same⟩
      exact Same.free ((s2.trans s3).trans s4) hl
    | none =>
      obtain ⟨hh, ok, rfl⟩ := good_five l5 hw
      have ev := ints_of5 hx
      cases ev
      refine .inl ⟨x, dx, hh, rfl, ex, ok, fun H' hsh kk => ⟨rfl, ?_⟩⟩
      exact kg hh ok rfl x H' nx (fun c o e => kk c o (s2 c o e) (fun z => by rw [z, nx] at e; cases e)) hsh
theorem sc_law_due : FnScope ["_law_five", "_law_bounds", "_law_thing", "_law_floor", "_law_greatest", "_law_name"] ["_law_five"] (defScope s_law_due) := ⟨rfl, rfl, rfl, by decide +kernel, rfl, by decide +kernel, by decide +kernel⟩

set_option maxHeartbeats 8000000 in
theorem ok_law_due {fa : Addr} {fd : FuncData} (T : Txt K mg a_BOUNDS a_BOUNDS_0 a_BOUNDS_1 a_BOUNDS_2 a_BOUNDS_3 a_BOUNDS_4 a_Shape a_NoShape a_NoStore a_NoRow a_NoDesign kA_Shape___init__) (D : Def K mg "_law_due" s_law_due fa fd) : FnOk P w K mg base CX0 2 fa fd ["_law_five"] sp_law_due05 := by
  obtain ⟨fa_law_whole, fd_law_whole, D_law_whole⟩ := T.d_law_whole
  have G_law_whole := ok_law_whole (P := P) (w := w) (base := base) T D_law_whole
  have b_law_whole := D_law_whole.fn.binds (ps := ["_law_thing", "_law_low", "_law_high"]) fun _ _ _ _ _ _ us hl => match us, hl with | [_, _, _], _ => rfl
  refine D.fn.ok sc_law_due (fun vs H Q E h => ?_) (fun cdv A outer s H vs Q E hr h => ?_)
  · obtain ⟨p, xs, ds, rfl, _⟩ := h
    rfl
  ·
    have r_law_whole : Room 1 _ := hr.mono (by decide)
    obtain ⟨p, xs, ds, rfl, hp, hx, l5, es, k⟩ := h
    refine ⟨_, (pss_cons (ps_asg (pe_lst (pa_cons (pe_tup (pa_cons pe_int (pa_cons pe_int pa_nil))) (pa_cons (pe_tup (pa_cons pe_int (pa_cons pe_int pa_nil))) (pa_cons (pe_tup (pa_cons pe_int (pa_cons pe_int pa_nil))) (pa_cons (pe_tup (pa_cons pe_int (pa_cons pe_int pa_nil))) (pa_cons (pe_tup (pa_cons pe_int (pa_cons pe_int pa_nil))) pa_nil)))))) (pg_name (i := 1) sc_law_due.nd rfl (by first | exact Or.inl rfl | exact Or.inr rfl)))
    (pss_cons (ps_for PassesOwn.never rfl (pi_zip3 (by rfl) T.z_zip (pa_cons (pv 0) (pa_cons (pv 1) (pa_cons (pe_lst (pa_cons pe_str (pa_cons pe_str (pa_cons pe_str (pa_cons pe_str (pa_cons pe_str pa_nil)))))) pa_nil)))) (pg_tupK (K := K) (n := 3) (by rfl) (pgs_cons (pg_name (i := 2) sc_law_due.nd rfl (by first | exact Or.inl rfl | exact Or.inr rfl)) (pgs_cons (pg_tupK (K := K) (n := 2) (by rfl) (pgs_cons (pg_name (i := 3) sc_law_due.nd rfl (by first | exact Or.inl rfl | exact Or.inr rfl)) (pgs_cons (pg_name (i := 4) sc_law_due.nd rfl (by first | exact Or.inl rfl | exact Or.inr rfl)) pgs_nil))) (pgs_cons (pg_name (i := 5) sc_law_due.nd rfl (by first | exact Or.inl rfl | exact Or.inr rfl)) pgs_nil))))
      (pss_one (ps_if (pt_not (pt_val (pe_call G_law_whole r_law_whole (by rfl) D_law_whole.mg D_law_whole.fn.kp b_law_whole .nil pass0 (pa_cons (pv 2) (pa_cons (pv 3) (pa_cons (pv 4) pa_nil))))))
      (pss_one (ps_ret (pe_lst (pa_cons (pv 5) pa_nil))))
      pss_nil)))
    (pss_one (ps_ret (pe_lst pa_nil))))), ?_⟩
    have xl := hx.length
    refine ⟨by show 2 ≤ sizeLine; decide, fun t1 h1 => ⟨by show 2 ≤ sizeLine; decide, fun t2 h2 => ⟨by show 2 ≤ sizeLine; decide, fun t3 h3 => ⟨by show 2 ≤ sizeLine; decide, fun t4 h4 => ⟨by show 2 ≤ sizeLine; decide, fun t5 h5 => ⟨by show 5 ≤ sizeLine; decide, fun L hL => ?_⟩⟩⟩⟩⟩⟩
    have s1 := same_new (o := HO.tup [V.int 2, V.int 8]) h1
    have s2 := same_new (o := HO.tup [V.int 2, V.int 8]) h2
    have s3 := same_new (o := HO.tup [V.int 2, V.int 8]) h3
    have s4 := same_new (o := HO.tup [V.int 1, V.int 8]) h4
    have s5 := same_new (o := HO.tup [V.int 2, V.int 64]) h5
    have sL := same_new (o := HO.lst [V.ref t1, .ref t2, .ref t3, .ref t4, .ref t5]) hL
    have e5 := sL _ _ (upd_same (o := HO.tup [V.int 2, V.int 64]) (a := t5))
    have e4 := (s5.trans sL) _ _ (upd_same (o := HO.tup [V.int 1, V.int 8]) (a := t4))
    have e3 := ((s4.trans s5).trans sL) _ _ (upd_same (o := HO.tup [V.int 2, V.int 8]) (a := t3))
    have e2 := (((s3.trans s4).trans s5).trans sL) _ _ (upd_same (o := HO.tup [V.int 2, V.int 8]) (a := t2))
    have e1 := ((((s2.trans s3).trans s4).trans s5).trans sL) _ _ (upd_same (o := HO.tup [V.int 2, V.int 8]) (a := t1))
    have SL := ((((s1.trans s2).trans s3).trans s4).trans s5).trans sL
    have eL := fun G : Hp => upd_same (o := HO.lst [V.ref t1, .ref t2, .ref t3, .ref t4, .ref t5]) (a := L) (H := G)
    generalize hHL : upd _ L (.lst [V.ref t1, .ref t2, .ref t3, .ref t4, .ref t5]) = HL at SL e1 e2 e3 e4 e5 ⊢
    have eL : HL L = some (.lst [V.ref t1, .ref t2, .ref t3, .ref t4, .ref t5]) := by rw [← hHL]; exact upd_same
    clear s1 s2 s3 s4 s5 sL h1 h2 h3 h4 h5 hL
    try dsimp only [gName]
    refine ⟨_, rfl, _, rfl, by show 5 ≤ sizeLine; decide, fun N hN => ?_⟩
    have sN := same_new (o := HO.lst [V.str "rows", .str "entries", .str "fan", .str "buckets", .str "bits"]) hN
    have eN := upd_same (H := HL) (o := HO.lst [V.str "rows", .str "entries", .str "fan", .str "buckets", .str "bits"]) (a := N)
    have eL2 := sN _ _ eL
    have e1' := sN _ _ e1
    have e2' := sN _ _ e2
    have e3' := sN _ _ e3
    have e4' := sN _ _ e4
    have e5' := sN _ _ e5
    have SN := SL.trans sN
    generalize upd HL N (.lst [V.str "rows", .str "entries", .str "fan", .str "buckets", .str "bits"]) = H0 at SN eN eL2 e1' e2' e3' e4' e5' ⊢
    clear e1 e2 e3 e4 e5 eL SL sN hN
    have p0 := SN _ _ hp
    have x0 := hx.same SN
    refine ⟨(true, p), (true, L), (true, N), xs, [V.ref t1, .ref t2, .ref t3, .ref t4, .ref t5], [V.str "rows", .str "entries", .str "fan", .str "buckets", .str "bits"], rfl, SqS.lst p0, SqS.lst eL2, SqS.lst eN, for_zip3 (K := K) (n := 5) ⟨by rw [xl, l5], rfl, rfl⟩ (fun i σ H' => ∃ v2 v3 v4 v5, σ = [some (.ref p), some (.ref L), v2, v3, v4, v5] ∧ Same H0 H' ∧ wrongM boundsM ds = wrongM (boundsM.drop i) (ds.drop i)) ⟨_, _, _, _, rfl, Same.refl _, rfl⟩ (fun i σ H' ⟨_, _, _, _, _, s, _⟩ => SqS.lst (s _ _ p0)) (fun i σ H' ⟨_, _, _, _, _, s, _⟩ => SqS.lst (s _ _ eL2)) (fun i σ H' ⟨_, _, _, _, _, s, _⟩ => SqS.lst (s _ _ eN)) ?_ ?_⟩
    · rintro i y b nmv TT σ H1 hy hb hnm ⟨v2, v3, v4, v5, rfl, s1, ew⟩ hTT
      have s2 := s1.trans (same_new (o := HO.tup [y, b, nmv]) hTT)
      obtain ⟨d, hd, hdy⟩ := x0.get hy
      obtain ⟨tb, nm, lo, hi, rfl, rfl, htb, hB⟩ : ∃ (tb : Addr) (nm : Str) (lo hi : Int), b = .ref tb ∧ nmv = .str nm ∧ H0 tb = some (.tup [.int lo, .int hi]) ∧ boundsM.drop i = (nm, lo, hi) :: boundsM.drop (i + 1) := by
        match i, hb, hnm with
        | 0, hb, hn => cases hb; cases hn; exact ⟨_, _, 2, 8, rfl, rfl, e1', rfl⟩
        | 1, hb, hn => cases hb; cases hn; exact ⟨_, _, 2, 8, rfl, rfl, e2', rfl⟩
        | 2, hb, hn => cases hb; cases hn; exact ⟨_, _, 2, 8, rfl, rfl, e3', rfl⟩
        | 3, hb, hn => cases hb; cases hn; exact ⟨_, _, 1, 8, rfl, rfl, e4', rfl⟩
        | 4, hb, hn => cases hb; cases hn; exact ⟨_, _, 2, 64, rfl, rfl, e5', rfl⟩
        | n + 5, hb, hn => simp at hb
      have hdr : ds.drop i = d :: ds.drop (i + 1) := by
        have hl := (List.getElem?_eq_some_iff.mp hd).1
        rw [List.drop_eq_getElem_cons hl]
        have := (List.getElem?_eq_some_iff.mp hd).2
        rw [this]
      rw [hB, hdr] at ew
      have ew2 : wrongM boundsM ds = if wrongM.wholeB lo hi d = true then wrongM (boundsM.drop (i + 1)) (ds.drop (i + 1)) else some nm := ew
      have hd2 := hdy.same s2
      refine ⟨TT, _, rfl, SqT.of upd_same, rfl, _, _, rfl, _, _, rfl, tb, _, rfl, SqT.of (s2 _ _ htb), rfl, _, _, rfl, _, _, rfl, rfl, _, _, rfl, rfl, ?_⟩
      try dsimp only [gName]
      refine ⟨_, rfl, _, rfl, _, rfl, y, d, 4, lo, hi, rfl, hd2, es d (List.mem_of_getElem? hd), ?_⟩
      have ewh : wholeD lo hi d = wrongM.wholeB lo hi d := by cases d <;> rfl
      rw [ewh]
      cases hw : wrongM.wholeB lo hi d with
      | true =>
        rw [hw, if_pos rfl] at ew2
        exact ⟨_, rfl, iteF (nextK ⟨_, _, _, _, rfl, s2, ew2⟩)⟩
      | false =>
        rw [hw, if_neg Bool.false_ne_true] at ew2
        refine ⟨_, rfl, iteT ⟨_, rfl, by show 1 ≤ sizeLine; decide, fun l hl => ?_⟩⟩
        exact k l _ ((SN.trans s2).trans (same_new hl)) (by rw [ew2]; exact upd_same)
    · rintro σ H1 ⟨v2, v3, v4, v5, rfl, s1, ew⟩
      have ew2 : wrongM boundsM ds = none := ew
      refine ⟨by show 0 ≤ sizeLine; decide, fun l hl => ?_⟩
      exact k l _ ((SN.trans s1).trans (same_new hl)) (by rw [ew2]; exact upd_same)
theorem sc_law_is : FnScope ["_law_shape", "_law_five", "_law_told", "_law_one"] ["_law_shape", "_law_five"] (defScope s_law_is) := ⟨rfl, rfl, rfl, by decide +kernel, rfl, by decide +kernel, by decide +kernel⟩

set_option maxHeartbeats 8000000 in
theorem ok_law_is {fa : Addr} {fd : FuncData} (T : Txt K mg a_BOUNDS a_BOUNDS_0 a_BOUNDS_1 a_BOUNDS_2 a_BOUNDS_3 a_BOUNDS_4 a_Shape a_NoShape a_NoStore a_NoRow a_NoDesign kA_Shape___init__) (D : Def K mg "_law_is" s_law_is fa fd) : FnOk P w K mg base CX0 5 fa fd ["_law_shape", "_law_five"] (sp_law_is05 a_Shape) := by
  obtain ⟨fa_Shape_bits, fd_Shape_bits, D_Shape_bits⟩ := T.d_Shape_bits
  have G_Shape_bits := ok_Shape_bits (P := P) (w := w) (base := base) T D_Shape_bits
  have b_Shape_bits := D_Shape_bits.fn.binds (ps := ["self"]) fun _ _ _ _ _ _ us hl => match us, hl with | [_], _ => rfl
  obtain ⟨fa_Shape_buckets, fd_Shape_buckets, D_Shape_buckets⟩ := T.d_Shape_buckets
  have G_Shape_buckets := ok_Shape_buckets (P := P) (w := w) (base := base) T D_Shape_buckets
  have b_Shape_buckets := D_Shape_buckets.fn.binds (ps := ["self"]) fun _ _ _ _ _ _ us hl => match us, hl with | [_], _ => rfl
  obtain ⟨fa_Shape_fan, fd_Shape_fan, D_Shape_fan⟩ := T.d_Shape_fan
  have G_Shape_fan := ok_Shape_fan (P := P) (w := w) (base := base) T D_Shape_fan
  have b_Shape_fan := D_Shape_fan.fn.binds (ps := ["self"]) fun _ _ _ _ _ _ us hl => match us, hl with | [_], _ => rfl
  obtain ⟨fa_Shape_entries, fd_Shape_entries, D_Shape_entries⟩ := T.d_Shape_entries
  have G_Shape_entries := ok_Shape_entries (P := P) (w := w) (base := base) T D_Shape_entries
  have b_Shape_entries := D_Shape_entries.fn.binds (ps := ["self"]) fun _ _ _ _ _ _ us hl => match us, hl with | [_], _ => rfl
  obtain ⟨fa_Shape_rows, fd_Shape_rows, D_Shape_rows⟩ := T.d_Shape_rows
  have G_Shape_rows := ok_Shape_rows (P := P) (w := w) (base := base) T D_Shape_rows
  have b_Shape_rows := D_Shape_rows.fn.binds (ps := ["self"]) fun _ _ _ _ _ _ us hl => match us, hl with | [_], _ => rfl
  obtain ⟨fa_law_whole, fd_law_whole, D_law_whole⟩ := T.d_law_whole
  have G_law_whole := ok_law_whole (P := P) (w := w) (base := base) T D_law_whole
  have b_law_whole := D_law_whole.fn.binds (ps := ["_law_thing", "_law_low", "_law_high"]) fun _ _ _ _ _ _ us hl => match us, hl with | [_, _, _], _ => rfl
  obtain ⟨fa_Shape___repr__, fd_Shape___repr__, D_Shape___repr__⟩ := T.d_Shape___repr__
  have G_Shape___repr__ := ok_Shape___repr__ (P := P) (w := w) (base := base) T D_Shape___repr__
  have b_Shape___repr__ := D_Shape___repr__.fn.binds (ps := ["self"]) fun _ _ _ _ _ _ us hl => match us, hl with | [_], _ => rfl
  refine D.fn.ok sc_law_is (fun vs H Q E h => ?_) (fun cdv A outer s H vs Q E hr h => ?_)
  · obtain ⟨x, p, hh, rfl, _⟩ := h
    rfl
  ·
    have r_Shape_bits : Room 1 _ := hr.mono (by decide)
    have rm_Shape_bits : Room (1 + 1) _ := hr.mono (by decide)
    have r_Shape_buckets : Room 1 _ := hr.mono (by decide)
    have rm_Shape_buckets : Room (1 + 1) _ := hr.mono (by decide)
    have r_Shape_fan : Room 1 _ := hr.mono (by decide)
    have rm_Shape_fan : Room (1 + 1) _ := hr.mono (by decide)
    have r_Shape_entries : Room 1 _ := hr.mono (by decide)
    have rm_Shape_entries : Room (1 + 1) _ := hr.mono (by decide)
    have r_Shape_rows : Room 1 _ := hr.mono (by decide)
    have rm_Shape_rows : Room (1 + 1) _ := hr.mono (by decide)
    have r_law_whole : Room 1 _ := hr.mono (by decide)
    have r_Shape___repr__ : Room 3 _ := hr.mono (by decide)
    have rm_Shape___repr__ : Room (3 + 1) _ := hr.mono (by decide)
    obtain ⟨x, p, hh, rfl, hx, ok, hp, k⟩ := h
    refine ⟨_, (pss_cons (ps_asg (pe_lst (pa_cons (pe_propE (pv 0) T.cl_Shape D_Shape_rows.prp G_Shape_rows rm_Shape_rows b_Shape_rows) (pa_cons (pe_propE (pv 0) T.cl_Shape D_Shape_entries.prp G_Shape_entries rm_Shape_entries b_Shape_entries) (pa_cons (pe_propE (pv 0) T.cl_Shape D_Shape_fan.prp G_Shape_fan rm_Shape_fan b_Shape_fan) (pa_cons (pe_propE (pv 0) T.cl_Shape D_Shape_buckets.prp G_Shape_buckets rm_Shape_buckets b_Shape_buckets) (pa_cons (pe_propE (pv 0) T.cl_Shape D_Shape_bits.prp G_Shape_bits rm_Shape_bits b_Shape_bits) pa_nil)))))) (pg_name (i := 2) sc_law_is.nd rfl (by first | exact Or.inl rfl | exact Or.inr rfl)))
    (pss_cons (ps_if (PW.pt (pw_or (pt_cmpR (op_neDK (K := K) hr.units) (pv 2) (pv 1) (nomark _)) (pw_or1 (pt_not (pt_val (pe_callB (cr_all rfl) (by rfl) T.z_all bt_all (pa_cons (pe_lc (own := [("_law_one", 3)]) (g := gName 3) (by rfl) sc_law_is.nd (pi_list (pv 2)) (blkOk_by (own := [("_law_one", 3)]) (N := ["_law_shape", "_law_five", "_law_told", "_law_one"]) (sc := defScope s_law_is) (by decide +kernel))
        (fun _ _ _ _ _ => (pg_name (i := 3) sc_law_is.nd rfl (by first | exact Or.inl rfl | exact Or.inr rfl))) (fun _ _ _ _ _ => pts_nil)
        (fun _ _ _ _ _ => (pe_call G_law_whole r_law_whole (by rfl) D_law_whole.mg D_law_whole.fn.kp b_law_whole .nil pass0 (pa_cons (pv 3) (pa_cons pe_int (pa_cons pe_int pa_nil)))))) pa_nil)))))))
      (pss_one (ps_ret pe_bl))
      pss_nil)
    (pss_one (ps_ret (pe_cmpR op_eq (pe_callB (call_reprO D_Shape___repr__.meth G_Shape___repr__ rm_Shape___repr__ b_Shape___repr__ hr.units) (by rfl) T.z_repr bt_repr (pa_cons (pv 0) pa_nil)) (pe_op op_add_str (pe_op op_add_str pe_str (pe_join pe_str (pe_lc (own := [("_law_one", 3)]) (g := gName 3) (by rfl) sc_law_is.nd (pi_list (pv 1)) (blkOk_by (own := [("_law_one", 3)]) (N := ["_law_shape", "_law_five", "_law_told", "_law_one"]) (sc := defScope s_law_is) (by decide +kernel))
        (fun _ _ _ _ _ => (pg_name (i := 3) sc_law_is.nd rfl (by first | exact Or.inl rfl | exact Or.inr rfl))) (fun _ _ _ _ _ => pts_nil)
        (fun _ _ _ _ _ => (pe_callTy call_str_int (by rfl) T.z_str bt_str (pa_cons (pv 3) pa_nil)))))) pe_str) (nomark _)))))), ?_⟩
    obtain ⟨dx, t, ex, et⟩ := id hx
    have o1 := ok.r
    have o2 := ok.e
    have o3 := ok.f
    have o4 := ok.b
    have o5 := ok.c
    refine ⟨_, rfl, x, dx, _, rfl, ex, x, hh, rfl, hx, _, rfl, x, dx, _, rfl, ex, x, hh, rfl, hx, _, rfl, x, dx, _, rfl, ex, x, hh, rfl, hx, _, rfl, x, dx, _, rfl, ex, x, hh, rfl, hx, _, rfl, x, dx, _, rfl, ex, x, hh, rfl, hx, by show 5 ≤ sizeLine; decide, fun l hl => ?_⟩
    have s1 := same_new (o := HO.lst [V.int (hh.r : Nat), .int (hh.e : Nat), .int (hh.f : Nat), .int (hh.b : Nat), .int (hh.c : Nat)]) hl
    have el : (upd H l (.lst [V.int (hh.r : Nat), .int (hh.e : Nat), .int (hh.f : Nat), .int (hh.b : Nat), .int (hh.c : Nat)])) l = some (.lst ((shI hh).map V.int)) := upd_same
    have s1' : Same H (upd H l (.lst [V.int ((fun x : Sh => x.r) hh : Nat), .int ((fun x : Sh => x.e) hh : Nat), .int ((fun x : Sh => x.f) hh : Nat), .int ((fun x : Sh => x.b) hh : Nat), .int ((fun x : Sh => x.c) hh : Nat)])) := s1
    generalize upd H l (.lst [V.int ((fun x : Sh => x.r) hh : Nat), .int ((fun x : Sh => x.e) hh : Nat), .int ((fun x : Sh => x.f) hh : Nat), .int ((fun x : Sh => x.b) hh : Nat), .int ((fun x : Sh => x.c) hh : Nat)]) = H1 at s1' el ⊢
    have e1 : Eas 1 (.list ((shI hh).map PyData.int)) := Eas.lst (by show 5 ≤ 1000; decide) fun d hd => by
      obtain ⟨i, _, rfl⟩ := List.mem_map.mp hd
      exact Eas.int 0 i
    try dsimp only [gName]
    refine ⟨_, rfl, _, rfl, _, _, .lst (SqL.of el) (DtAll.dp (dt_ints H1 (shI hh))), .lst (SqL.of (s1' _ _ hp)) (DtAll.dp (dt_ints H1 (shI hh))), e1.shaped (by decide), e1.shaped (by decide), _, rfl, ?_⟩
    rw [SeqAt.eqv_refl _ e1.can]
    refine iteF ?_
    have inb : ∀ n ∈ shI hh, 1 ≤ n ∧ n ≤ 64 := fun n hn => by
      simp only [shI, List.mem_cons, List.not_mem_nil, or_false] at hn
      rcases hn with rfl | rfl | rfl | rfl | rfl <;> omega
    have geti : ∀ {i : Nat} {y : V}, ((shI hh).map V.int)[i]? = some y → ∃ n, y = .int n ∧ n ∈ shI hh ∧ (shI hh).getD i 0 = n := fun {i y} hy => by
      rw [List.getElem?_map] at hy
      obtain ⟨n, hn, rfl⟩ := Option.map_eq_some_iff.mp hy
      exact ⟨n, rfl, List.mem_of_getElem? hn, by rw [List.getD_eq_getElem?_getD, hn]; rfl⟩
    refine ⟨_, rfl, l, rfl, ⟨_, SqL.of el⟩, fun D hD => ?_⟩
    refine lc_list_map (K := K) hD (fun i => .bl true) el (lt_line (show 5 ≤ 100000 by decide)) ?_ ?_
    · intro i y H2 R F hy s2 hR
      obtain ⟨n, rfl, hn, _⟩ := geti hy
      have hb := inb n hn
      refine ⟨rfl, ?_⟩
      refine ⟨_, rfl, .int n, .int n, 0, 1, 64, rfl, .int n, Eas.int 0 n, ?_⟩
      rw [show wholeD 1 64 (.int n) = true by show (decide ((1 : Int) ≤ n) && decide (n ≤ 64)) = true; rw [decide_eq_true hb.1, decide_eq_true hb.2]; rfl]
      exact hR _ (Same.refl _)
    · intro H2 s2 hD2
      refine ⟨D, [true, true, true, true, true], rfl, SqL.of hD2, _, rfl, iteF (nextK ?_)⟩
      have s02 := s1'.trans s2
      have hx2 : ShAt a_Shape H2 x hh := ⟨dx, t, s02 _ _ ex, s02 _ _ et⟩
      have hp2 := s02 _ _ hp
      clear s1' s2 hD2 hD el
      refine ⟨_, rfl, x, dx, _, rfl, s02 _ _ ex, x, hh, rfl, hx2, ok, _, rfl, ?_⟩
      refine ⟨⟨_, rfl⟩, _, rfl, p, rfl, ⟨_, SqL.of hp2⟩, fun D2 hD2 => ?_⟩
      refine lc_list_map (K := K) hD2 (fun i => .str (toString ((shI hh).getD i 0))) hp2 (lt_line (show 5 ≤ 100000 by decide)) ?_ ?_
      · intro i y H3 R F hy s3 hR
        obtain ⟨n, rfl, hn, eg⟩ := geti hy
        have hb := inb n hn
        rw [eg] at hR
        refine ⟨rfl, ?_⟩
        refine ⟨_, rfl, n, rfl, ?_, hR _ (Same.refl _)⟩
        have := num_log (n := n.toNat) (by omega)
        rwa [Int.toNat_of_nonneg (by omega)] at this
      · intro H3 s3 hD3
        have l1 := num_len (show hh.r ≤ 64 by omega)
        have l2 := num_len (show hh.e ≤ 64 by omega)
        have l3 := num_len (show hh.f ≤ 64 by omega)
        have l4 := num_len (show hh.b ≤ 64 by omega)
        have l5 := num_len (show hh.c ≤ 64 by omega)
        have z1 : ("Shape(" : Str).length = 6 := by decide +kernel
        have z2 : (", " : Str).length = 2 := by decide +kernel
        have z3 : (")" : Str).length = 1 := by decide +kernel
        have jl := join_len20 (", " : Str) [toString (hh.r : Int), toString (hh.e : Int), toString (hh.f : Int), toString (hh.b : Int), toString (hh.c : Int)]
        have sm : ([(toString (hh.r : Int) : Str), toString (hh.e : Int), toString (hh.f : Int), toString (hh.b : Int), toString (hh.c : Int)].map (fun x => x.length)).sum + [(toString (hh.r : Int) : Str), toString (hh.e : Int), toString (hh.f : Int), toString (hh.b : Int), toString (hh.c : Int)].length * (", " : Str).length ≤ 20 := by
          simp only [List.map_cons, List.map_nil, List.sum_cons, List.sum_nil, List.length_cons, List.length_nil, z2]
          omega
        refine ⟨(", " : Str), D2, [(toString (hh.r : Int) : Str), toString (hh.e : Int), toString (hh.f : Int), toString (hh.b : Int), toString (hh.c : Int)], rfl, rfl, .inl (SqL.of hD3), Nat.le_trans sm (by decide), ?_⟩
        have jl2 := Nat.le_trans jl sm
        refine ⟨_, _, rfl, rfl, ?_, _, _, rfl, rfl, ?_, ?_⟩
        · exact Nat.le_trans (show _ ≤ 100 by rw [z1]; omega) (by decide)
        · exact Nat.le_trans (show _ ≤ 100 by rw [Str.length_append, z1, z3]; omega) (by decide)
        have er : repS hh.r hh.e hh.f hh.b hh.c = (("Shape(" : Str) ++ Txt.join ", " [(toString (hh.r : Int) : Str), toString (hh.e : Int), toString (hh.f : Int), toString (hh.b : Int), toString (hh.c : Int)]) ++ ")" := rep_join _ _ _ _ _
        rw [← er]
        refine ⟨rfl, ?_⟩
        rw [decide_eq_true rfl]
        exact k _ (s02.trans s3)
theorem sc_law_left_out : FnScope ["_law_bag_here", "_law_five", "_law_one", "_law_two", "_law_three", "_law_four", "_law_last", "_law_way"] ["_law_bag_here", "_law_five"] (defScope s_law_left_out) := ⟨rfl, rfl, rfl, by decide +kernel, rfl, by decide +kernel, by decide +kernel⟩

set_option maxHeartbeats 8000000 in
theorem ok_law_left_out {fa : Addr} {fd : FuncData} (T : Txt K mg a_BOUNDS a_BOUNDS_0 a_BOUNDS_1 a_BOUNDS_2 a_BOUNDS_3 a_BOUNDS_4 a_Shape a_NoShape a_NoStore a_NoRow a_NoDesign kA_Shape___init__) (D : Def K mg "_law_left_out" s_law_left_out fa fd) : FnOk P w K mg base CX0 5 fa fd ["_law_bag_here", "_law_five"] (sp_left05 a_Shape) := by
  obtain ⟨fa_law_take, fd_law_take, D_law_take⟩ := T.d_law_take
  have G_law_take := ok_law_take (P := P) (w := w) (base := base) T D_law_take
  have b_law_take := D_law_take.fn.binds (ps := ["_law_bag_here", "_law_many"]) fun _ _ _ _ _ _ us hl => match us, hl with | [_, _], _ => rfl
  obtain ⟨fa_Shape___init__, fd_Shape___init__, D_Shape___init__⟩ := T.d_Shape___init__
  have G_Shape___init__ := ok_Shape___init__ (P := P) (w := w) (base := base) T D_Shape___init__
  obtain ⟨kc_Shape___init__, kdd_Shape___init__, kn_Shape___init__, ksl_Shape___init__, h0_Shape___init__, t0_Shape___init__, h1_Shape___init__, t1_Shape___init__, h2_Shape___init__, t2_Shape___init__, h3_Shape___init__, t3_Shape___init__, h4_Shape___init__, t4_Shape___init__, td_Shape___init___rows, td_Shape___init___entries, td_Shape___init___fan, td_Shape___init___buckets, td_Shape___init___bits, hlK_Shape___init__⟩ := T.kk_Shape___init__
  have kb_Shape___init___0 : KBinds K fd_Shape___init__ ["self", "rows", "entries", "fan", "buckets", "bits"] ["rows", "bits"] (fun us ws => match us, ws with | [u0], [w0, w1] => [u0, w0, (Value.int 4 td_Shape___init___entries), (Value.int 3 td_Shape___init___fan), (Value.int 4 td_Shape___init___buckets), w1] | _, _ => []) (fun us ws => match us, ws with | [u0], [w0, w1] => [u0, w0, (V.int 4), (V.int 3), (V.int 4), w1] | _, _ => []) := by
    obtain ⟨oc, od, doc, pm, an, cdv, ct, osl, rfl, lk, hcd⟩ := D_Shape___init__.fn.ex
    refine ⟨fun s us ws X hl => ?_, fun {vs us zs ws} r1 r2 => ?_⟩
    · rcases us with _ | ⟨u0, _ | ⟨_, _⟩⟩ <;> rcases ws with _ | ⟨w0, _ | ⟨w1, _ | ⟨_, _⟩⟩⟩ <;> first | (cases hl; done) | exact .of_eq rfl | exact PySem.W.kp_binds X (fun S => (peek_load hlK_Shape___init__).trans (rfl)) | exact PySem.W.kp_binds X (fun S => (peek_load hlK_Shape___init__).trans ((peek_load hlK_Shape___init__).trans (rfl))) | exact PySem.W.kp_binds X (fun S => (peek_load hlK_Shape___init__).trans ((peek_load hlK_Shape___init__).trans ((peek_load hlK_Shape___init__).trans (rfl)))) | exact PySem.W.kp_binds X (fun S => (peek_load hlK_Shape___init__).trans ((peek_load hlK_Shape___init__).trans ((peek_load hlK_Shape___init__).trans ((peek_load hlK_Shape___init__).trans (rfl))))) | exact PySem.W.kp_binds X (fun S => (peek_load hlK_Shape___init__).trans ((peek_load hlK_Shape___init__).trans ((peek_load hlK_Shape___init__).trans ((peek_load hlK_Shape___init__).trans ((peek_load hlK_Shape___init__).trans (rfl))))))
    · rcases r1 with _ | ⟨u0, _ | ⟨ux, uy⟩⟩ <;> rcases r2 with _ | ⟨w0, _ | ⟨w1, _ | ⟨wx, wy⟩⟩⟩ <;> first | exact .nil | exact (.cons u0 (.cons w0 (.cons ⟨_, rfl⟩ (.cons ⟨_, rfl⟩ (.cons ⟨_, rfl⟩ (.cons w1 .nil))))))
  obtain ⟨kc_Shape___init__, kdd_Shape___init__, kn_Shape___init__, ksl_Shape___init__, h0_Shape___init__, t0_Shape___init__, h1_Shape___init__, t1_Shape___init__, h2_Shape___init__, t2_Shape___init__, h3_Shape___init__, t3_Shape___init__, h4_Shape___init__, t4_Shape___init__, td_Shape___init___rows, td_Shape___init___entries, td_Shape___init___fan, td_Shape___init___buckets, td_Shape___init___bits, hlK_Shape___init__⟩ := T.kk_Shape___init__
  have kb_Shape___init___1 : KBinds K fd_Shape___init__ ["self", "rows", "entries", "fan", "buckets", "bits"] ["entries", "fan"] (fun us ws => match us, ws with | [u0], [w0, w1] => [u0, (Value.int 4 td_Shape___init___rows), w0, w1, (Value.int 4 td_Shape___init___buckets), (Value.int 16 td_Shape___init___bits)] | _, _ => []) (fun us ws => match us, ws with | [u0], [w0, w1] => [u0, (V.int 4), w0, w1, (V.int 4), (V.int 16)] | _, _ => []) := by
    obtain ⟨oc, od, doc, pm, an, cdv, ct, osl, rfl, lk, hcd⟩ := D_Shape___init__.fn.ex
    refine ⟨fun s us ws X hl => ?_, fun {vs us zs ws} r1 r2 => ?_⟩
    · rcases us with _ | ⟨u0, _ | ⟨_, _⟩⟩ <;> rcases ws with _ | ⟨w0, _ | ⟨w1, _ | ⟨_, _⟩⟩⟩ <;> first | (cases hl; done) | exact .of_eq rfl | exact PySem.W.kp_binds X (fun S => (peek_load hlK_Shape___init__).trans (rfl)) | exact PySem.W.kp_binds X (fun S => (peek_load hlK_Shape___init__).trans ((peek_load hlK_Shape___init__).trans (rfl))) | exact PySem.W.kp_binds X (fun S => (peek_load hlK_Shape___init__).trans ((peek_load hlK_Shape___init__).trans ((peek_load hlK_Shape___init__).trans (rfl)))) | exact PySem.W.kp_binds X (fun S => (peek_load hlK_Shape___init__).trans ((peek_load hlK_Shape___init__).trans ((peek_load hlK_Shape___init__).trans ((peek_load hlK_Shape___init__).trans (rfl))))) | exact PySem.W.kp_binds X (fun S => (peek_load hlK_Shape___init__).trans ((peek_load hlK_Shape___init__).trans ((peek_load hlK_Shape___init__).trans ((peek_load hlK_Shape___init__).trans ((peek_load hlK_Shape___init__).trans (rfl))))))
    · rcases r1 with _ | ⟨u0, _ | ⟨ux, uy⟩⟩ <;> rcases r2 with _ | ⟨w0, _ | ⟨w1, _ | ⟨wx, wy⟩⟩⟩ <;> first | exact .nil | exact (.cons u0 (.cons ⟨_, rfl⟩ (.cons w0 (.cons w1 (.cons ⟨_, rfl⟩ (.cons ⟨_, rfl⟩ .nil))))))
  obtain ⟨kc_Shape___init__, kdd_Shape___init__, kn_Shape___init__, ksl_Shape___init__, h0_Shape___init__, t0_Shape___init__, h1_Shape___init__, t1_Shape___init__, h2_Shape___init__, t2_Shape___init__, h3_Shape___init__, t3_Shape___init__, h4_Shape___init__, t4_Shape___init__, td_Shape___init___rows, td_Shape___init___entries, td_Shape___init___fan, td_Shape___init___buckets, td_Shape___init___bits, hlK_Shape___init__⟩ := T.kk_Shape___init__
  have kb_Shape___init___2 : KBinds K fd_Shape___init__ ["self", "rows", "entries", "fan", "buckets", "bits"] ["buckets"] (fun us ws => match us, ws with | [u0], [w0] => [u0, (Value.int 4 td_Shape___init___rows), (Value.int 4 td_Shape___init___entries), (Value.int 3 td_Shape___init___fan), w0, (Value.int 16 td_Shape___init___bits)] | _, _ => []) (fun us ws => match us, ws with | [u0], [w0] => [u0, (V.int 4), (V.int 4), (V.int 3), w0, (V.int 16)] | _, _ => []) := by
    obtain ⟨oc, od, doc, pm, an, cdv, ct, osl, rfl, lk, hcd⟩ := D_Shape___init__.fn.ex
    refine ⟨fun s us ws X hl => ?_, fun {vs us zs ws} r1 r2 => ?_⟩
    · rcases us with _ | ⟨u0, _ | ⟨_, _⟩⟩ <;> rcases ws with _ | ⟨w0, _ | ⟨_, _⟩⟩ <;> first | (cases hl; done) | exact .of_eq rfl | exact PySem.W.kp_binds X (fun S => (peek_load hlK_Shape___init__).trans (rfl)) | exact PySem.W.kp_binds X (fun S => (peek_load hlK_Shape___init__).trans ((peek_load hlK_Shape___init__).trans (rfl))) | exact PySem.W.kp_binds X (fun S => (peek_load hlK_Shape___init__).trans ((peek_load hlK_Shape___init__).trans ((peek_load hlK_Shape___init__).trans (rfl)))) | exact PySem.W.kp_binds X (fun S => (peek_load hlK_Shape___init__).trans ((peek_load hlK_Shape___init__).trans ((peek_load hlK_Shape___init__).trans ((peek_load hlK_Shape___init__).trans (rfl))))) | exact PySem.W.kp_binds X (fun S => (peek_load hlK_Shape___init__).trans ((peek_load hlK_Shape___init__).trans ((peek_load hlK_Shape___init__).trans ((peek_load hlK_Shape___init__).trans ((peek_load hlK_Shape___init__).trans (rfl))))))
    · rcases r1 with _ | ⟨u0, _ | ⟨ux, uy⟩⟩ <;> rcases r2 with _ | ⟨w0, _ | ⟨wx, wy⟩⟩ <;> first | exact .nil | exact (.cons u0 (.cons ⟨_, rfl⟩ (.cons ⟨_, rfl⟩ (.cons ⟨_, rfl⟩ (.cons w0 (.cons ⟨_, rfl⟩ .nil))))))
  obtain ⟨kc_Shape___init__, kdd_Shape___init__, kn_Shape___init__, ksl_Shape___init__, h0_Shape___init__, t0_Shape___init__, h1_Shape___init__, t1_Shape___init__, h2_Shape___init__, t2_Shape___init__, h3_Shape___init__, t3_Shape___init__, h4_Shape___init__, t4_Shape___init__, td_Shape___init___rows, td_Shape___init___entries, td_Shape___init___fan, td_Shape___init___buckets, td_Shape___init___bits, hlK_Shape___init__⟩ := T.kk_Shape___init__
  have kb_Shape___init___3 : KBinds K fd_Shape___init__ ["self", "rows", "entries", "fan", "buckets", "bits"] [] (fun us ws => match us, ws with | [u0], [] => [u0, (Value.int 4 td_Shape___init___rows), (Value.int 4 td_Shape___init___entries), (Value.int 3 td_Shape___init___fan), (Value.int 4 td_Shape___init___buckets), (Value.int 16 td_Shape___init___bits)] | _, _ => []) (fun us ws => match us, ws with | [u0], [] => [u0, (V.int 4), (V.int 4), (V.int 3), (V.int 4), (V.int 16)] | _, _ => []) := by
    obtain ⟨oc, od, doc, pm, an, cdv, ct, osl, rfl, lk, hcd⟩ := D_Shape___init__.fn.ex
    refine ⟨fun s us ws X hl => ?_, fun {vs us zs ws} r1 r2 => ?_⟩
    · rcases us with _ | ⟨u0, _ | ⟨_, _⟩⟩ <;> rcases ws with _ | ⟨_, _⟩ <;> first | (cases hl; done) | exact .of_eq rfl | exact PySem.W.kp_binds X (fun S => (peek_load hlK_Shape___init__).trans (rfl)) | exact PySem.W.kp_binds X (fun S => (peek_load hlK_Shape___init__).trans ((peek_load hlK_Shape___init__).trans (rfl))) | exact PySem.W.kp_binds X (fun S => (peek_load hlK_Shape___init__).trans ((peek_load hlK_Shape___init__).trans ((peek_load hlK_Shape___init__).trans (rfl)))) | exact PySem.W.kp_binds X (fun S => (peek_load hlK_Shape___init__).trans ((peek_load hlK_Shape___init__).trans ((peek_load hlK_Shape___init__).trans ((peek_load hlK_Shape___init__).trans (rfl))))) | exact PySem.W.kp_binds X (fun S => (peek_load hlK_Shape___init__).trans ((peek_load hlK_Shape___init__).trans ((peek_load hlK_Shape___init__).trans ((peek_load hlK_Shape___init__).trans ((peek_load hlK_Shape___init__).trans (rfl))))))
    · rcases r1 with _ | ⟨u0, _ | ⟨ux, uy⟩⟩ <;> rcases r2 with _ | ⟨wx, wy⟩ <;> first | exact .nil | exact (.cons u0 (.cons ⟨_, rfl⟩ (.cons ⟨_, rfl⟩ (.cons ⟨_, rfl⟩ (.cons ⟨_, rfl⟩ (.cons ⟨_, rfl⟩ .nil))))))
  refine D.fn.ok sc_law_left_out (fun vs H Q E h => ?_) (fun cdv A outer s H vs Q E hr h => ?_)
  · obtain ⟨b, p, hh, rfl, _⟩ := h
    rfl
  ·
    have r_law_take : Room 1 _ := hr.mono (by decide)
    have r_Shape___init__ : Room 3 _ := hr.mono (by decide)
    have rm_Shape___init__ : Room (3 + 1) _ := hr.mono (by decide)
    obtain ⟨b, p, hh, rfl, hb, ok, hp, k⟩ := h
    refine ⟨_, (pss_cons (ps_asg (pv 1) (pg_lstK (K := K) (n := 5) (by rfl) (pgs_cons (pg_name (i := 2) sc_law_left_out.nd rfl (by first | exact Or.inl rfl | exact Or.inr rfl)) (pgs_cons (pg_name (i := 3) sc_law_left_out.nd rfl (by first | exact Or.inl rfl | exact Or.inr rfl)) (pgs_cons (pg_name (i := 4) sc_law_left_out.nd rfl (by first | exact Or.inl rfl | exact Or.inr rfl)) (pgs_cons (pg_name (i := 5) sc_law_left_out.nd rfl (by first | exact Or.inl rfl | exact Or.inr rfl)) (pgs_cons (pg_name (i := 6) sc_law_left_out.nd rfl (by first | exact Or.inl rfl | exact Or.inr rfl)) pgs_nil)))))))
    (pss_cons (ps_asg (pe_call G_law_take r_law_take (by rfl) D_law_take.mg D_law_take.fn.kp b_law_take .nil pass0 (pa_cons (pv 0) (pa_cons pe_int pa_nil))) (pg_name (i := 7) sc_law_left_out.nd rfl (by first | exact Or.inl rfl | exact Or.inr rfl)))
    (pss_cons (ps_if (pt_cmpR op_eq (pv 7) pe_int (nomark _))
      (pss_one (ps_ret (pe_tup (pa_cons (pe_makeK0 D_Shape___init__.mkc G_Shape___init__ rm_Shape___init__ (by rfl) T.mg_Shape kb_Shape___init___0 pass0 (pk_cons (pv 2) (pk_cons (pv 6) pk_nil))) (pa_cons (pe_lst (pa_cons (pv 2) (pa_cons pe_int (pa_cons pe_int (pa_cons pe_int (pa_cons (pv 6) pa_nil)))))) pa_nil)))))
      pss_nil)
    (pss_cons (ps_if (pt_cmpR op_eq (pv 7) pe_int (nomark _))
      (pss_one (ps_ret (pe_tup (pa_cons (pe_makeK0 D_Shape___init__.mkc G_Shape___init__ rm_Shape___init__ (by rfl) T.mg_Shape kb_Shape___init___1 pass0 (pk_cons (pv 3) (pk_cons (pv 4) pk_nil))) (pa_cons (pe_lst (pa_cons pe_int (pa_cons (pv 3) (pa_cons (pv 4) (pa_cons pe_int (pa_cons pe_int pa_nil)))))) pa_nil)))))
      pss_nil)
    (pss_cons (ps_if (pt_cmpR op_eq (pv 7) pe_int (nomark _))
      (pss_one (ps_ret (pe_tup (pa_cons (pe_makeK0 D_Shape___init__.mkc G_Shape___init__ rm_Shape___init__ (by rfl) T.mg_Shape kb_Shape___init___2 pass0 (pk_cons (pv 5) pk_nil)) (pa_cons (pe_lst (pa_cons pe_int (pa_cons pe_int (pa_cons pe_int (pa_cons (pv 5) (pa_cons pe_int pa_nil)))))) pa_nil)))))
      pss_nil)
    (pss_one (ps_ret (pe_tup (pa_cons (pe_makeK0 D_Shape___init__.mkc G_Shape___init__ rm_Shape___init__ (by rfl) T.mg_Shape kb_Shape___init___3 pass0 pk_nil) (pa_cons (pe_lst (pa_cons pe_int (pa_cons pe_int (pa_cons pe_int (pa_cons pe_int (pa_cons pe_int pa_nil)))))) pa_nil)))))))))), ?_⟩
    have o1 := ok.r
    have o2 := ok.e
    have o3 := ok.f
    have o4 := ok.b
    have o5 := ok.c
    refine ⟨_, rfl, p, _, rfl, SqL.of hp, rfl, _, _, rfl, _, _, rfl, _, _, rfl, _, _, rfl, _, _, rfl, rfl, ?_⟩
    try dsimp only [gName]
    refine ⟨_, rfl, b, 4, rfl, hb, by decide, by decide, fun way H1 w0 w4 e1 => ?_⟩
    have fin : ∀ (h' : Sh) (x dx : Addr) (H2 : Hp) (l q : Addr), ShOk h' → H1 x = none → H1 dx = none → (∀ b o, (upd (upd H1 dx (.own x)) x (.ins a_Shape dx [])) b = some o → b ≠ x → H2 b = some o) → ShAt a_Shape H2 x h' → H2 l = none → (upd H2 l (.lst ((shI h').map V.int))) q = none →
        Q (.ref q) (upd (upd H2 l (.lst ((shI h').map V.int))) q (.tup [.ref x, .ref l])) := fun h' x dx H2 l q ok' nx nd kk hsh nl nq => by
      have s12 : Same H1 H2 := Same.made nx nd kk
      have s3 := same_new (o := HO.lst ((shI h').map V.int)) nl
      have s4 := same_new (o := HO.tup [V.ref x, .ref l]) nq
      exact k q x l h' _ upd_same (hsh.frm (.of_same (s3.trans s4) : Frm [] _ _) (by simp)) ok' (s4 _ _ upd_same) (e1.same ((s12.trans s3).trans s4))
    clear k
    try dsimp only [gName]
    refine ⟨_, rfl, rfl, _, rfl, ite2 (fun _ => ?_) (fun _ => nextK ?_)⟩
    · refine ⟨_, rfl, _, rfl, fun x dx nx nd ne => ⟨x, dx, ⟨hh.r, 4, 3, 4, hh.c⟩, rfl, upd_same, ⟨o1, by simp, by simp, by simp, o5⟩, fun H2 hsh kk => ⟨rfl, _, rfl, _, rfl, by show 5 ≤ sizeLine; decide, fun l nl => ⟨by show 2 ≤ sizeLine; decide, fun q nq => ?_⟩⟩⟩⟩
      exact fin ⟨hh.r, 4, 3, 4, hh.c⟩ x dx H2 l q ⟨o1, by simp, by simp, by simp, o5⟩ nx nd kk hsh nl nq
    refine ⟨_, rfl, rfl, _, rfl, ite2 (fun _ => ?_) (fun _ => nextK ?_)⟩
    · refine ⟨_, rfl, _, rfl, fun x dx nx nd ne => ⟨x, dx, ⟨4, hh.e, hh.f, 4, 16⟩, rfl, upd_same, ⟨by simp, o2, o3, by simp, by simp⟩, fun H2 hsh kk => ⟨rfl, _, rfl, _, rfl, by show 5 ≤ sizeLine; decide, fun l nl => ⟨by show 2 ≤ sizeLine; decide, fun q nq => ?_⟩⟩⟩⟩
      exact fin ⟨4, hh.e, hh.f, 4, 16⟩ x dx H2 l q ⟨by simp, o2, o3, by simp, by simp⟩ nx nd kk hsh nl nq
    refine ⟨_, rfl, rfl, _, rfl, ite2 (fun _ => ?_) (fun _ => nextK ?_)⟩
    · refine ⟨_, rfl, fun x dx nx nd ne => ⟨x, dx, ⟨4, 4, 3, hh.b, 16⟩, rfl, upd_same, ⟨by simp, by simp, by simp, o4, by simp⟩, fun H2 hsh kk => ⟨rfl, _, rfl, by show 5 ≤ sizeLine; decide, fun l nl => ⟨by show 2 ≤ sizeLine; decide, fun q nq => ?_⟩⟩⟩⟩
      exact fin ⟨4, 4, 3, hh.b, 16⟩ x dx H2 l q ⟨by simp, by simp, by simp, o4, by simp⟩ nx nd kk hsh nl nq
    refine fun x dx nx nd ne => ⟨x, dx, ⟨4, 4, 3, 4, 16⟩, rfl, upd_same, ⟨by simp, by simp, by simp, by simp, by simp⟩, fun H2 hsh kk => ⟨rfl, by show 5 ≤ sizeLine; decide, fun l nl => ⟨by show 2 ≤ sizeLine; decide, fun q nq => ?_⟩⟩⟩
    exact fin ⟨4, 4, 3, 4, 16⟩ x dx H2 l q ⟨by simp, by simp, by simp, by simp, by simp⟩ nx nd kk hsh nl nq
theorem sc_law : FnScope ["_law_script", "_law_shapes", "_law_fives", "_law_k", "_law_bag_here", "_law_five", "_law_bent", "_law_turn", "_law_some", "_law_one", "_law_made_here", "_law_due_here", "_law_few", "_law_other", "_law_pair", "_law_thing", "_law_shape"] ["_law_script"] (defScope s_law) := ⟨rfl, rfl, rfl, by decide +kernel, rfl, by decide +kernel, by decide +kernel⟩
noncomputable def sp_law (K : PySem.W.Frag) : Sp := fun vs H Q _ => ∃ (a : Addr) (ns : List Int), vs = [.ref a] ∧ SqL K H a (ns.map V.int) ∧ ns.length ≤ 63 ∧ ∀ H', Q (.bl true) H'
set_option maxHeartbeats 8000000 in
theorem ok_law {fa : Addr} {fd : FuncData} (T : Txt K mg a_BOUNDS a_BOUNDS_0 a_BOUNDS_1 a_BOUNDS_2 a_BOUNDS_3 a_BOUNDS_4 a_Shape a_NoShape a_NoStore a_NoRow a_NoDesign kA_Shape___init__) (D : Def K mg "law" s_law fa fd) : FnOk P w K mg base CX0 6 fa fd ["_law_script"] (sp_law K) := by
  obtain ⟨fa_law_bag, fd_law_bag, D_law_bag⟩ := T.d_law_bag
  have G_law_bag := ok_law_bag (P := P) (w := w) (base := base) T D_law_bag
  have b_law_bag := D_law_bag.fn.binds (ps := ["_law_script", "_law_at"]) fun _ _ _ _ _ _ us hl => match us, hl with | [_, _], _ => rfl
  obtain ⟨fa_law_take, fd_law_take, D_law_take⟩ := T.d_law_take
  have G_law_take := ok_law_take (P := P) (w := w) (base := base) T D_law_take
  have b_law_take := D_law_take.fn.binds (ps := ["_law_bag_here", "_law_many"]) fun _ _ _ _ _ _ us hl => match us, hl with | [_, _], _ => rfl
  obtain ⟨fa_law_left_out, fd_law_left_out, D_law_left_out⟩ := T.d_law_left_out
  have G_law_left_out := ok_law_left_out (P := P) (w := w) (base := base) T D_law_left_out
  have b_law_left_out := D_law_left_out.fn.binds (ps := ["_law_bag_here", "_law_five"]) fun _ _ _ _ _ _ us hl => match us, hl with | [_, _], _ => rfl
  obtain ⟨fa_law_due, fd_law_due, D_law_due⟩ := T.d_law_due
  have G_law_due := ok_law_due (P := P) (w := w) (base := base) T D_law_due
  have b_law_due := D_law_due.fn.binds (ps := ["_law_five"]) fun _ _ _ _ _ _ us hl => match us, hl with | [_], _ => rfl
  obtain ⟨fa_law_made, fd_law_made, D_law_made⟩ := T.d_law_made
  have G_law_made := ok_law_made (P := P) (w := w) (base := base) T D_law_made
  have b_law_made := D_law_made.fn.binds (ps := ["_law_five"]) fun _ _ _ _ _ _ us hl => match us, hl with | [_], _ => rfl
  obtain ⟨fa_law_is, fd_law_is, D_law_is⟩ := T.d_law_is
  have G_law_is := ok_law_is (P := P) (w := w) (base := base) T D_law_is
  have b_law_is := D_law_is.fn.binds (ps := ["_law_shape", "_law_five"]) fun _ _ _ _ _ _ us hl => match us, hl with | [_, _], _ => rfl
  obtain ⟨fa_Shape___eq__, fd_Shape___eq__, D_Shape___eq__⟩ := T.d_Shape___eq__
  have G_Shape___eq__ := ok_Shape___eq__ (P := P) (w := w) (base := base) T D_Shape___eq__
  have b_Shape___eq__ := D_Shape___eq__.fn.binds (ps := ["self", "other"]) fun _ _ _ _ _ _ us hl => match us, hl with | [_, _], _ => rfl
  obtain ⟨fa_Shape___repr__, fd_Shape___repr__, D_Shape___repr__⟩ := T.d_Shape___repr__
  have G_Shape___repr__ := ok_Shape___repr__ (P := P) (w := w) (base := base) T D_Shape___repr__
  have b_Shape___repr__ := D_Shape___repr__.fn.binds (ps := ["self"]) fun _ _ _ _ _ _ us hl => match us, hl with | [_], _ => rfl
  refine D.fn.ok sc_law (fun vs H Q E h => ?_) (fun cdv A outer s H vs Q E hr h => ?_)
  · obtain ⟨a, ns, rfl, _⟩ := h
    rfl
  ·
    have r_law_bag : Room 1 _ := hr.mono (by decide)
    have r_law_take : Room 1 _ := hr.mono (by decide)
    have r_law_left_out : Room 5 _ := hr.mono (by decide)
    have r_law_due : Room 2 _ := hr.mono (by decide)
    have r_law_made : Room 5 _ := hr.mono (by decide)
    have r_law_is : Room 5 _ := hr.mono (by decide)
    have r_Shape___eq__ : Room 1 _ := hr.mono (by decide)
    have rm_Shape___eq__ : Room (1 + 1) _ := hr.mono (by decide)
    have r_Shape___repr__ : Room 3 _ := hr.mono (by decide)
    have rm_Shape___repr__ : Room (3 + 1) _ := hr.mono (by decide)
    obtain ⟨a, ns, rfl, hS, hl, k⟩ := h
    refine ⟨_, (pss_cons (ps_par (i := 1) (j := 2) (by rfl) sc_law.nd rfl rfl (by decide) rfl rfl (pa_cons (pe_lst pa_nil) (pa_cons (pe_lst pa_nil) pa_nil)) (by rfl))
    (pss_cons (ps_for PassesOwn.never rfl (pi_range1 (by rfl) T.z_range (pa_cons (pe_callB (call_max2 rfl) (by rfl) T.z_max bt_max (pa_cons pe_int (pa_cons (pe_callB (call_min2 rfl) (by rfl) T.z_min bt_min (pa_cons pe_int (pa_cons (pe_callB call_len_seq (by rfl) T.z_len bt_len (pa_cons (pv 0) pa_nil)) pa_nil))) pa_nil))) pa_nil)) (pg_name (i := 3) sc_law.nd rfl (by first | exact Or.inl rfl | exact Or.inr rfl))
      (pss_cons (ps_asg (pe_call G_law_bag r_law_bag (by rfl) D_law_bag.mg D_law_bag.fn.kp b_law_bag .nil pass0 (pa_cons (pv 0) (pa_cons (pv 3) pa_nil))) (pg_name (i := 4) sc_law.nd rfl (by first | exact Or.inl rfl | exact Or.inr rfl)))
    (pss_cons (ps_asg (pe_lst (pa_cons (pe_op op_add pe_int (pe_call G_law_take r_law_take (by rfl) D_law_take.mg D_law_take.fn.kp b_law_take .nil pass0 (pa_cons (pv 4) (pa_cons pe_int pa_nil)))) (pa_cons (pe_op op_add pe_int (pe_call G_law_take r_law_take (by rfl) D_law_take.mg D_law_take.fn.kp b_law_take .nil pass0 (pa_cons (pv 4) (pa_cons pe_int pa_nil)))) (pa_cons (pe_op op_add pe_int (pe_call G_law_take r_law_take (by rfl) D_law_take.mg D_law_take.fn.kp b_law_take .nil pass0 (pa_cons (pv 4) (pa_cons pe_int pa_nil)))) (pa_cons (pe_op op_add pe_int (pe_call G_law_take r_law_take (by rfl) D_law_take.mg D_law_take.fn.kp b_law_take .nil pass0 (pa_cons (pv 4) (pa_cons pe_int pa_nil)))) pa_nil))))) (pg_name (i := 5) sc_law.nd rfl (by first | exact Or.inl rfl | exact Or.inr rfl)))
    (pss_cons (ps_asg (pe_op op_cat (pv 5) (pe_lst (pa_cons (pe_op op_add pe_int (pe_call G_law_take r_law_take (by rfl) D_law_take.mg D_law_take.fn.kp b_law_take .nil pass0 (pa_cons (pv 4) (pa_cons pe_int pa_nil)))) pa_nil))) (pg_name (i := 5) sc_law.nd rfl (by first | exact Or.inl rfl | exact Or.inr rfl)))
    (pss_cons (ps_asg (pe_callTy call_list_of (by rfl) T.z_list bt_list (pa_cons (pv 5) pa_nil)) (pg_name (i := 6) sc_law.nd rfl (by first | exact Or.inl rfl | exact Or.inr rfl)))
    (pss_cons (ps_for PassesOwn.never rfl (pi_range1 (by rfl) T.z_range (pa_cons (pe_op op_add pe_int (pe_call G_law_take r_law_take (by rfl) D_law_take.mg D_law_take.fn.kp b_law_take .nil pass0 (pa_cons (pv 4) (pa_cons pe_int pa_nil)))) pa_nil)) (pg_name (i := 7) sc_law.nd rfl (by first | exact Or.inl rfl | exact Or.inr rfl))
      (pss_cons (ps_asg (pe_lst (pa_cons pe_int (pa_cons pe_int (pa_cons pe_int (pa_cons pe_int (pa_cons (pe_un un_neg pe_int) (pa_cons pe_bl (pa_cons pe_non (pa_cons pe_str (pa_cons (pe_lst (pa_cons pe_int pa_nil)) (pa_cons (pe_op op_pow pe_int pe_int) (pa_cons (pe_tup (pa_cons pe_int (pa_cons (pe_lst (pa_cons pe_int pa_nil)) pa_nil))) (pa_cons pe_int pa_nil))))))))))))) (pg_name (i := 8) sc_law.nd rfl (by first | exact Or.inl rfl | exact Or.inr rfl)))
    (pss_one (ps_asg (pe_ix ix_list (pv 8) (pe_call G_law_take r_law_take (by rfl) D_law_take.mg D_law_take.fn.kp b_law_take .nil pass0 (pa_cons (pv 4) (pa_cons pe_int pa_nil))) (fun _ _ => rfl)) (pg_sub (pv 6) (pe_call G_law_take r_law_take (by rfl) D_law_take.mg D_law_take.fn.kp b_law_take .nil pass0 (pa_cons (pv 4) (pa_cons pe_int pa_nil))) set_list)))))
    (pss_cons (ps_for PassesOwn.never rfl (pi_tup (pe_tup (pa_cons (pv 5) (pa_cons (pv 6) (pa_cons (pe_ix ix_tup (pe_call G_law_left_out r_law_left_out (by rfl) D_law_left_out.mg D_law_left_out.fn.kp b_law_left_out .nil pass0 (pa_cons (pv 4) (pa_cons (pv 5) pa_nil))) pe_int (fun _ _ => rfl)) pa_nil))))) (pg_name (i := 9) sc_law.nd rfl (by first | exact Or.inl rfl | exact Or.inr rfl))
      (pss_cons (ps_par (i := 10) (j := 11) (by rfl) sc_law.nd rfl rfl (by decide) rfl rfl (pa_cons (pe_call G_law_made r_law_made (by rfl) D_law_made.mg D_law_made.fn.kp b_law_made .nil pass0 (pa_cons (pv 9) pa_nil)) (pa_cons (pe_call G_law_due r_law_due (by rfl) D_law_due.mg D_law_due.fn.kp b_law_due .nil pass0 (pa_cons (pv 9) pa_nil)) pa_nil)) (by rfl))
    (pss_one (ps_if (PW.pt (pw_or (PW.pt (pw_and (pt_cmpR (op_eqDK (K := K) hr.units) (pv 11) (pe_lst pa_nil) (nomark _)) (pw_and1 (pt_not (PW.pt (pw_and (pt_val (pe_callB (call_isO (K := K)) (by rfl) T.z_isinstance bt_isinstance (pa_cons (pv 10) (pa_cons (pe_glob (v := V.ref a_Shape) (by rfl) T.mg_Shape rfl) pa_nil)))) (pw_and1 (pt_val (pe_call G_law_is r_law_is (by rfl) D_law_is.mg D_law_is.fn.kp b_law_is .nil pass0 (pa_cons (pv 10) (pa_cons (pv 9) pa_nil))))))))))) (pw_or1 (PW.pt (pw_and (pt_cmpR (op_neDK (K := K) hr.units) (pv 11) (pe_lst pa_nil) (nomark _)) (pw_and1 (pt_cmpR (op_neDK (K := K) hr.units) (pv 10) (pv 11) (nomark _))))))))
      (pss_one (ps_ret pe_bl))
      pss_nil))))
    (pss_cons (ps_asg (pe_call G_law_left_out r_law_left_out (by rfl) D_law_left_out.mg D_law_left_out.fn.kp b_law_left_out .nil pass0 (pa_cons (pv 4) (pa_cons (pv 5) pa_nil))) (pg_tupK (K := K) (n := 2) (by rfl) (pgs_cons (pg_name (i := 12) sc_law.nd rfl (by first | exact Or.inl rfl | exact Or.inr rfl)) (pgs_cons (pg_name (i := 11) sc_law.nd rfl (by first | exact Or.inl rfl | exact Or.inr rfl)) pgs_nil))))
    (pss_cons (ps_if (pt_not (pt_val (pe_call G_law_is r_law_is (by rfl) D_law_is.mg D_law_is.fn.kp b_law_is .nil pass0 (pa_cons (pv 12) (pa_cons (pv 11) pa_nil)))))
      (pss_one (ps_ret pe_bl))
      pss_nil)
    (pss_cons (ps_expr (pe_bm PySem.F.plainAttrs_list PySem.F.slot_list_append PySem.F.type_list_append mt_append.r (pv 1) (pa_cons (pe_call G_law_made r_law_made (by rfl) D_law_made.mg D_law_made.fn.kp b_law_made .nil pass0 (pa_cons (pv 5) pa_nil)) pa_nil)))
    (pss_cons (ps_expr (pe_bm PySem.F.plainAttrs_list PySem.F.slot_list_append PySem.F.type_list_append mt_append.r (pv 2) (pa_cons (pv 5) pa_nil)))
    (pss_cons (ps_for PassesOwn.never rfl (pi_zip2 (by rfl) T.z_zip (pa_cons (pv 1) (pa_cons (pv 2) pa_nil))) (pg_tupK (K := K) (n := 2) (by rfl) (pgs_cons (pg_name (i := 13) sc_law.nd rfl (by first | exact Or.inl rfl | exact Or.inr rfl)) (pgs_cons (pg_name (i := 14) sc_law.nd rfl (by first | exact Or.inl rfl | exact Or.inr rfl)) pgs_nil)))
      (pss_one (ps_if (PW.pt (pw_or (pt_cmpR op_ne (pe_cmpR (op_eqOwn D_Shape___eq__.meth G_Shape___eq__ r_Shape___eq__ b_Shape___eq__ hr.units pass0) (pe_ix ix_list (pv 1) (pe_un un_neg pe_int) (fun _ _ => rfl)) (pv 13) (nomark _)) (pe_cmpR (op_eqDK (K := K) hr.units) (pv 5) (pv 14) (nomark _)) (nomark _)) (pw_or1 (pt_cmpR op_eq (pe_cmpR (op_neOwn T.oc_Shape T.on_Shape D_Shape___eq__.meth G_Shape___eq__ rm_Shape___eq__ b_Shape___eq__ hr.units) (pv 13) (pe_ix ix_list (pv 1) (pe_un un_neg pe_int) (fun _ _ => rfl)) (nomark _)) (pe_cmpR (op_eqDK (K := K) hr.units) (pv 5) (pv 14) (nomark _)) (nomark _)))))
      (pss_one (ps_ret pe_bl))
      pss_nil)))
    (pss_one (ps_if (pt_val (pe_callB (cr_any rfl) (by rfl) T.z_any bt_any (pa_cons (pe_lc (own := [("_law_thing", 15)]) (g := gName 15) (by rfl) sc_law.nd ((pi_tupK (K := K)) (pe_tup (pa_cons pe_non (pa_cons pe_int (pa_cons (pe_callTy call_tuple_of (by rfl) T.z_tuple bt_tuple (pa_cons (pv 11) pa_nil)) (pa_cons (pv 11) (pa_cons (pe_callB (call_reprO D_Shape___repr__.meth G_Shape___repr__ rm_Shape___repr__ b_Shape___repr__ hr.units) (by rfl) T.z_repr bt_repr (pa_cons (pv 12) pa_nil)) pa_nil))))))) (blkOk_by (own := [("_law_thing", 15)]) (N := ["_law_script", "_law_shapes", "_law_fives", "_law_k", "_law_bag_here", "_law_five", "_law_bent", "_law_turn", "_law_some", "_law_one", "_law_made_here", "_law_due_here", "_law_few", "_law_other", "_law_pair", "_law_thing", "_law_shape"]) (sc := defScope s_law) (by decide +kernel))
        (fun _ _ _ _ _ => (pg_name (i := 15) sc_law.nd rfl (by first | exact Or.inl rfl | exact Or.inr rfl))) (fun _ _ _ _ _ => pts_nil)
        (fun _ _ _ _ _ => (pe_or (pe_cmpR (op_eqRef D_Shape___eq__.meth T.cl_Shape G_Shape___eq__ r_Shape___eq__ b_Shape___eq__ hr.units pass0) (pv 12) (pv 15) (nomark _)) (pe_one (pe_cmpR (op_eqRef D_Shape___eq__.meth T.cl_Shape G_Shape___eq__ r_Shape___eq__ b_Shape___eq__ hr.units pass0) (pv 15) (pv 12) (nomark _)))))) pa_nil)))
      (pss_one (ps_ret pe_bl))
      pss_nil))))))))))))))
    (pss_one (ps_ret (pe_callB (cr_all rfl) (by rfl) T.z_all bt_all (pa_cons (pe_lc (own := [("_law_shape", 16), ("_law_five", 5)]) (by rfl) sc_law.nd (pi_zip2 (by rfl) T.z_zip (pa_cons (pv 1) (pa_cons (pv 2) pa_nil))) (blkOk_by (own := [("_law_shape", 16), ("_law_five", 5)]) (N := ["_law_script", "_law_shapes", "_law_fives", "_law_k", "_law_bag_here", "_law_five", "_law_bent", "_law_turn", "_law_some", "_law_one", "_law_made_here", "_law_due_here", "_law_few", "_law_other", "_law_pair", "_law_thing", "_law_shape"]) (sc := defScope s_law) (by decide +kernel))
        (fun _ _ _ _ _ => (pg_tupK (K := K) (n := 2) (by rfl) (pgs_cons (pg_name (i := 16) sc_law.nd rfl (by first | exact Or.inl rfl | exact Or.inr rfl)) (pgs_cons (pg_name (i := 5) sc_law.nd rfl (by first | exact Or.inl rfl | exact Or.inr rfl)) pgs_nil)))) (fun _ _ _ _ _ => pts_nil)
        (fun _ _ _ _ _ => (pe_call G_law_is r_law_is (by rfl) D_law_is.mg D_law_is.fn.kp b_law_is .nil pass0 (pa_cons (pv 16) (pa_cons (pv 5) pa_nil))))) pa_nil)))))), ?_⟩
    have hlen : ((ns.map V.int).length : Int) ≤ 63 := by rw [List.length_map]; omega
    refine ⟨by show 0 ≤ sizeLine; decide, fun S hSn => ⟨by show 0 ≤ sizeLine; decide, fun F hFn => ⟨_, _, rfl, ?_⟩⟩⟩
    have sS := same_new (o := HO.lst []) hSn
    have sF := same_new (o := HO.lst []) hFn
    have nSF : S ≠ F := ne_of_none upd_same hFn
    have hF0 : H F = none := Same.free sS hFn
    have k0 : K5 a_Shape (upd (upd H S (.lst [])) F (.lst [])) S F [] [] [] := ⟨by rw [upd_ne nSF, upd_same]; rfl, upd_same, rfl, rfl, nSF, fun j x h e => by simp at e, fun j x h e => by simp at e⟩
    have s0 := sS.trans sF
    generalize upd (upd H S (.lst [])) F (.lst []) = H0 at k0 s0 ⊢
    clear sS sF
    try dsimp only [List.set]
    refine ⟨_, rfl, a, _, rfl, .inl (s0.seq hS), _, _, rfl, _, _, rfl, _, rfl, ?_, ?_, for_range (fun i σ H2 => ∃ v3 v4 v5 v6 v7 v8 v9 v10 v11 v12 v13 v14 v15 v16 as ps hs, σ = [some (.ref a), some (.ref S), some (.ref F), v3, v4, v5, v6, v7, v8, v9, v10, v11, v12, v13, v14, v15, v16] ∧ Same H H2 ∧ hs.length = i ∧ K5 a_Shape H2 S F as ps hs) ⟨none, none, none, none, none, none, none, none, none, none, none, none, none, none, [], [], [], rfl, s0, rfl, k0⟩ ?_ ?_⟩
    · split <;> split <;> omega
    · split <;> split <;> omega
    · rintro i σ H2 hi ⟨v3, v4, v5, v6, v7, v8, v9, v10, v11, v12, v13, v14, v15, v16, as, ps, hs, rfl, s2, hsl, K2⟩
      have hi' : i < 100 := by
        refine Nat.lt_of_lt_of_le hi ?_
        split <;> split <;> omega
      refine ⟨_, rfl, _, rfl, a, ns, _, rfl, s2.seq hS, hl, by omega, by omega, fun b H3 hb s3 g3 => ?_⟩
      try dsimp only [gName]
      refine ⟨_, rfl, b, 7, rfl, g3, by decide, by decide, fun r1 H4 l1 u1 e4 => ⟨_, _, rfl, rfl, _, rfl, b, 7, rfl, e4.1, by decide, by decide, fun r2 H5 l2 u2 e5 => ⟨_, _, rfl, rfl, _, rfl, b, 7, rfl, e5.1, by decide, by decide, fun r3 H6 l3 u3 e6 => ⟨_, _, rfl, rfl, _, rfl, b, 8, rfl, e6.1, by decide, by decide, fun r4 H7 l4 u4 e7 => ⟨_, _, rfl, rfl, by show 4 ≤ sizeLine; decide, fun p4 hp4 => ?_⟩⟩⟩⟩⟩
      have s7 := same_new (o := HO.lst [V.int (2 + r1), .int (2 + r2), .int (2 + r3), .int (1 + r4)]) hp4
      have ep4 := upd_same (H := H7) (a := p4) (o := .lst [V.int (2 + r1), .int (2 + r2), .int (2 + r3), .int (1 + r4)])
      have E7 := ((e4.trans e5).trans e6).trans e7
      have np4 := (e7.1.ne hp4).symm
      try dsimp only [gName]
      generalize upd H7 p4 (.lst [V.int (2 + r1), .int (2 + r2), .int (2 + r3), .int (1 + r4)]) = H8 at s7 ep4 ⊢
      have E8 := E7.same s7
      refine ⟨_, rfl, _, rfl, b, 63, rfl, E8.1, by decide, by decide, fun r5 H9 l5 u5 e9 => ⟨_, _, rfl, rfl, by show 1 ≤ sizeLine; decide, fun q1 hq1 => ⟨p4, q1, _, _, rfl, rfl, same_new hq1 _ _ (e9.2 _ _ np4 ep4), upd_same, by show 4 + 1 ≤ sizeLine; decide, fun p hp => ?_⟩⟩⟩
      have s9 := (same_new (o := HO.lst [V.int (2 + r5)]) hq1).trans (same_new (o := HO.lst ([V.int (2 + r1), .int (2 + r2), .int (2 + r3), .int (1 + r4)] ++ [V.int (2 + r5)])) hp)
      obtain ⟨h, ok, ehi⟩ : ∃ h : Sh, ShOk h ∧ [V.int (2 + r1), .int (2 + r2), .int (2 + r3), .int (1 + r4)] ++ [V.int (2 + r5)] = (shI h).map V.int := by
        refine ⟨⟨(2 + r1).toNat, (2 + r2).toNat, (2 + r3).toNat, (1 + r4).toNat, (2 + r5).toNat⟩, ⟨by show 2 ≤ (2 + r1).toNat ∧ (2 + r1).toNat ≤ 8; omega, by show 2 ≤ (2 + r2).toNat ∧ (2 + r2).toNat ≤ 8; omega, by show 2 ≤ (2 + r3).toNat ∧ (2 + r3).toNat ≤ 8; omega, by show 1 ≤ (1 + r4).toNat ∧ (1 + r4).toNat ≤ 8; omega, by show 2 ≤ (2 + r5).toNat ∧ (2 + r5).toNat ≤ 64; omega⟩, ?_⟩
        show _ = [V.int ((2 + r1).toNat : Nat), .int ((2 + r2).toNat : Nat), .int ((2 + r3).toNat : Nat), .int ((1 + r4).toNat : Nat), .int ((2 + r5).toNat : Nat)]
        rw [Int.toNat_of_nonneg (by omega), Int.toNat_of_nonneg (by omega), Int.toNat_of_nonneg (by omega), Int.toNat_of_nonneg (by omega), Int.toNat_of_nonneg (by omega)]
        rfl
      have ep := upd_same (H := upd H9 q1 (.lst [V.int (2 + r5)])) (a := p) (o := .lst ([V.int (2 + r1), .int (2 + r2), .int (2 + r3), .int (1 + r4)] ++ [V.int (2 + r5)]))
      have E9 := (E8.trans e9).same s9
      have npb : p ≠ b := ((e9.1.same (same_new (o := HO.lst [V.int (2 + r5)]) hq1)).ne hp).symm
      have np2 : H2 p = none := by
        cases z : H2 p with
        | none => rfl
        | some o =>
          have := same_eff s3 hb (E8.trans e9) p o z
          have := same_new (o := HO.lst [V.int (2 + r5)]) hq1 p o this
          rw [hp] at this; cases this
      dsimp only at ep E9 ⊢
      have ep' : (upd (upd H9 q1 (.lst [V.int (2 + r5)])) p (.lst ([V.int (2 + r1), .int (2 + r2), .int (2 + r3), .int (1 + r4)] ++ [V.int (2 + r5)]))) p = some (.lst ((shI h).map V.int)) := by rw [ep, ehi]
      generalize upd (upd H9 q1 (.lst [V.int (2 + r5)])) p (.lst ([V.int (2 + r1), .int (2 + r2), .int (2 + r3), .int (1 + r4)] ++ [V.int (2 + r5)])) = H10 at ep ep' E9 ⊢
      have s10 := same_eff s3 hb E9
      have b10 := E9.1
      clear ep s9 hp hq1 e9 E8 ep4 np4 s7 E7 hp4 e4 e5 e6 e7 ehi l1 u1 l2 u2 l3 u3 l4 u4 l5 u5 E9 s3
      try dsimp only [gName]
      refine ⟨_, rfl, p, _, rfl, .inl (SqL.of ep'), fun B hB => ?_⟩
      have nBb : B ≠ b := (b10.ne hB).symm
      have nBp : p ≠ B := ne_of_none ep' hB
      have sB := same_new (o := HO.lst ((shI h).map V.int)) hB
      have eB := upd_same (H := H10) (a := B) (o := .lst ((shI h).map V.int))
      have b11 := b10.same sB
      generalize upd H10 B (.lst ((shI h).map V.int)) = H11 at sB eB b11 ⊢
      try dsimp only [gName]
      refine ⟨_, rfl, b, 3, rfl, b11, by decide, by decide, fun r6 H12 l6 u6 e12 => ?_⟩
      have ints_eas : ∀ g : Sh, ∀ d ∈ (shI g).map PyData.int, Eas 4 d := fun g d hd => by
        obtain ⟨n, _, rfl⟩ := List.mem_map.mp hd
        exact Eas.int 4 n
      have J0 : Bent5 H11 b B H12 := ⟨e12.1, fun c o n1 _ e => e12.2 c o n1 e, _, _, e12.2 _ _ nBb eB, dt_ints _ (shI h), rfl, ints_eas h⟩
      clear e12
      refine ⟨_, _, rfl, rfl, 1 + r6, rfl, by omega, by omega, for_range (fun j σ H' => ∃ v7 v8, σ = [some (.ref a), some (.ref S), some (.ref F), some (.int (0 + (i : Nat))), some (.ref b), some (.ref p), some (.ref B), v7, v8, v9, v10, v11, v12, v13, v14, v15, v16] ∧ Bent5 H11 b B H') ⟨_, _, rfl, J0⟩ ?_ ?_⟩
      · rintro j σ H13 hj ⟨v7', v8', rfl, J⟩
        obtain ⟨xs, ds, eBx, dd, dl, de⟩ := J.dat
        try dsimp only [gName]
        refine ⟨_, rfl, by show 1 ≤ sizeLine; decide, fun l4 h4 => ⟨_, _, rfl, rfl, ⟨by decide, by decide, by decide⟩, by show 1 ≤ sizeLine; decide, fun l2 h2 => ⟨by show 2 ≤ sizeLine; decide, fun tt ht => ⟨by show 12 ≤ sizeLine; decide, fun LS hLS => ?_⟩⟩⟩⟩
        have s4 := same_new (o := HO.lst [V.int 4]) h4
        have s2' := same_new (o := HO.lst [V.int 2]) h2
        have st := same_new (o := HO.tup [V.int 1, V.ref l2]) ht
        have sL := same_new (o := HO.lst [V.int 0, .int 1, .int 9, .int 65, .int (-1), .bl true, .non, .str "4", .ref l4, .int (10 ^ (30 : Int).toNat), .ref tt, .int 2]) hLS
        have nb : ∀ {H' : Hp} {q : Addr}, Same H13 H' → H' q = none → q ≠ b ∧ q ≠ B := fun s e => ⟨((J.bag.same s).ne e).symm, (ne_of_none (s _ _ eBx) e).symm⟩
        have n4 := nb (Same.refl _) h4
        have n2 := nb s4 h2
        have nt := nb (s4.trans s2') ht
        have nL := nb ((s4.trans s2').trans st) hLS
        have el4 := ((s2'.trans st).trans sL) _ _ (upd_same (H := H13) (a := l4) (o := .lst [V.int 4]))
        have el2 := (st.trans sL) _ _ (upd_same (H := upd H13 l4 (.lst [V.int 4])) (a := l2) (o := .lst [V.int 2]))
        have ett := sL _ _ (upd_same (H := upd (upd H13 l4 (.lst [V.int 4])) l2 (.lst [V.int 2])) (a := tt) (o := .tup [V.int 1, V.ref l2]))
        have eL := upd_same (H := upd (upd (upd H13 l4 (.lst [V.int 4])) l2 (.lst [V.int 2])) tt (.tup [V.int 1, V.ref l2])) (a := LS) (o := .lst [V.int 0, .int 1, .int 9, .int 65, .int (-1), .bl true, .non, .str "4", .ref l4, .int (10 ^ (30 : Int).toNat), .ref tt, .int 2])
        have S4 := ((s4.trans s2').trans st).trans sL
        try dsimp only [gName]
        generalize upd (upd (upd (upd H13 l4 (.lst [V.int 4])) l2 (.lst [V.int 2])) tt (.tup [V.int 1, V.ref l2])) LS (.lst [V.int 0, .int 1, .int 9, .int 65, .int (-1), .bl true, .non, .str "4", .ref l4, .int (10 ^ (30 : Int).toNat), .ref tt, .int 2]) = H14 at S4 el4 el2 ett eL ⊢
        have b14 := J.bag.same S4
        have PL : ∀ v ∈ [V.int 0, .int 1, .int 9, .int 65, .int (-1), .bl true, .non, .str "4", .ref l4, .int (10 ^ (30 : Int).toNat), .ref tt, .int 2], ∃ d, Dt (hide (hide H14 b) B) v d ∧ Eas 4 d := fun v hv => by
          simp only [List.mem_cons, List.not_mem_nil, or_false] at hv
          rcases hv with rfl | rfl | rfl | rfl | rfl | rfl | rfl | rfl | rfl | rfl | rfl | rfl
          iterate 5 exact ⟨_, .int _, Eas.int _ _⟩
          · exact ⟨_, .bl _, by decide +kernel, by decide +kernel, by decide +kernel, by decide +kernel⟩
          · exact ⟨_, .non, Eas.non _⟩
          · exact ⟨_, .str _, by decide +kernel, by decide +kernel, by decide +kernel, by decide +kernel⟩
          · exact ⟨_, .lst (hide_at (hide_at el4 n4.1) n4.2) (.cons (.int _) .nil), by decide +kernel, by decide +kernel, by decide +kernel, by decide +kernel⟩
          · exact ⟨_, .int _, Eas.int _ _⟩
          · exact ⟨_, .tup (hide_at (hide_at ett nt.1) nt.2) (.cons (.int _) (.cons (.lst (hide_at (hide_at el2 n2.1) n2.2) (.cons (.int _) .nil)) .nil)), by decide +kernel, by decide +kernel, by decide +kernel, by decide +kernel⟩
          · exact ⟨_, .int _, Eas.int _ _⟩
        have lL : [V.int 0, .int 1, .int 9, .int 65, .int (-1), .bl true, .non, .str "4", .ref l4, .int (10 ^ (30 : Int).toNat), .ref tt, .int 2].length = 12 := rfl
        generalize [V.int 0, .int 1, .int 9, .int 65, .int (-1), .bl true, .non, .str "4", .ref l4, .int (10 ^ (30 : Int).toNat), .ref tt, .int 2] = zL at PL eL lL
        clear s4 s2' st sL n4 n2 nt el4 el2 ett h4 h2 ht hLS
        refine ⟨_, rfl, _, rfl, b, 12, rfl, b14, by decide, by decide, fun m1 H15 m10 m11 e15 => ?_⟩
        obtain ⟨v, ev, d, dv, ed⟩ := at_all (fun v => ∃ d, Dt (hide (hide H14 b) B) v d ∧ Eas 4 d) PL m10 (by rw [lL]; exact m11)
        refine ⟨LS, _, _, v, rfl, rfl, SqL.of (e15.2 _ _ nL.1 eL), ev, ?_⟩
        refine ⟨_, rfl, _, rfl, b, 5, rfl, e15.1, by decide, by decide, fun m2 H16 m20 m21 e16 => ?_⟩
        have E1 := e15.trans e16
        have eB16 := E1.2 _ _ nBb (S4 _ _ eBx)
        have xl := dd.length
        refine ⟨B, xs, m2, m2.toNat, rfl, rfl, eB16, ?_, ?_⟩
        · have := ixN_of (n := xs.length) (j := m2.toNat) (by omega)
          rwa [Int.toNat_of_nonneg m20] at this
        have k1 : ∀ c o, c ≠ b → c ≠ B → H14 c = some o → (upd H16 B (.lst (xs.set m2.toNat v))) c = some o := fun c o a1 a2 e => by rw [upd_ne a2]; exact E1.2 _ _ a1 e
        have k2 : ∀ c o, c ≠ b → c ≠ B → H13 c = some o → (upd H16 B (.lst (xs.set m2.toNat v))) c = some o := fun c o a1 a2 e => k1 c o a1 a2 (S4 c o e)
        refine ⟨_, _, rfl, ⟨?_, fun c o a1 a2 e => k2 c o a1 a2 (J.keep c o a1 a2 e), _, _, upd_same, DtAll.set (dv.same (hide2_same k1)) _ (dd.same (hide2_same k2)), by rw [List.length_set]; exact dl, fun d' hd' => ?_⟩⟩
        · obtain ⟨g, x, e, z⟩ := E1.1
          exact ⟨g, x, by rw [upd_ne nBb.symm]; exact e, z⟩
        · rcases List.mem_or_eq_of_mem_set hd' with z | rfl
          · exact de d' z
          · exact ed
      · rintro σ H13 ⟨v7', v8', rfl, J⟩
        obtain ⟨xs, ds, eBx, dd, dl, de⟩ := J.dat
        have b13 := J.bag
        have nB2 : H2 B = none := by
          cases z : H2 B with
          | none => rfl
          | some o => have := s10 B o z; rw [hB] at this; cases this
        have S13 : Same H2 H13 := fun c o e => J.keep c o (ne_of_none e hb) (ne_of_none e nB2) (sB c o (s10 c o e))
        have ep13 := J.keep p _ npb nBp (sB _ _ ep')
        clear J J0
        refine ⟨_, rfl, _, rfl, _, rfl, _, rfl, b, p, h, rfl, b13, ok, ep13, fun q x l h' H14 eq hsh ok' el e14 => ⟨q, _, _, _, rfl, rfl, SqT.of eq, atI_nat (j := 1) rfl, by show 3 ≤ sizeLine; decide, fun TT hTT => ?_⟩⟩
        have sT := same_new (o := HO.tup [V.ref p, V.ref B, V.ref l]) hTT
        have eT := upd_same (H := H14) (a := TT) (o := .tup [V.ref p, V.ref B, V.ref l])
        have b15 := e14.1.same sT
        have PY : ∀ y ∈ [V.ref p, V.ref B, V.ref l], ∃ py ys ds, y = .ref py ∧ (upd H14 TT (.tup [V.ref p, V.ref B, V.ref l])) py = some (.lst ys) ∧ DtAll (upd H14 TT (.tup [V.ref p, V.ref B, V.ref l])) ys ds ∧ ds.length = 5 ∧ ∀ d ∈ ds, Eas 4 d := fun y hy => by
          simp only [List.mem_cons, List.not_mem_nil, or_false] at hy
          rcases hy with rfl | rfl | rfl
          · exact ⟨p, _, _, rfl, sT _ _ (e14.2 _ _ npb ep13), dt_ints _ (shI h), rfl, ints_eas h⟩
          · refine ⟨B, xs, ds, rfl, sT _ _ (e14.2 _ _ nBb eBx), dd.same fun c o e => ?_, dl, de⟩
            obtain ⟨e1, n1⟩ := hide_of e
            obtain ⟨e2, n2⟩ := hide_of e1
            exact sT _ _ (e14.2 _ _ n2 e2)
          · exact ⟨l, _, _, rfl, sT _ _ el, dt_ints _ (shI h'), rfl, ints_eas h'⟩
        have S15 : Same H2 (upd H14 TT (.tup [V.ref p, V.ref B, V.ref l])) := fun c o e => sT _ _ (e14.2 _ _ (ne_of_none e hb) (S13 c o e))
        have ep15 := sT _ _ (e14.2 _ _ npb ep13)
        generalize upd H14 TT (.tup [V.ref p, V.ref B, V.ref l]) = H15 at sT eT b15 PY S15 ep15 ⊢
        clear sT hTT el hsh eq e14 ep13 S13 nB2 dd dl de eBx b13 ok'
        refine ⟨TT, rfl, ⟨_, SqT.of eT⟩, for_tup (K := K) (a := TT) (xs := [V.ref p, V.ref B, V.ref l]) (fun j σ H' => ∃ v9 v10 v11, σ = [some (.ref a), some (.ref S), some (.ref F), some (.int (0 + (i : Nat))), some (.ref b), some (.ref p), some (.ref B), v7', v8', v9, v10, v11, v12, v13, v14, v15, v16] ∧ Same H15 H') ⟨_, _, _, rfl, Same.refl _⟩ (fun j σ H' _ ⟨_, _, _, _, s⟩ => SqT.of (s _ _ eT)) ?_ ?_⟩
        · rintro j y σ H16 hy ⟨v9', v10', v11', rfl, s16⟩
          obtain ⟨py, ys, es, rfl, ey, dy, dl, de⟩ := PY y (List.mem_of_getElem? hy)
          try dsimp only [gName]
          have e0 : Eas 1 (.list []) := Eas.lst (by show 0 ≤ 1000; decide) fun d hd => by simp at hd
          refine ⟨_, rfl, py, ys, es, rfl, s16 _ _ ey, dy.same s16, dl, de, fun w hw l1 H17 s17 nl1 el1 => ?_, fun g okg hds x' H17 nx s17 hsh => ?_⟩
          · refine ⟨_, rfl, py, ys, es, rfl, s17 _ _ (s16 _ _ ey), dy.same (s16.trans s17), dl, de, fun l2 H18 s18 el2 => ⟨_, _, rfl, ?_⟩⟩
            rw [hw] at el2
            have ew : Eas 1 (.list [.str w]) := Eas.lst (by show 1 ≤ 1000; decide) fun d hd => by
              simp only [List.mem_cons, List.not_mem_nil, or_false] at hd
              subst hd
              exact wrongM_eas hw
            have ne : PyData.eqv (.list [.str w]) (.list []) = false := rfl
            try dsimp only [List.set]
            refine ⟨_, rfl, by show 0 ≤ sizeLine; decide, fun l3 hl3 => ?_⟩
            have s3' := same_new (o := HO.lst []) hl3
            refine ⟨.list [.str w], .list [], .lst (SqL.of (s3' _ _ el2)) (.cons (.str _) .nil), .lst (SqL.of upd_same) .nil, ew.shaped (by decide), e0.shaped (by decide), _, rfl, ?_⟩
            rw [ne]
            refine iteF (iteF ?_)
            refine ⟨_, rfl, by show 0 ≤ sizeLine; decide, fun l4 hl4 => ?_⟩
            have s4' := same_new (o := HO.lst []) hl4
            refine ⟨.list [.str w], .list [], .lst (SqL.of (s4' _ _ (s3' _ _ el2))) (.cons (.str _) .nil), .lst (SqL.of upd_same) .nil, ew.shaped (by decide), e0.shaped (by decide), _, rfl, ?_⟩
            rw [ne]
            refine iteT ?_
            refine ⟨_, rfl, _, rfl, .list [.str w], .list [.str w], .lst (SqL.of (s4' _ _ (s3' _ _ (s18 _ _ el1)))) (.cons (.str _) .nil), .lst (SqL.of (s4' _ _ (s3' _ _ el2))) (.cons (.str _) .nil), ew.shaped (by decide), ew.shaped (by decide), _, rfl, ?_⟩
            rw [SeqAt.eqv_refl _ ew.can]
            refine iteF (nextK ?_)
            exact ⟨_, _, _, rfl, (((s16.trans s17).trans s18).trans s3').trans s4'⟩
          · subst hds
            have ev := ints_of5 dy
            subst ev
            refine ⟨_, rfl, py, _, _, rfl, s17 _ _ (s16 _ _ ey), dy.same (s16.trans s17), dl, de, fun l2 H18 s18 el2 => ⟨_, _, rfl, ?_⟩⟩
            rw [wrong_sh okg] at el2
            try dsimp only [List.set]
            refine ⟨_, rfl, by show 0 ≤ sizeLine; decide, fun l3 hl3 => ?_⟩
            have s3' := same_new (o := HO.lst []) hl3
            refine ⟨.list [], .list [], .lst (SqL.of (s3' _ _ el2)) .nil, .lst (SqL.of upd_same) .nil, e0.shaped (by decide), e0.shaped (by decide), _, rfl, ?_⟩
            rw [show PyData.eqv (.list []) (.list []) = true from rfl]
            refine iteT ?_
            have hs3 : ShAt a_Shape (upd H18 l3 (.lst [])) x' g := hsh.frm (.of_same (s18.trans s3') : Frm [] _ _) (by simp)
            obtain ⟨dxq, tq, exq, etq⟩ := id hs3
            refine ⟨_, rfl, .ref x', a_Shape, rfl, T.oc_Shape, .inl ⟨x', dxq, _, rfl, exq, _, rfl, iteT ?_⟩⟩
            refine ⟨_, rfl, _, rfl, x', py, g, rfl, hs3, okg, s3' _ _ (s18 _ _ (s17 _ _ (s16 _ _ ey))), fun H19 s19 => ⟨_, rfl, ?_⟩⟩
            refine iteF ?_
            refine ⟨_, rfl, by show 0 ≤ sizeLine; decide, fun l4 hl4 => ?_⟩
            have s4' := same_new (o := HO.lst []) hl4
            refine ⟨.list [], .list [], .lst (SqL.of (s4' _ _ (s19 _ _ (s3' _ _ el2)))) .nil, .lst (SqL.of upd_same) .nil, e0.shaped (by decide), e0.shaped (by decide), _, rfl, ?_⟩
            rw [show PyData.eqv (.list []) (.list []) = true from rfl]
            refine iteF (iteF (nextK ?_))
            exact ⟨_, _, _, rfl, ((((s16.trans s17).trans s18).trans s3').trans s19).trans s4'⟩
        · rintro σ H16 ⟨v9', v10', v11', rfl, s16⟩
          have b16 := b15.same s16
          have S16 := S15.trans s16
          have ep16 := s16 _ _ ep15
          clear PY eT b15 S15 ep15 s16
          try dsimp only [gName]
          refine ⟨_, rfl, _, rfl, b, p, h, rfl, b16, ok, ep16, fun q2 xf lf hf H17 eq2 hshf okf elf e17 => ⟨q2, _, rfl, SqT.of eq2, rfl, _, _, rfl, _, _, rfl, rfl, ?_⟩⟩
          have S17 := same_eff S16 hb e17
          have ep17 := e17.2 _ _ npb ep16
          try dsimp only [gName]
          refine ⟨_, rfl, _, rfl, xf, lf, hf, rfl, hshf, okf, elf, fun H18 s18 => ⟨_, rfl, iteF (nextK ?_)⟩⟩
          have S18 := S17.trans s18
          have ep18 := s18 _ _ ep17
          have el18 := s18 _ _ elf
          have hs18 : ShAt a_Shape H18 xf hf := hshf.frm (.of_same s18 : Frm [] _ _) (by simp)
          clear S17 ep17 S16 ep16 b16 e17 elf hshf eq2 s18
          have K18 := K2.same S18
          refine ⟨_, rfl, .inl ⟨rfl, _, SqL.of K18.s⟩, _, rfl, p, _, _, rfl, ep18, dt_ints _ (shI h), rfl, ints_eas h, fun w hw => ?_, fun g okg hds x' H19 nx s19 hsh => ?_⟩
          · rw [wrong_sh ok] at hw; cases hw
          obtain rfl := sh_inj hds
          have K19 := K18.same s19
          have pS : p ≠ S := (ne_of_none K2.s np2).symm
          have pF : p ≠ F := (ne_of_none K2.f np2).symm
          have K20 := K19.snoc hsh ok (s19 _ _ ep18) pS pF
          have asl : as.length = i := by rw [K19.la, hsl]
          have psl : ps.length = i := by rw [K19.lp, hsl]
          have fS : (upd H19 S (.lst (as.map V.ref ++ [.ref x']))) F = some (.lst (ps.map V.ref)) := by rw [upd_ne nSF.symm]; exact K19.f
          have S20 : Same H (upd (upd H19 S (.lst (as.map V.ref ++ [.ref x']))) F (.lst (ps.map V.ref ++ [.ref p]))) := fun c o e => by
            rw [upd_ne (fun z => by rw [z] at e; rw [hF0] at e; cases e), upd_ne (fun z => by rw [z, hSn] at e; cases e)]
            exact s19 _ _ (S18 _ _ (s2 _ _ e))
          refine ⟨S, _, _, rfl, rfl, K19.s, ?_, ?_⟩
          · rw [List.length_map, asl]; exact Nat.lt_of_lt_of_le hi' (by decide)
          refine ⟨_, rfl, .inl ⟨rfl, _, SqL.of fS⟩, _, rfl, F, _, _, rfl, rfl, fS, ?_, ?_⟩
          · rw [List.length_map, psl]; exact Nat.lt_of_lt_of_le hi' (by decide)
          have nl : ∀ {zs : List Addr}, zs.map V.ref ≠ (shI hf).map V.int := fun {zs} e => by
            cases zs with
            | nil => simp [shI] at e
            | cons q qs => simp [shI] at e
          have el19 := s19 _ _ el18
          have lS : lf ≠ S := fun z => by rw [z, K19.s] at el19; exact nl (by injection el19 with e; injection e)
          have lF : lf ≠ F := fun z => by rw [z, K19.f] at el19; exact nl (by injection el19 with e; injection e)
          have hs19 : ShAt a_Shape H19 xf hf := hs18.frm (.of_same s19 : Frm [] _ _) (by simp)
          have hs20 := shAt_upd (ys := ps.map V.ref ++ [.ref p]) (shAt_upd (ys := as.map V.ref ++ [.ref x']) hs19 K19.s) fS
          have el20 : (upd (upd H19 S (.lst (as.map V.ref ++ [.ref x']))) F (.lst (ps.map V.ref ++ [.ref p]))) lf = some (.lst ((shI hf).map V.int)) := by rw [upd_ne lF, upd_ne lS]; exact el19
          have ep20 : (upd (upd H19 S (.lst (as.map V.ref ++ [.ref x']))) F (.lst (ps.map V.ref ++ [.ref p]))) p = some (.lst ((shI h).map V.int)) := by rw [upd_ne pF, upd_ne pS]; exact s19 _ _ ep18
          have hx20 := shAt_upd (ys := ps.map V.ref ++ [.ref p]) (shAt_upd (ys := as.map V.ref ++ [.ref x']) hsh K19.s) fS
          have hl20 : (hs ++ [h]).length = i + 1 := by rw [List.length_append, hsl]; rfl
          generalize upd (upd H19 S (.lst (as.map V.ref ++ [.ref x']))) F (.lst (ps.map V.ref ++ [.ref p])) = H20 at K20 S20 hs20 el20 ep20 hx20 ⊢
          have asl' : (as ++ [x']).length = i + 1 := by rw [List.length_append, asl]; rfl
          have last' : (as ++ [x'])[i]? = some x' := by rw [← asl]; simp
          have eS := K20.s
          clear fS hsh K19 s19 K18 S18 ep18 el18 hs18 hs19 el19 nl
          generalize as ++ [x'] = as' at K20 asl' last' eS
          generalize ps ++ [p] = ps' at K20
          generalize hs ++ [h] = hs' at K20 hl20
          have e1 : ∀ g : Sh, Eas 1 (.list ((shI g).map PyData.int)) := fun g => Eas.lst (by show 5 ≤ 1000; decide) fun d hd => by
            obtain ⟨n, _, rfl⟩ := List.mem_map.mp hd
            exact Eas.int 0 n
          try dsimp only [gName]
          refine ⟨_, rfl, _, rfl, (true, S), (true, F), _, _, rfl, SqS.lst K20.s, SqS.lst K20.f, for_zip2 (K := K) (c1 := (true, S)) (c2 := (true, F)) (fun j σ H' => ∃ v13 v14, σ = [some (.ref a), some (.ref S), some (.ref F), some (.int (0 + (i : Nat))), some (.ref b), some (.ref p), some (.ref B), v7', v8', v9', v10', some (.ref lf), some (.ref xf), v13, v14, v15, v16] ∧ Same H20 H') ⟨_, _, rfl, Same.refl _⟩ (fun j σ H' ⟨_, _, _, s⟩ => SqS.lst (s _ _ K20.s)) (fun j σ H' ⟨_, _, _, s⟩ => SqS.lst (s _ _ K20.f)) ?_ ?_⟩
          · rintro j y z TT σ H21 hy hz ⟨v13', v14', rfl, s21⟩ hTT
            have s22 := s21.trans (same_new (o := HO.tup [y, z]) hTT)
            rw [List.getElem?_map] at hy hz
            obtain ⟨xj, hxj, rfl⟩ := Option.map_eq_some_iff.mp hy
            obtain ⟨pj, hpj, rfl⟩ := Option.map_eq_some_iff.mp hz
            have jl : j < hs'.length := by rw [← K20.la]; exact (List.getElem?_eq_some_iff.mp hxj).1
            have hgj : hs'[j]? = some hs'[j] := by simp [jl]
            obtain ⟨shj, okj⟩ := K20.sh j xj _ hxj hgj
            obtain ⟨epj, _, _⟩ := K20.fi j pj _ hpj hgj
            generalize hs'[j] = g at hgj shj okj epj
            refine ⟨TT, _, rfl, SqT.of upd_same, rfl, _, _, rfl, _, _, rfl, rfl, ?_⟩
            have shj2 : ShAt a_Shape (upd H21 TT (.tup [V.ref xj, V.ref pj])) xj g := shj.frm (.of_same s22 : Frm [] _ _) (by simp)
            have shx2 : ShAt a_Shape (upd H21 TT (.tup [V.ref xj, V.ref pj])) x' h := hx20.frm (.of_same s22 : Frm [] _ _) (by simp)
            have eS2 := s22 _ _ eS
            have ep2 := s22 _ _ ep20
            have epj2 := s22 _ _ epj
            generalize upd H21 TT (.tup [V.ref xj, V.ref pj]) = H22 at s22 shj2 shx2 eS2 ep2 epj2 ⊢
            obtain ⟨dj, tj, exj, etj⟩ := id shj2
            obtain ⟨dx', tx', exx, etx⟩ := id shx2
            have eat : atI (as'.map V.ref) (-1) = some (.ref x') := by
              unfold atI ixN
              rw [if_neg (by decide), if_pos (by rw [List.length_map, asl']; omega), List.length_map, asl']
              show (as'.map V.ref)[((-1 : Int) + ((i + 1 : Nat) : Int)).toNat]? = _
              rw [show ((-1 : Int) + ((i + 1 : Nat) : Int)).toNat = i by omega, List.getElem?_map, last']
              rfl
            try dsimp only [gName]
            refine ⟨_, rfl, _, rfl, S, _, _, .ref x', rfl, rfl, SqL.of eS2, eat, _, rfl, x', dx', _, xj, dj, _, rfl, exx, rfl, exj, x', .ref xj, h, rfl, shx2, .inl ⟨xj, g, rfl, shj2, _, rfl, ?_⟩⟩
            refine ⟨_, rfl, _, rfl, .list ((shI h).map PyData.int), .list ((shI g).map PyData.int), .lst (SqL.of ep2) (DtAll.dp (dt_ints H22 (shI h))), .lst (SqL.of epj2) (DtAll.dp (dt_ints H22 (shI g))), (e1 h).shaped (by decide), (e1 g).shaped (by decide), ?_⟩
            rw [shD_eqv, ← eqv_lt, show PyData.eqv (.tuple ((shI h).map PyData.int)) (.tuple ((shI g).map PyData.int)) = decide (shI h = shI g) from shD_eqv h g]
            refine ⟨rfl, _, rfl, ?_⟩
            rw [show (!decide (V.bl (decide (shI h = shI g)) = V.bl (decide (shI h = shI g)))) = false by simp]
            refine iteF ?_
            refine ⟨_, rfl, _, rfl, _, rfl, S, _, _, .ref x', rfl, rfl, SqL.of eS2, eat, xj, dj, _, x', dx', _, rfl, exj, rfl, exx, xj, .ref x', g, rfl, shj2, .inl ⟨x', h, rfl, shx2, _, rfl, ?_⟩⟩
            refine ⟨_, rfl, _, rfl, .list ((shI h).map PyData.int), .list ((shI g).map PyData.int), .lst (SqL.of ep2) (DtAll.dp (dt_ints H22 (shI h))), .lst (SqL.of epj2) (DtAll.dp (dt_ints H22 (shI g))), (e1 h).shaped (by decide), (e1 g).shaped (by decide), ?_⟩
            rw [shD_eqv, ← eqv_lt, show PyData.eqv (.tuple ((shI h).map PyData.int)) (.tuple ((shI g).map PyData.int)) = decide (shI h = shI g) from shD_eqv h g]
            refine ⟨rfl, _, rfl, ?_⟩
            have q2 : decide (shI g = shI h) = decide (shI h = shI g) := decide_eq_decide.mpr ⟨Eq.symm, Eq.symm⟩
            rw [show decide (V.bl (!decide (shI g = shI h)) = V.bl (decide (shI h = shI g))) = false by rw [q2]; cases decide (shI h = shI g) <;> rfl]
            refine iteF (nextK ?_)
            exact ⟨_, _, rfl, s22⟩
          · rintro σ H21 ⟨v13', v14', rfl, s21⟩
            have S21 := S20.trans s21
            have K21 := K20.same s21
            have hs21 : ShAt a_Shape H21 xf hf := hs20.frm (.of_same s21 : Frm [] _ _) (by simp)
            have el21 := s21 _ _ el20
            clear s21 K20 S20 hs20 el20 ep20 hx20 eS
            obtain ⟨df, tf, exf, etf⟩ := id hs21
            refine ⟨_, rfl, lf, _, rfl, .inl ⟨SqL.of el21, fun tl htl => ?_⟩⟩
            have st := same_new (o := HO.tup ((shI hf).map V.int)) htl
            have et := upd_same (H := H21) (a := tl) (o := .tup ((shI hf).map V.int))
            have S22 := S21.trans st
            have K22 := K21.same st
            have hs22 : ShAt a_Shape (upd H21 tl (.tup ((shI hf).map V.int))) xf hf := hs21.frm (.of_same st : Frm [] _ _) (by simp)
            have el22 := st _ _ el21
            have exf2 := st _ _ exf
            generalize upd H21 tl (.tup ((shI hf).map V.int)) = H22 at st et S22 K22 hs22 el22 exf2 ⊢
            refine ⟨_, rfl, _, rfl, xf, df, _, rfl, exf2, xf, hf, rfl, hs22, okf, _, rfl, by show 5 ≤ sizeLine; decide, fun TT hTT => ?_⟩
            have sT := same_new (o := HO.tup [V.non, .int 0, .ref tl, .ref lf, .str (repS hf.r hf.e hf.f hf.b hf.c)]) hTT
            have eT := upd_same (H := H22) (a := TT) (o := .tup [V.non, .int 0, .ref tl, .ref lf, .str (repS hf.r hf.e hf.f hf.b hf.c)])
            have TY : ∀ y ∈ [V.non, .int 0, .ref tl, .ref lf, .str (repS hf.r hf.e hf.f hf.b hf.c)], Tyd (upd H22 TT (.tup [V.non, .int 0, .ref tl, .ref lf, .str (repS hf.r hf.e hf.f hf.b hf.c)])) y ∧ ∀ q, y ≠ .bl q := fun y hy => by
              simp only [List.mem_cons, List.not_mem_nil, or_false] at hy
              rcases hy with rfl | rfl | rfl | rfl | rfl
              · exact ⟨trivial, fun q z => by cases z⟩
              · exact ⟨trivial, fun q z => by cases z⟩
              · exact ⟨.inr ⟨_, sT _ _ et⟩, fun q z => by cases z⟩
              · exact ⟨.inl ⟨_, sT _ _ el22⟩, fun q z => by cases z⟩
              · exact ⟨rep_short okf, fun q z => by cases z⟩
            have hs23 : ShAt a_Shape (upd H22 TT (.tup [V.non, .int 0, .ref tl, .ref lf, .str (repS hf.r hf.e hf.f hf.b hf.c)])) xf hf := hs22.frm (.of_same sT : Frm [] _ _) (by simp)
            have S23 := S22.trans sT
            have K23 := K22.same sT
            have exf3 := sT _ _ exf2
            generalize upd H22 TT (.tup [V.non, .int 0, .ref tl, .ref lf, .str (repS hf.r hf.e hf.f hf.b hf.c)]) = H23 at TY hs23 S23 K23 eT exf3 ⊢
            refine ⟨TT, rfl, ⟨_, SqT.of eT⟩, fun D hD => ?_⟩
            refine lc_tup_mapK hD (fun i => .bl false) (SqT.of eT) (lt_line (show 5 ≤ 100000 by decide)) ?_ ?_
            · intro j y H24 R F' hy s24 hR
              obtain ⟨ty, nb⟩ := TY y (List.mem_of_getElem? hy)
              have ty4 := ty.same s24
              have hs4 : ShAt a_Shape H24 xf hf := hs23.frm (.of_same s24 : Frm [] _ _) (by simp)
              have ex4 := s24 _ _ exf3
              refine ⟨rfl, ?_⟩
              refine ⟨_, rfl, _, rfl, .inl ⟨xf, df, _, rfl, ex4, .inl ty4, xf, y, hf, rfl, hs4, .inr ⟨ty4, _, rfl, ?_⟩⟩⟩
              refine ⟨false, rfl, iteF ?_⟩
              exact ⟨_, rfl, _, rfl, .inr ⟨xf, df, _, rfl, ex4, ty4, nb, xf, y, hf, rfl, hs4, .inr ⟨ty4, _, rfl, hR _ (Same.refl _)⟩⟩⟩
            · intro H24 s24 hD4
              refine ⟨D, [false, false, false, false, false], rfl, SqL.of hD4, _, rfl, iteF (nextK ?_)⟩
              exact ⟨_, _, _, _, _, _, _, _, _, _, _, _, _, _, as', ps', hs', rfl, S23.trans s24, hl20, K23.same s24⟩
    · rintro σ H2 ⟨v3, v4, v5, v6, v7, v8, v9, v10, v11, v12, v13, v14, v15, v16, as, ps, hs, rfl, s2, hsl, K2⟩
      have asl : as.length ≤ 1000 := by
        rw [K2.la, hsl]
        refine Nat.le_trans (?_ : _ ≤ 100) (by decide)
        split <;> split <;> omega
      refine ⟨_, rfl, _, rfl, (true, S), (true, F), _, _, rfl, SqS.lst K2.s, SqS.lst K2.f, fun D hD => ?_⟩
      refine lc_zip2_map (K := K) hD (fun i => .bl true) (SqS.lst K2.s) (SqS.lst K2.f) (by rw [List.length_map]; exact asl) ?_ ?_
      · intro j y z TT H3 R F' hy hz s3 eT hR
        rw [List.getElem?_map] at hy hz
        obtain ⟨xj, hxj, rfl⟩ := Option.map_eq_some_iff.mp hy
        obtain ⟨pj, hpj, rfl⟩ := Option.map_eq_some_iff.mp hz
        have jl : j < hs.length := by rw [← K2.la]; exact (List.getElem?_eq_some_iff.mp hxj).1
        have hgj : hs[j]? = some hs[j] := by simp [jl]
        obtain ⟨shj, okj⟩ := K2.sh j xj _ hxj hgj
        obtain ⟨epj, _, _⟩ := K2.fi j pj _ hpj hgj
        refine ⟨TT, _, rfl, SqT.of eT, rfl, _, _, rfl, _, _, rfl, rfl, rfl, ?_⟩
        exact ⟨_, rfl, _, rfl, xj, pj, hs[j], rfl, shj.frm (.of_same s3 : Frm [] _ _) (by simp), okj, s3 _ _ epj, fun H' s => hR H' s⟩
      · intro H3 s3 eD
        refine ⟨D, List.replicate (min (as.map V.ref).length (ps.map V.ref).length) true, rfl, SqL.of ?_, ?_⟩
        · rw [eD, List.map_replicate, List.map_const', List.length_range]
        · rw [show (List.replicate (min (as.map V.ref).length (ps.map V.ref).length) true).all id = true by simp]
          exact k _
end
set_option maxRecDepth 100000 in
theorem all_mk {l : PySem.W.OpenLaw} {w : World} {K : PySem.W.Frag} {h : Heap} {mg : Str → Option Value} {fa : Addr} (X : K.In h) (G : h.Ns mainGlobals mg) (hfa : mg "law" = some (.ref fa))
    {a_BOUNDS : Addr}
    {a_BOUNDS_0 : Addr} {qd_BOUNDS_0 : Option Addr} {qn_BOUNDS_0 : Nat} {qs_BOUNDS_0 : Array (Option Value)} {qt_BOUNDS_0_0 : Tok} {qt_BOUNDS_0_1 : Tok} {qt_BOUNDS_0_2 : Tok}
    {a_BOUNDS_1 : Addr} {qd_BOUNDS_1 : Option Addr} {qn_BOUNDS_1 : Nat} {qs_BOUNDS_1 : Array (Option Value)} {qt_BOUNDS_1_0 : Tok} {qt_BOUNDS_1_1 : Tok} {qt_BOUNDS_1_2 : Tok}
    {a_BOUNDS_2 : Addr} {qd_BOUNDS_2 : Option Addr} {qn_BOUNDS_2 : Nat} {qs_BOUNDS_2 : Array (Option Value)} {qt_BOUNDS_2_0 : Tok} {qt_BOUNDS_2_1 : Tok} {qt_BOUNDS_2_2 : Tok}
    {a_BOUNDS_3 : Addr} {qd_BOUNDS_3 : Option Addr} {qn_BOUNDS_3 : Nat} {qs_BOUNDS_3 : Array (Option Value)} {qt_BOUNDS_3_0 : Tok} {qt_BOUNDS_3_1 : Tok} {qt_BOUNDS_3_2 : Tok}
    {a_BOUNDS_4 : Addr} {qd_BOUNDS_4 : Option Addr} {qn_BOUNDS_4 : Nat} {qs_BOUNDS_4 : Array (Option Value)} {qt_BOUNDS_4_0 : Tok} {qt_BOUNDS_4_1 : Tok} {qt_BOUNDS_4_2 : Tok}
    {qd_BOUNDS : Option Addr} {qn_BOUNDS : Nat} {qs_BOUNDS : Array (Option Value)} 
    {a_Shape : Addr}
    {a_NoShape : Addr}
    {xnm_NoShape xq_NoShape : Str} {xN_NoShape : Addr} {xbs_NoShape : List Value} {xh_NoShape : Bool} {xsn_NoShape : List Str} {xsub_NoShape : List Value} {xab_NoShape : Bool} {xcol_NoShape : Option Bool} {xdd_NoShape : Option Addr} {xk0_NoShape xk1_NoShape xk2_NoShape xk3_NoShape xk5_NoShape : Option Value}
    {xnc_NoShape : Value} {xnd_NoShape : Option Addr} {xne_NoShape : Array DictEntry} {xnn_NoShape : Nat} {xnl_NoShape : Array (Option Value)}
    {a_NoStore : Addr}
    {a_NoRow : Addr}
    {a_NoDesign : Addr}
    {f0 : Addr} {od0 an0 : Option Addr} {sl0 : Array (Option Value)} {oc0 kV0 dc0 pm0 cd0 ct0 : Value}
    {f1 : Addr} {od1 an1 : Option Addr} {sl1 : Array (Option Value)} {oc1 kV1 dc1 pm1 cd1 ct1 : Value}
    {f2 : Addr} {od2 an2 : Option Addr} {sl2 : Array (Option Value)} {oc2 kV2 dc2 pm2 cd2 ct2 : Value}
    {kA_Shape___init__  : Addr} {f3 : Addr} {od3 an3 : Option Addr} {sl3 : Array (Option Value)} {oc3 dc3 pm3 cd3 ct3 : Value}
    {kcc3 : Value} {kcd3 : Option Addr} {kcn3 : Nat} {kcs3 : Array (Option Value)}
    {td_Shape___init___rows : Tok}
    {td_Shape___init___entries : Tok}
    {td_Shape___init___fan : Tok}
    {td_Shape___init___buckets : Tok}
    {td_Shape___init___bits : Tok}
    {hk3_0 : Int} {tk3_0 : Tok}
    {hk3_1 : Int} {tk3_1 : Tok}
    {hk3_2 : Int} {tk3_2 : Tok}
    {hk3_3 : Int} {tk3_3 : Tok}
    {hk3_4 : Int} {tk3_4 : Tok}
    {f4 : Addr} {od4 an4 : Option Addr} {sl4 : Array (Option Value)} {oc4 kV4 dc4 pm4 cd4 ct4 : Value}
    {p4 : Addr} {pr4 : List Value}
    {f5 : Addr} {od5 an5 : Option Addr} {sl5 : Array (Option Value)} {oc5 kV5 dc5 pm5 cd5 ct5 : Value}
    {p5 : Addr} {pr5 : List Value}
    {f6 : Addr} {od6 an6 : Option Addr} {sl6 : Array (Option Value)} {oc6 kV6 dc6 pm6 cd6 ct6 : Value}
    {p6 : Addr} {pr6 : List Value}
    {f7 : Addr} {od7 an7 : Option Addr} {sl7 : Array (Option Value)} {oc7 kV7 dc7 pm7 cd7 ct7 : Value}
    {p7 : Addr} {pr7 : List Value}
    {f8 : Addr} {od8 an8 : Option Addr} {sl8 : Array (Option Value)} {oc8 kV8 dc8 pm8 cd8 ct8 : Value}
    {p8 : Addr} {pr8 : List Value}
    {f9 : Addr} {od9 an9 : Option Addr} {sl9 : Array (Option Value)} {oc9 kV9 dc9 pm9 cd9 ct9 : Value}
    {f10 : Addr} {od10 an10 : Option Addr} {sl10 : Array (Option Value)} {oc10 kV10 dc10 pm10 cd10 ct10 : Value}
    {f11 : Addr} {od11 an11 : Option Addr} {sl11 : Array (Option Value)} {oc11 kV11 dc11 pm11 cd11 ct11 : Value}
    {f12 : Addr} {od12 an12 : Option Addr} {sl12 : Array (Option Value)} {oc12 kV12 dc12 pm12 cd12 ct12 : Value}
    {f13 : Addr} {od13 an13 : Option Addr} {sl13 : Array (Option Value)} {oc13 kV13 dc13 pm13 cd13 ct13 : Value}
    {f14 : Addr} {od14 an14 : Option Addr} {sl14 : Array (Option Value)} {oc14 kV14 dc14 pm14 cd14 ct14 : Value}
    {f15 : Addr} {od15 an15 : Option Addr} {sl15 : Array (Option Value)} {oc15 kV15 dc15 pm15 cd15 ct15 : Value}
    {f16 : Addr} {od16 an16 : Option Addr} {sl16 : Array (Option Value)} {oc16 kV16 dc16 pm16 cd16 ct16 : Value}
    {f17 : Addr} {od17 an17 : Option Addr} {sl17 : Array (Option Value)} {oc17 kV17 dc17 pm17 cd17 ct17 : Value}
    {f18 : Addr} {od18 an18 : Option Addr} {sl18 : Array (Option Value)} {oc18 kV18 dc18 pm18 cd18 ct18 : Value}
    (g_BOUNDS : PySem.W.nsIn K mainGlobals "BOUNDS" = some (some (.ref a_BOUNDS)))
    (q_BOUNDS : K.lookup a_BOUNDS = some ⟨.type "tuple", qd_BOUNDS, .seq #[.ref a_BOUNDS_0, .ref a_BOUNDS_1, .ref a_BOUNDS_2, .ref a_BOUNDS_3, .ref a_BOUNDS_4] qn_BOUNDS, qs_BOUNDS⟩)
    (q_BOUNDS_0 : K.lookup a_BOUNDS_0 = some ⟨.type "tuple", qd_BOUNDS_0, .seq #[.str "rows" qt_BOUNDS_0_0, .int 2 qt_BOUNDS_0_1, .int 8 qt_BOUNDS_0_2] qn_BOUNDS_0, qs_BOUNDS_0⟩)
    (q_BOUNDS_1 : K.lookup a_BOUNDS_1 = some ⟨.type "tuple", qd_BOUNDS_1, .seq #[.str "entries" qt_BOUNDS_1_0, .int 2 qt_BOUNDS_1_1, .int 8 qt_BOUNDS_1_2] qn_BOUNDS_1, qs_BOUNDS_1⟩)
    (q_BOUNDS_2 : K.lookup a_BOUNDS_2 = some ⟨.type "tuple", qd_BOUNDS_2, .seq #[.str "fan" qt_BOUNDS_2_0, .int 2 qt_BOUNDS_2_1, .int 8 qt_BOUNDS_2_2] qn_BOUNDS_2, qs_BOUNDS_2⟩)
    (q_BOUNDS_3 : K.lookup a_BOUNDS_3 = some ⟨.type "tuple", qd_BOUNDS_3, .seq #[.str "buckets" qt_BOUNDS_3_0, .int 1 qt_BOUNDS_3_1, .int 8 qt_BOUNDS_3_2] qn_BOUNDS_3, qs_BOUNDS_3⟩)
    (q_BOUNDS_4 : K.lookup a_BOUNDS_4 = some ⟨.type "tuple", qd_BOUNDS_4, .seq #[.str "bits" qt_BOUNDS_4_0, .int 2 qt_BOUNDS_4_1, .int 64 qt_BOUNDS_4_2] qn_BOUNDS_4, qs_BOUNDS_4⟩)
    (z_ValueError : PySem.W.nsIn K mainGlobals "ValueError" = some none)
    (z_abs : PySem.W.nsIn K mainGlobals "abs" = some none)
    (z_all : PySem.W.nsIn K mainGlobals "all" = some none)
    (z_any : PySem.W.nsIn K mainGlobals "any" = some none)
    (z_bool : PySem.W.nsIn K mainGlobals "bool" = some none)
    (z_int : PySem.W.nsIn K mainGlobals "int" = some none)
    (z_isinstance : PySem.W.nsIn K mainGlobals "isinstance" = some none)
    (z_len : PySem.W.nsIn K mainGlobals "len" = some none)
    (z_list : PySem.W.nsIn K mainGlobals "list" = some none)
    (z_max : PySem.W.nsIn K mainGlobals "max" = some none)
    (z_min : PySem.W.nsIn K mainGlobals "min" = some none)
    (z_range : PySem.W.nsIn K mainGlobals "range" = some none)
    (z_repr : PySem.W.nsIn K mainGlobals "repr" = some none)
    (z_str : PySem.W.nsIn K mainGlobals "str" = some none)
    (z_tuple : PySem.W.nsIn K mainGlobals "tuple" = some none)
    (z_zip : PySem.W.nsIn K mainGlobals "zip" = some none)
    (ac_Shape : PySem.W.nsIn K mainGlobals "Shape" = some (some (.ref a_Shape)))
    (pg_Shape : PySem.W.plainGet K a_Shape Str.empty = true)
    (hd_Shape : PySem.W.hasDictIn K a_Shape = true)
    (po_Shape : PySem.W.plainOver K a_Shape = true)
    (sa_Shape : PySem.W.findIn K (.ref a_Shape) "__setattr__" = some (some (.builtin "object.__setattr__")))
    (mk_Shape : PySem.W.makesIn K a_Shape = true)
    (kc_Shape : PySem.W.keepIn K (.ref a_Shape) = true)
    (occ_Shape : PySem.W.findIn K (.ref a_Shape) "__class__" = some (some (.builtin "object.__class__")))
    (omo_Shape : PySem.W.mroIn K a_Shape (.type "object") = some true)
    (on_Shape : PySem.W.findIn K (.ref a_Shape) "__ne__" = some (some (.builtin "object.__ne__")))
    (oty_Shape : PySem.W.typeIn K (.ref a_Shape) = some (.type "type"))
    (na_Shape_measures : PySem.W.findIn K (.ref a_Shape) "measures" = some none)
    (ac_NoShape : PySem.W.nsIn K mainGlobals "NoShape" = some (some (.ref a_NoShape)))
    (xga_NoShape : PySem.W.findIn K (.ref a_NoShape) "__getattribute__" = some (some (.builtin "BaseException.__getattribute__")))
    (xgn_NoShape : PySem.W.findIn K (.ref a_NoShape) "__getattr__" = some none)
    (xcc_NoShape : PySem.W.findIn K (.ref a_NoShape) "__class__" = some (some (.builtin "object.__class__")))
    (xmb_NoShape : PySem.W.mroIn K a_NoShape (.type "BaseException") = some true)
    (xmo_NoShape : PySem.W.mroIn K a_NoShape (.type "object") = some true)
    (xhd_NoShape : PySem.W.hasDictIn K a_NoShape = true)
    (xss_NoShape : PySem.W.subIn K (.ref a_NoShape) (.ref a_NoShape) = some true)
    (xty_NoShape : PySem.W.typeIn K (.ref a_NoShape) = some (.type "type"))
    (xsb_NoShape : PySem.W.subIn K (.ref a_NoShape) (.type "BaseException") = some true)
    (xsa_NoShape : PySem.W.findIn K (.ref a_NoShape) "__setattr__" = some (some (.builtin "object.__setattr__")))
    (xl_NoShape : K.lookup a_NoShape = some (PySem.excClassObj xnm_NoShape xq_NoShape a_NoShape xN_NoShape xbs_NoShape [.type "ValueError", .type "Exception", .type "BaseException", .type "object"] xh_NoShape xsn_NoShape xsub_NoShape xab_NoShape xcol_NoShape xdd_NoShape xk0_NoShape xk1_NoShape xk2_NoShape xk3_NoShape xk5_NoShape "ValueError.__new__"))
    (xn_NoShape : K.lookup xN_NoShape = some ⟨xnc_NoShape, xnd_NoShape, .dict xne_NoShape xnn_NoShape, xnl_NoShape⟩)
    (xi_NoShape : PySem.W.nsIn K xN_NoShape "__init__" = some (some (.ref f0)))
    (xe_NoShape : (xne_NoShape.toList.all fun e => match e.key with | .str _ _ => true | _ => false) = true)
    (ac_NoStore : PySem.W.nsIn K mainGlobals "NoStore" = some (some (.ref a_NoStore)))
    (xga_NoStore : PySem.W.findIn K (.ref a_NoStore) "__getattribute__" = some (some (.builtin "BaseException.__getattribute__")))
    (xgn_NoStore : PySem.W.findIn K (.ref a_NoStore) "__getattr__" = some none)
    (xcc_NoStore : PySem.W.findIn K (.ref a_NoStore) "__class__" = some (some (.builtin "object.__class__")))
    (xmb_NoStore : PySem.W.mroIn K a_NoStore (.type "BaseException") = some true)
    (xmo_NoStore : PySem.W.mroIn K a_NoStore (.type "object") = some true)
    (xhd_NoStore : PySem.W.hasDictIn K a_NoStore = true)
    (xss_NoStore : PySem.W.subIn K (.ref a_NoStore) (.ref a_NoStore) = some true)
    (xty_NoStore : PySem.W.typeIn K (.ref a_NoStore) = some (.type "type"))
    (xsb_NoStore : PySem.W.subIn K (.ref a_NoStore) (.type "BaseException") = some true)
    (ac_NoRow : PySem.W.nsIn K mainGlobals "NoRow" = some (some (.ref a_NoRow)))
    (xga_NoRow : PySem.W.findIn K (.ref a_NoRow) "__getattribute__" = some (some (.builtin "BaseException.__getattribute__")))
    (xgn_NoRow : PySem.W.findIn K (.ref a_NoRow) "__getattr__" = some none)
    (xcc_NoRow : PySem.W.findIn K (.ref a_NoRow) "__class__" = some (some (.builtin "object.__class__")))
    (xmb_NoRow : PySem.W.mroIn K a_NoRow (.type "BaseException") = some true)
    (xmo_NoRow : PySem.W.mroIn K a_NoRow (.type "object") = some true)
    (xhd_NoRow : PySem.W.hasDictIn K a_NoRow = true)
    (xss_NoRow : PySem.W.subIn K (.ref a_NoRow) (.ref a_NoRow) = some true)
    (xty_NoRow : PySem.W.typeIn K (.ref a_NoRow) = some (.type "type"))
    (xsb_NoRow : PySem.W.subIn K (.ref a_NoRow) (.type "BaseException") = some true)
    (ac_NoDesign : PySem.W.nsIn K mainGlobals "NoDesign" = some (some (.ref a_NoDesign)))
    (xga_NoDesign : PySem.W.findIn K (.ref a_NoDesign) "__getattribute__" = some (some (.builtin "BaseException.__getattribute__")))
    (xgn_NoDesign : PySem.W.findIn K (.ref a_NoDesign) "__getattr__" = some none)
    (xcc_NoDesign : PySem.W.findIn K (.ref a_NoDesign) "__class__" = some (some (.builtin "object.__class__")))
    (xmb_NoDesign : PySem.W.mroIn K a_NoDesign (.type "BaseException") = some true)
    (xmo_NoDesign : PySem.W.mroIn K a_NoDesign (.type "object") = some true)
    (xhd_NoDesign : PySem.W.hasDictIn K a_NoDesign = true)
    (xss_NoDesign : PySem.W.subIn K (.ref a_NoDesign) (.ref a_NoDesign) = some true)
    (xty_NoDesign : PySem.W.typeIn K (.ref a_NoDesign) = some (.type "type"))
    (xsb_NoDesign : PySem.W.subIn K (.ref a_NoDesign) (.type "BaseException") = some true)
    (xs_NoShape_NoDesign : PySem.W.subIn K (.ref a_NoShape) (.ref a_NoDesign) = some false)
    (xs_NoShape_NoRow : PySem.W.subIn K (.ref a_NoShape) (.ref a_NoRow) = some false)
    (xs_NoShape_NoShape : PySem.W.subIn K (.ref a_NoShape) (.ref a_NoShape) = some true)
    (xs_NoShape_NoStore : PySem.W.subIn K (.ref a_NoShape) (.ref a_NoStore) = some false)
    (xs_NoShape_ValueError : PySem.W.subIn K (.ref a_NoShape) (.type "ValueError") = some true)
    (na_NoShape_name : PySem.W.findIn K (.ref a_NoShape) "name" = some none)
    (a0 : PySem.W.findIn K (.ref a_NoShape) "__init__" = some (some (.ref f0)))
    (i0 : PySem.W.isFn K (.ref f0) = true)
    (l0 : K.lookup f0 = some ⟨oc0, od0, .func (PySem.W.fnOf "__init__" "NoShape.__init__" (defArgs s_NoShape___init__) (defBody s_NoShape___init__) (defScope s_NoShape___init__) .none kV0 dc0 pm0 an0 cd0 ct0), sl0⟩)
    (c0 : PySem.W.codeIn K cd0 "NoShape.__init__" = true)
    (k0 : PySem.W.keepIn K (.ref f0) = true)
    (a1 : PySem.W.nsIn K mainGlobals "is_whole" = some (some (.ref f1)))
    (l1 : K.lookup f1 = some ⟨oc1, od1, .func (PySem.W.fnOf "is_whole" "is_whole" (defArgs s_is_whole) (defBody s_is_whole) (defScope s_is_whole) .none kV1 dc1 pm1 an1 cd1 ct1), sl1⟩)
    (c1 : PySem.W.codeIn K cd1 "is_whole" = true)
    (k1 : PySem.W.keepIn K (.ref f1) = true)
    (a2 : PySem.W.nsIn K mainGlobals "first_wrong" = some (some (.ref f2)))
    (l2 : K.lookup f2 = some ⟨oc2, od2, .func (PySem.W.fnOf "first_wrong" "first_wrong" (defArgs s_first_wrong) (defBody s_first_wrong) (defScope s_first_wrong) .none kV2 dc2 pm2 an2 cd2 ct2), sl2⟩)
    (c2 : PySem.W.codeIn K cd2 "first_wrong" = true)
    (k2 : PySem.W.keepIn K (.ref f2) = true)
    (a3 : PySem.W.findIn K (.ref a_Shape) "__init__" = some (some (.ref f3)))
    (i3 : PySem.W.isFn K (.ref f3) = true)
    (l3 : K.lookup f3 = some ⟨oc3, od3, .func (PySem.W.fnOf "__init__" "Shape.__init__" (defArgs s_Shape___init__) (defBody s_Shape___init__) (defScope s_Shape___init__) .none (.ref kA_Shape___init__) dc3 pm3 an3 cd3 ct3), sl3⟩)
    (kk3 : K.lookup kA_Shape___init__ = some ⟨kcc3, kcd3, .dict #[⟨hk3_0, .str "rows" tk3_0, (Value.int 4 td_Shape___init___rows)⟩, ⟨hk3_1, .str "entries" tk3_1, (Value.int 4 td_Shape___init___entries)⟩, ⟨hk3_2, .str "fan" tk3_2, (Value.int 3 td_Shape___init___fan)⟩, ⟨hk3_3, .str "buckets" tk3_3, (Value.int 4 td_Shape___init___buckets)⟩, ⟨hk3_4, .str "bits" tk3_4, (Value.int 16 td_Shape___init___bits)⟩] kcn3, kcs3⟩)
    (c3 : PySem.W.codeIn K cd3 "Shape.__init__" = true)
    (k3 : PySem.W.keepIn K (.ref f3) = true)
    (pa4 : PySem.W.findIn K (.ref a_Shape) "rows" = some (some (.ref p4)))
    (pb4 : PySem.W.specialIn K (.ref p4) "__get__" = some (some (.builtin "property.__get__")))
    (pc4 : PySem.W.takesIn K (.ref p4) = some true)
    (pd4 : PySem.W.recIn K p4 "property" = some (.ref f4 :: pr4))
    (l4 : K.lookup f4 = some ⟨oc4, od4, .func (PySem.W.fnOf "rows" "Shape.rows" (defArgs s_Shape_rows) (defBody s_Shape_rows) (defScope s_Shape_rows) .none kV4 dc4 pm4 an4 cd4 ct4), sl4⟩)
    (c4 : PySem.W.codeIn K cd4 "Shape.rows" = true)
    (k4 : PySem.W.keepIn K (.ref f4) = true)
    (pa5 : PySem.W.findIn K (.ref a_Shape) "entries" = some (some (.ref p5)))
    (pb5 : PySem.W.specialIn K (.ref p5) "__get__" = some (some (.builtin "property.__get__")))
    (pc5 : PySem.W.takesIn K (.ref p5) = some true)
    (pd5 : PySem.W.recIn K p5 "property" = some (.ref f5 :: pr5))
    (l5 : K.lookup f5 = some ⟨oc5, od5, .func (PySem.W.fnOf "entries" "Shape.entries" (defArgs s_Shape_entries) (defBody s_Shape_entries) (defScope s_Shape_entries) .none kV5 dc5 pm5 an5 cd5 ct5), sl5⟩)
    (c5 : PySem.W.codeIn K cd5 "Shape.entries" = true)
    (k5 : PySem.W.keepIn K (.ref f5) = true)
    (pa6 : PySem.W.findIn K (.ref a_Shape) "fan" = some (some (.ref p6)))
    (pb6 : PySem.W.specialIn K (.ref p6) "__get__" = some (some (.builtin "property.__get__")))
    (pc6 : PySem.W.takesIn K (.ref p6) = some true)
    (pd6 : PySem.W.recIn K p6 "property" = some (.ref f6 :: pr6))
    (l6 : K.lookup f6 = some ⟨oc6, od6, .func (PySem.W.fnOf "fan" "Shape.fan" (defArgs s_Shape_fan) (defBody s_Shape_fan) (defScope s_Shape_fan) .none kV6 dc6 pm6 an6 cd6 ct6), sl6⟩)
    (c6 : PySem.W.codeIn K cd6 "Shape.fan" = true)
    (k6 : PySem.W.keepIn K (.ref f6) = true)
    (pa7 : PySem.W.findIn K (.ref a_Shape) "buckets" = some (some (.ref p7)))
    (pb7 : PySem.W.specialIn K (.ref p7) "__get__" = some (some (.builtin "property.__get__")))
    (pc7 : PySem.W.takesIn K (.ref p7) = some true)
    (pd7 : PySem.W.recIn K p7 "property" = some (.ref f7 :: pr7))
    (l7 : K.lookup f7 = some ⟨oc7, od7, .func (PySem.W.fnOf "buckets" "Shape.buckets" (defArgs s_Shape_buckets) (defBody s_Shape_buckets) (defScope s_Shape_buckets) .none kV7 dc7 pm7 an7 cd7 ct7), sl7⟩)
    (c7 : PySem.W.codeIn K cd7 "Shape.buckets" = true)
    (k7 : PySem.W.keepIn K (.ref f7) = true)
    (pa8 : PySem.W.findIn K (.ref a_Shape) "bits" = some (some (.ref p8)))
    (pb8 : PySem.W.specialIn K (.ref p8) "__get__" = some (some (.builtin "property.__get__")))
    (pc8 : PySem.W.takesIn K (.ref p8) = some true)
    (pd8 : PySem.W.recIn K p8 "property" = some (.ref f8 :: pr8))
    (l8 : K.lookup f8 = some ⟨oc8, od8, .func (PySem.W.fnOf "bits" "Shape.bits" (defArgs s_Shape_bits) (defBody s_Shape_bits) (defScope s_Shape_bits) .none kV8 dc8 pm8 an8 cd8 ct8), sl8⟩)
    (c8 : PySem.W.codeIn K cd8 "Shape.bits" = true)
    (k8 : PySem.W.keepIn K (.ref f8) = true)
    (a9 : PySem.W.findIn K (.ref a_Shape) "__eq__" = some (some (.ref f9)))
    (i9 : PySem.W.isFn K (.ref f9) = true)
    (l9 : K.lookup f9 = some ⟨oc9, od9, .func (PySem.W.fnOf "__eq__" "Shape.__eq__" (defArgs s_Shape___eq__) (defBody s_Shape___eq__) (defScope s_Shape___eq__) .none kV9 dc9 pm9 an9 cd9 ct9), sl9⟩)
    (c9 : PySem.W.codeIn K cd9 "Shape.__eq__" = true)
    (k9 : PySem.W.keepIn K (.ref f9) = true)
    (a10 : PySem.W.findIn K (.ref a_Shape) "__repr__" = some (some (.ref f10)))
    (i10 : PySem.W.isFn K (.ref f10) = true)
    (l10 : K.lookup f10 = some ⟨oc10, od10, .func (PySem.W.fnOf "__repr__" "Shape.__repr__" (defArgs s_Shape___repr__) (defBody s_Shape___repr__) (defScope s_Shape___repr__) .none kV10 dc10 pm10 an10 cd10 ct10), sl10⟩)
    (c10 : PySem.W.codeIn K cd10 "Shape.__repr__" = true)
    (k10 : PySem.W.keepIn K (.ref f10) = true)
    (a11 : PySem.W.nsIn K mainGlobals "_law_bag" = some (some (.ref f11)))
    (l11 : K.lookup f11 = some ⟨oc11, od11, .func (PySem.W.fnOf "_law_bag" "_law_bag" (defArgs s_law_bag) (defBody s_law_bag) (defScope s_law_bag) .none kV11 dc11 pm11 an11 cd11 ct11), sl11⟩)
    (c11 : PySem.W.codeIn K cd11 "_law_bag" = true)
    (k11 : PySem.W.keepIn K (.ref f11) = true)
    (a12 : PySem.W.nsIn K mainGlobals "_law_take" = some (some (.ref f12)))
    (l12 : K.lookup f12 = some ⟨oc12, od12, .func (PySem.W.fnOf "_law_take" "_law_take" (defArgs s_law_take) (defBody s_law_take) (defScope s_law_take) .none kV12 dc12 pm12 an12 cd12 ct12), sl12⟩)
    (c12 : PySem.W.codeIn K cd12 "_law_take" = true)
    (k12 : PySem.W.keepIn K (.ref f12) = true)
    (a13 : PySem.W.nsIn K mainGlobals "_law_whole" = some (some (.ref f13)))
    (l13 : K.lookup f13 = some ⟨oc13, od13, .func (PySem.W.fnOf "_law_whole" "_law_whole" (defArgs s_law_whole) (defBody s_law_whole) (defScope s_law_whole) .none kV13 dc13 pm13 an13 cd13 ct13), sl13⟩)
    (c13 : PySem.W.codeIn K cd13 "_law_whole" = true)
    (k13 : PySem.W.keepIn K (.ref f13) = true)
    (a14 : PySem.W.nsIn K mainGlobals "_law_made" = some (some (.ref f14)))
    (l14 : K.lookup f14 = some ⟨oc14, od14, .func (PySem.W.fnOf "_law_made" "_law_made" (defArgs s_law_made) (defBody s_law_made) (defScope s_law_made) .none kV14 dc14 pm14 an14 cd14 ct14), sl14⟩)
    (c14 : PySem.W.codeIn K cd14 "_law_made" = true)
    (k14 : PySem.W.keepIn K (.ref f14) = true)
    (a15 : PySem.W.nsIn K mainGlobals "_law_due" = some (some (.ref f15)))
    (l15 : K.lookup f15 = some ⟨oc15, od15, .func (PySem.W.fnOf "_law_due" "_law_due" (defArgs s_law_due) (defBody s_law_due) (defScope s_law_due) .none kV15 dc15 pm15 an15 cd15 ct15), sl15⟩)
    (c15 : PySem.W.codeIn K cd15 "_law_due" = true)
    (k15 : PySem.W.keepIn K (.ref f15) = true)
    (a16 : PySem.W.nsIn K mainGlobals "_law_is" = some (some (.ref f16)))
    (l16 : K.lookup f16 = some ⟨oc16, od16, .func (PySem.W.fnOf "_law_is" "_law_is" (defArgs s_law_is) (defBody s_law_is) (defScope s_law_is) .none kV16 dc16 pm16 an16 cd16 ct16), sl16⟩)
    (c16 : PySem.W.codeIn K cd16 "_law_is" = true)
    (k16 : PySem.W.keepIn K (.ref f16) = true)
    (a17 : PySem.W.nsIn K mainGlobals "_law_left_out" = some (some (.ref f17)))
    (l17 : K.lookup f17 = some ⟨oc17, od17, .func (PySem.W.fnOf "_law_left_out" "_law_left_out" (defArgs s_law_left_out) (defBody s_law_left_out) (defScope s_law_left_out) .none kV17 dc17 pm17 an17 cd17 ct17), sl17⟩)
    (c17 : PySem.W.codeIn K cd17 "_law_left_out" = true)
    (k17 : PySem.W.keepIn K (.ref f17) = true)
    (a18 : PySem.W.nsIn K mainGlobals "law" = some (some (.ref f18)))
    (l18 : K.lookup f18 = some ⟨oc18, od18, .func (PySem.W.fnOf "law" "law" (defArgs s_law) (defBody s_law) (defScope s_law) .none kV18 dc18 pm18 an18 cd18 ct18), sl18⟩)
    (c18 : PySem.W.codeIn K cd18 "law" = true)
    (k18 : PySem.W.keepIn K (.ref f18) = true) :
    ∃ fd : FuncData, (∀ (s : Shared) (v : Value), BindsTo s fd ⟨[v], []⟩ [("_law_script", v)]) ∧ ∀ base : Heap, K.In base → base.Ns mainGlobals mg → FnOk l.prog w K mg base CX0 6 fa fd ["_law_script"] (sp_law K) := by
  have e := hfa.symm.trans (PySem.W.mg_of X G a18)
  cases e
  have T : Txt K mg a_BOUNDS a_BOUNDS_0 a_BOUNDS_1 a_BOUNDS_2 a_BOUNDS_3 a_BOUNDS_4 a_Shape a_NoShape a_NoStore a_NoRow a_NoDesign kA_Shape___init__ := ⟨PySem.W.mg_none_of X G z_ValueError,
    PySem.W.mg_none_of X G z_abs,
    PySem.W.mg_none_of X G z_all,
    PySem.W.mg_none_of X G z_any,
    PySem.W.mg_none_of X G z_bool,
    PySem.W.mg_none_of X G z_int,
    PySem.W.mg_none_of X G z_isinstance,
    PySem.W.mg_none_of X G z_len,
    PySem.W.mg_none_of X G z_list,
    PySem.W.mg_none_of X G z_max,
    PySem.W.mg_none_of X G z_min,
    PySem.W.mg_none_of X G z_range,
    PySem.W.mg_none_of X G z_repr,
    PySem.W.mg_none_of X G z_str,
    PySem.W.mg_none_of X G z_tuple,
    PySem.W.mg_none_of X G z_zip,
    PySem.W.mg_of X G g_BOUNDS,
    ⟨_, _, _, q_BOUNDS_0, rfl, rfl, by show 3 ≤ sizeLine; decide, .cons ⟨_, rfl⟩ (.cons ⟨_, rfl⟩ (.cons ⟨_, rfl⟩ (.nil)))⟩,
    ⟨_, _, _, q_BOUNDS_1, rfl, rfl, by show 3 ≤ sizeLine; decide, .cons ⟨_, rfl⟩ (.cons ⟨_, rfl⟩ (.cons ⟨_, rfl⟩ (.nil)))⟩,
    ⟨_, _, _, q_BOUNDS_2, rfl, rfl, by show 3 ≤ sizeLine; decide, .cons ⟨_, rfl⟩ (.cons ⟨_, rfl⟩ (.cons ⟨_, rfl⟩ (.nil)))⟩,
    ⟨_, _, _, q_BOUNDS_3, rfl, rfl, by show 3 ≤ sizeLine; decide, .cons ⟨_, rfl⟩ (.cons ⟨_, rfl⟩ (.cons ⟨_, rfl⟩ (.nil)))⟩,
    ⟨_, _, _, q_BOUNDS_4, rfl, rfl, by show 3 ≤ sizeLine; decide, .cons ⟨_, rfl⟩ (.cons ⟨_, rfl⟩ (.cons ⟨_, rfl⟩ (.nil)))⟩,
    ⟨_, _, _, q_BOUNDS, rfl, rfl, by show 5 ≤ sizeLine; decide, .cons rfl (.cons rfl (.cons rfl (.cons rfl (.cons rfl (.nil)))))⟩,
    ⟨pg_Shape, hd_Shape, po_Shape, sa_Shape⟩,
    PySem.W.mg_of X G ac_Shape,
    ⟨⟨pg_Shape, hd_Shape, po_Shape, sa_Shape⟩, occ_Shape, omo_Shape, oty_Shape⟩,
    on_Shape,
    na_Shape_measures,
    ⟨xga_NoShape, xgn_NoShape, xcc_NoShape, xmb_NoShape, xmo_NoShape, xhd_NoShape⟩,
    PySem.W.mg_of X G ac_NoShape,
    ⟨⟨_, _, _, _, _, _, _, _, _, _, _, _, _, _, _, _, _, PySem.F.excBase_ValueError, xl_NoShape⟩, PySem.W.base_found_ValueError _, rfl, by decide +kernel, by decide +kernel⟩,
    xset_of xsa_NoShape xhd_NoShape xl_NoShape PySem.F.store_ValueError,
    ⟨xga_NoStore, xgn_NoStore, xcc_NoStore, xmb_NoStore, xmo_NoStore, xhd_NoStore⟩,
    PySem.W.mg_of X G ac_NoStore,
    ⟨xga_NoRow, xgn_NoRow, xcc_NoRow, xmb_NoRow, xmo_NoRow, xhd_NoRow⟩,
    PySem.W.mg_of X G ac_NoRow,
    ⟨xga_NoDesign, xgn_NoDesign, xcc_NoDesign, xmb_NoDesign, xmo_NoDesign, xhd_NoDesign⟩,
    PySem.W.mg_of X G ac_NoDesign,
    kit1_ref xhd_NoDesign xty_NoDesign xss_NoShape xs_NoShape_NoDesign,
    kit1_ref xhd_NoRow xty_NoRow xss_NoShape xs_NoShape_NoRow,
    kit1_ref xhd_NoStore xty_NoStore xss_NoShape xs_NoShape_NoStore,
    kit1_ty (by decide +kernel) xs_NoShape_ValueError,
    exm_ref xhd_NoShape xty_NoShape xsb_NoShape xs_NoShape_NoShape,
    na_NoShape_name,
    ⟨_, _, _, _, _, _, _, _, _, _, _, _, _, _, _, _, _, _, _, kk3⟩,
    ⟨_, _, ⟨⟨_, _, _, _, _, _, _, _, _, _, _, _, _, _, _, _, _, _, _, PySem.F.excBase_ValueError, xl_NoShape, nsStr_of xn_NoShape xe_NoShape, xi_NoShape⟩, i0⟩, fun_mk (st := s_NoShape___init__) l0 c0 k0⟩,
    ⟨_, _, PySem.W.mg_of X G a1, fun_mk (st := s_is_whole) l1 c1 k1⟩,
    ⟨_, _, PySem.W.mg_of X G a2, fun_mk (st := s_first_wrong) l2 c2 k2⟩,
    ⟨_, _, ⟨mk_Shape, a3, i3, kc_Shape⟩, funD_mk (st := s_Shape___init__) l3 c3 k3⟩,
    ⟨_, _, ⟨_, pa4, pb4, pc4, _, pd4⟩, fun_mk (st := s_Shape_rows) l4 c4 k4⟩,
    ⟨_, _, ⟨_, pa5, pb5, pc5, _, pd5⟩, fun_mk (st := s_Shape_entries) l5 c5 k5⟩,
    ⟨_, _, ⟨_, pa6, pb6, pc6, _, pd6⟩, fun_mk (st := s_Shape_fan) l6 c6 k6⟩,
    ⟨_, _, ⟨_, pa7, pb7, pc7, _, pd7⟩, fun_mk (st := s_Shape_buckets) l7 c7 k7⟩,
    ⟨_, _, ⟨_, pa8, pb8, pc8, _, pd8⟩, fun_mk (st := s_Shape_bits) l8 c8 k8⟩,
    ⟨_, _, ⟨a9, i9, k9⟩, fun_mk (st := s_Shape___eq__) l9 c9 k9⟩,
    ⟨_, _, ⟨a10, i10, k10⟩, fun_mk (st := s_Shape___repr__) l10 c10 k10⟩,
    ⟨_, _, PySem.W.mg_of X G a11, fun_mk (st := s_law_bag) l11 c11 k11⟩,
    ⟨_, _, PySem.W.mg_of X G a12, fun_mk (st := s_law_take) l12 c12 k12⟩,
    ⟨_, _, PySem.W.mg_of X G a13, fun_mk (st := s_law_whole) l13 c13 k13⟩,
    ⟨_, _, PySem.W.mg_of X G a14, fun_mk (st := s_law_made) l14 c14 k14⟩,
    ⟨_, _, PySem.W.mg_of X G a15, fun_mk (st := s_law_due) l15 c15 k15⟩,
    ⟨_, _, PySem.W.mg_of X G a16, fun_mk (st := s_law_is) l16 c16 k16⟩,
    ⟨_, _, PySem.W.mg_of X G a17, fun_mk (st := s_law_left_out) l17 c17 k17⟩⟩
  exact ⟨_, fun s v => .of_eq rfl, fun base _ _ => ok_law T ⟨PySem.W.mg_of X G a18, fun_mk (st := s_law) l18 c18 k18⟩⟩
theorem walk {l : PySem.W.OpenLaw} {q : Program} {loose : List Str} {XP : (Str → Option Value) → Heap → Prop} {YP : World → Heap → Prop} {d : DefRec} {K : Params → PySem.W.Frag} (hn : l.most = some 63) (hdf : d.params.defaults = [])
    (hY : ∀ (w : World) (h : Heap), YP w h → (K w.params).In h)
    (F : ∀ (w : World) (mg : Str → Option Value) (fa : Addr) (h : Heap), (K w.params).In h → h.Ns mainGlobals mg → mg d.name = some (.ref fa) →
      ∃ fd : FuncData, (∀ (s : Shared) (u : Value), BindsTo s fd ⟨[u], []⟩ [("_law_script", u)]) ∧ ∀ base : Heap, (K w.params).In base → base.Ns mainGlobals mg → FnOk l.prog w (K w.params) mg base CX0 6 fa fd ["_law_script"] (sp_law (K w.params))) :
    PySem.W.WalkO q loose XP YP l.row.toRowW d [] (fun f vs => PySem.call f vs) :=
  L2.walk_of (n := 63) (k := 6) (x := "_law_script") (CX := fun _ => CX0) (sp := fun w => sp_law (K w.params)) hn (by decide) hdf ⟨rfl, by decide, by decide, rfl⟩ hY F (fun _ _ a ns hl _ hS => ⟨a, ns, rfl, hS, hl, fun _ => rfl⟩) fun _ _ _ _ _ z => z
end My
def PySem.W.Fast.tw4160149868395375396 : Unit := ()
def PySem.W.Fast.tw9130867884020869092 : Unit := ()
def PySem.W.Fast.tw7676168358179802862 : Unit := ()
def PySem.W.Fast.tw7486835076998669104 : Unit := ()
def PySem.W.Fast.tw10835082057752509555 : Unit := ()
def PySem.W.Fast.tw4446651464610433812 : Unit := ()
def PySem.W.Fast.tw10608683911584521750 : Unit := ()
def PySem.W.Fast.tw4776142904345517590 : Unit := ()
def PySem.W.Fast.tw7735462362945964216 : Unit := ()
def PySem.W.Fast.tw11581835886593730009 : Unit := ()
def PySem.W.Fast.tw17895168318864875516 : Unit := ()
open PySem PySem.W PyProof.Rows
set_option maxRecDepth 100000 in
set_option maxHeartbeats 0 in
theorem PySem.Challenge.cw_whatindex_k05_shapes_holds : PySem.Challenge.rw_whatindex_k05_shapes.Holds := by
  w_on; o_law; k_head; (case hw => w_witness2)
  k_fill
  refine My.walk (l := PySem.Challenge.rw_whatindex_k05_shapes) rfl rfl (fun w h Y => PySem.W.kIn_of Y) ?F
  case F =>
    intro w mg fa h KX G hmg
    refine' My.all_mk KX G hmg ?g_BOUNDS ?q_BOUNDS ?q_BOUNDS_0 ?q_BOUNDS_1 ?q_BOUNDS_2 ?q_BOUNDS_3 ?q_BOUNDS_4 ?z_ValueError ?z_abs ?z_all ?z_any ?z_bool ?z_int ?z_isinstance ?z_len ?z_list ?z_max ?z_min ?z_range ?z_repr ?z_str ?z_tuple ?z_zip ?ac_Shape ?pg_Shape ?hd_Shape ?po_Shape ?sa_Shape ?mk_Shape ?kc_Shape ?occ_Shape ?omo_Shape ?on_Shape ?oty_Shape ?na_Shape_measures ?ac_NoShape ?xga_NoShape ?xgn_NoShape ?xcc_NoShape ?xmb_NoShape ?xmo_NoShape ?xhd_NoShape ?xss_NoShape ?xty_NoShape ?xsb_NoShape ?xsa_NoShape ?xl_NoShape ?xn_NoShape ?xi_NoShape ?xe_NoShape ?ac_NoStore ?xga_NoStore ?xgn_NoStore ?xcc_NoStore ?xmb_NoStore ?xmo_NoStore ?xhd_NoStore ?xss_NoStore ?xty_NoStore ?xsb_NoStore ?ac_NoRow ?xga_NoRow ?xgn_NoRow ?xcc_NoRow ?xmb_NoRow ?xmo_NoRow ?xhd_NoRow ?xss_NoRow ?xty_NoRow ?xsb_NoRow ?ac_NoDesign ?xga_NoDesign ?xgn_NoDesign ?xcc_NoDesign ?xmb_NoDesign ?xmo_NoDesign ?xhd_NoDesign ?xss_NoDesign ?xty_NoDesign ?xsb_NoDesign ?xs_NoShape_NoDesign ?xs_NoShape_NoRow ?xs_NoShape_NoShape ?xs_NoShape_NoStore ?xs_NoShape_ValueError ?na_NoShape_name ?a0 ?i0 ?l0 ?c0 ?k0 ?a1 ?l1 ?c1 ?k1 ?a2 ?l2 ?c2 ?k2 ?a3 ?i3 ?l3 ?kk3 ?c3 ?k3 ?pa4 ?pb4 ?pc4 ?pd4 ?l4 ?c4 ?k4 ?pa5 ?pb5 ?pc5 ?pd5 ?l5 ?c5 ?k5 ?pa6 ?pb6 ?pc6 ?pd6 ?l6 ?c6 ?k6 ?pa7 ?pb7 ?pc7 ?pd7 ?l7 ?c7 ?k7 ?pa8 ?pb8 ?pc8 ?pd8 ?l8 ?c8 ?k8 ?a9 ?i9 ?l9 ?c9 ?k9 ?a10 ?i10 ?l10 ?c10 ?k10 ?a11 ?l11 ?c11 ?k11 ?a12 ?l12 ?c12 ?k12 ?a13 ?l13 ?c13 ?k13 ?a14 ?l14 ?c14 ?k14 ?a15 ?l15 ?c15 ?k15 ?a16 ?l16 ?c16 ?k16 ?a17 ?l17 ?c17 ?k17 ?a18 ?l18 ?c18 ?k18
    (case g_BOUNDS => k_is)
    (case q_BOUNDS => k_is)
    (case q_BOUNDS_0 => k_is)
    (case q_BOUNDS_1 => k_is)
    (case q_BOUNDS_2 => k_is)
    (case q_BOUNDS_3 => k_is)
    (case q_BOUNDS_4 => k_is)
    (case z_ValueError => k_is)
    (case z_abs => k_is)
    (case z_all => k_is)
    (case z_any => k_is)
    (case z_bool => k_is)
    (case z_int => k_is)
    (case z_isinstance => k_is)
    (case z_len => k_is)
    (case z_list => k_is)
    (case z_max => k_is)
    (case z_min => k_is)
    (case z_range => k_is)
    (case z_repr => k_is)
    (case z_str => k_is)
    (case z_tuple => k_is)
    (case z_zip => k_is)
    (case ac_Shape => k_is)
    (case pg_Shape => k_is)
    (case hd_Shape => k_is)
    (case po_Shape => k_is)
    (case sa_Shape => k_is)
    (case mk_Shape => k_is)
    (case kc_Shape => k_is)
    (case occ_Shape => k_is)
    (case omo_Shape => k_is)
    (case on_Shape => k_is)
    (case oty_Shape => k_is)
    (case na_Shape_measures => k_is)
    (case ac_NoShape => k_is)
    (case xga_NoShape => k_is)
    (case xgn_NoShape => k_is)
    (case xcc_NoShape => k_is)
    (case xmb_NoShape => k_is)
    (case xmo_NoShape => k_is)
    (case xhd_NoShape => k_is)
    (case xss_NoShape => k_is)
    (case xty_NoShape => k_is)
    (case xsb_NoShape => k_is)
    (case xsa_NoShape => k_is)
    (case xl_NoShape => k_is)
    (case xn_NoShape => k_is)
    (case xi_NoShape => k_is)
    (case xe_NoShape => rfl)
    (case ac_NoStore => k_is)
    (case xga_NoStore => k_is)
    (case xgn_NoStore => k_is)
    (case xcc_NoStore => k_is)
    (case xmb_NoStore => k_is)
    (case xmo_NoStore => k_is)
    (case xhd_NoStore => k_is)
    (case xss_NoStore => k_is)
    (case xty_NoStore => k_is)
    (case xsb_NoStore => k_is)
    (case ac_NoRow => k_is)
    (case xga_NoRow => k_is)
    (case xgn_NoRow => k_is)
    (case xcc_NoRow => k_is)
    (case xmb_NoRow => k_is)
    (case xmo_NoRow => k_is)
    (case xhd_NoRow => k_is)
    (case xss_NoRow => k_is)
    (case xty_NoRow => k_is)
    (case xsb_NoRow => k_is)
    (case ac_NoDesign => k_is)
    (case xga_NoDesign => k_is)
    (case xgn_NoDesign => k_is)
    (case xcc_NoDesign => k_is)
    (case xmb_NoDesign => k_is)
    (case xmo_NoDesign => k_is)
    (case xhd_NoDesign => k_is)
    (case xss_NoDesign => k_is)
    (case xty_NoDesign => k_is)
    (case xsb_NoDesign => k_is)
    (case xs_NoShape_NoDesign => k_is)
    (case xs_NoShape_NoRow => k_is)
    (case xs_NoShape_NoShape => k_is)
    (case xs_NoShape_NoStore => k_is)
    (case xs_NoShape_ValueError => k_is)
    (case na_NoShape_name => k_is)
    (case a0 => k_is)
    (case i0 => k_is)
    (case l0 => k_is)
    (case c0 => k_is)
    (case k0 => k_is)
    (case a1 => k_is)
    (case l1 => k_is)
    (case c1 => k_is)
    (case k1 => k_is)
    (case a2 => k_is)
    (case l2 => k_is)
    (case c2 => k_is)
    (case k2 => k_is)
    (case a3 => k_is)
    (case i3 => k_is)
    (case l3 => k_is)
    (case kk3 => k_is)
    (case c3 => k_is)
    (case k3 => k_is)
    (case pa4 => k_is)
    (case pb4 => k_is)
    (case pc4 => k_is)
    (case pd4 => k_is)
    (case l4 => k_is)
    (case c4 => k_is)
    (case k4 => k_is)
    (case pa5 => k_is)
    (case pb5 => k_is)
    (case pc5 => k_is)
    (case pd5 => k_is)
    (case l5 => k_is)
    (case c5 => k_is)
    (case k5 => k_is)
    (case pa6 => k_is)
    (case pb6 => k_is)
    (case pc6 => k_is)
    (case pd6 => k_is)
    (case l6 => k_is)
    (case c6 => k_is)
    (case k6 => k_is)
    (case pa7 => k_is)
    (case pb7 => k_is)
    (case pc7 => k_is)
    (case pd7 => k_is)
    (case l7 => k_is)
    (case c7 => k_is)
    (case k7 => k_is)
    (case pa8 => k_is)
    (case pb8 => k_is)
    (case pc8 => k_is)
    (case pd8 => k_is)
    (case l8 => k_is)
    (case c8 => k_is)
    (case k8 => k_is)
    (case a9 => k_is)
    (case i9 => k_is)
    (case l9 => k_is)
    (case c9 => k_is)
    (case k9 => k_is)
    (case a10 => k_is)
    (case i10 => k_is)
    (case l10 => k_is)
    (case c10 => k_is)
    (case k10 => k_is)
    (case a11 => k_is)
    (case l11 => k_is)
    (case c11 => k_is)
    (case k11 => k_is)
    (case a12 => k_is)
    (case l12 => k_is)
    (case c12 => k_is)
    (case k12 => k_is)
    (case a13 => k_is)
    (case l13 => k_is)
    (case c13 => k_is)
    (case k13 => k_is)
    (case a14 => k_is)
    (case l14 => k_is)
    (case c14 => k_is)
    (case k14 => k_is)
    (case a15 => k_is)
    (case l15 => k_is)
    (case c15 => k_is)
    (case k15 => k_is)
    (case a16 => k_is)
    (case l16 => k_is)
    (case c16 => k_is)
    (case k16 => k_is)
    (case a17 => k_is)
    (case l17 => k_is)
    (case c17 => k_is)
    (case k17 => k_is)
    (case a18 => k_is)
    (case l18 => k_is)
    (case c18 => k_is)
    (case k18 => k_is)

