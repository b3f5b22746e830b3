import PyProof.Rows.All
import Wide.All
import OpenK.AllK
import Wide.FinOn
import Lean
import PyProof.EqAt
import PyProof.EqKinds
import PyProof.TupleCall
import PySem.Challenge.RW_marksteps_k07_refusals
set_option Elab.async false
set_option linter.all false
set_option maxRecDepth 100000
namespace L2
open PySem PySem.Spec PyProof.Rows
abbrev Key := Sum Int Str
def keyIs : Key → Value → Bool
  | .inl k, v => Value.isInt k v
  | .inr x, v => Value.isStrOf x v
def keyH (w : World) : Key → Int
  | .inl k => hashInt k
  | .inr x => hashStr w x
theorem keyIs_shape : ∀ {k : Key} {v : Value}, keyIs k v = true → (∃ i t, k = Sum.inl i ∧ v = Value.int i t) ∨ (∃ x t, k = Sum.inr x ∧ v = Value.str x t)
  | .inl i, v, h => by
    obtain ⟨t, e⟩ := Value.isInt_shape (k := i) (v := v) h
    exact .inl ⟨i, t, rfl, e⟩
  | .inr x, v, h => by
    obtain ⟨t, e⟩ := Value.isStrOf_shape (x := x) (v := v) h
    exact .inr ⟨x, t, rfl, e⟩
theorem key_ll (a b : Int) : decide ((Sum.inl a : Key) = Sum.inl b) = (a == b) := by
  by_cases e : a = b
  · subst e; simp
  · have h : ¬ (Sum.inl a : Key) = Sum.inl b := fun q => e (Sum.inl.inj q)
    rw [decide_eq_false h]
    exact (beq_eq_false_iff_ne.mpr e).symm
theorem key_rr (a b : Str) : decide ((Sum.inr a : Key) = Sum.inr b) = decide (a = b) := by
  by_cases e : a = b
  · subst e; simp
  · have h : ¬ (Sum.inr a : Key) = Sum.inr b := fun q => e (Sum.inr.inj q)
    rw [decide_eq_false h, decide_eq_false e]
theorem key_lr (a : Int) (b : Str) : decide ((Sum.inl a : Key) = Sum.inr b) = false := decide_eq_false (fun q => nomatch q)
theorem key_rl (a : Str) (b : Int) : decide ((Sum.inr a : Key) = Sum.inl b) = false := decide_eq_false (fun q => nomatch q)
def mixKind (prog : Program) (w : World) : PySem.KeyKind prog w Key where
  is := keyIs
  hash := keyH w
  inj := fun v a b ha hb => by
    rcases keyIs_shape ha with ⟨i, t, rfl, rfl⟩ | ⟨x, t, rfl, rfl⟩
    · rcases keyIs_shape hb with ⟨j, u, rfl, e⟩ | ⟨y, u, rfl, e⟩
      · injection e with e1 _; rw [e1]
      · exact nomatch e
    · rcases keyIs_shape hb with ⟨j, u, rfl, e⟩ | ⟨y, u, rfl, e⟩
      · exact nomatch e
      · injection e with e1 _; rw [e1]
  byValue := fun k v h => by
    rcases keyIs_shape h with ⟨i, t, rfl, rfl⟩ | ⟨x, t, rfl, rfl⟩ <;> rfl
  pyHash := fun hv h => by
    rcases keyIs_shape hv with ⟨i, t, rfl, rfl⟩ | ⟨x, t, rfl, rfl⟩
    · exact wpAny_pyHash_int h
    · exact wpAny_pyHash_str h
  eqBool := fun hu hv h => by
    rcases keyIs_shape hu with ⟨i, t, rfl, rfl⟩ | ⟨x, t, rfl, rfl⟩
    · rcases keyIs_shape hv with ⟨j, u, rfl, rfl⟩ | ⟨y, u, rfl, rfl⟩
      · rw [key_ll] at h; exact wpAny_eqBool_int h
      · rw [key_lr] at h; exact SeqAt.EqAt.int_str i t y u _ _ _ _ h
    · rcases keyIs_shape hv with ⟨j, u, rfl, rfl⟩ | ⟨y, u, rfl, rfl⟩
      · rw [key_rl] at h; exact SeqAt.EqAt.str_int x t j u _ _ _ _ h
      · rw [key_rr] at h; exact wpAny_eqBool_str h
  «strs» := fun k x t v h => by
    rcases keyIs_shape h with ⟨i, u, rfl, e⟩ | ⟨y, u, rfl, e⟩
    · exact nomatch e
    · injection e with e1 _
      subst e1
      cases v <;> rfl
end L2
namespace L2
open PySem PySem.Spec PyProof.Rows
inductive V where
  | non | bl (b : Bool) | int (i : Int) | str (x : Str) | byt (b : Array UInt8) | flt (b : UInt64) | ref (a : Addr) | ty (n : String)
  deriving DecidableEq
def RelV : V → Value → Prop
  | .non, u => u = Value.none
  | .bl b, u => u = Value.bool b
  | .int i, u => ∃ t, u = Value.int i t
  | .str x, u => ∃ t, u = Value.str x t
  | .byt b, u => ∃ t, u = Value.bytes b t
  | .flt b, u => ∃ t, u = Value.float b t
  | .ref a, u => u = Value.ref a
  | .ty n, u => u = Value.type n
abbrev Vals : List V → List Value → Prop := Paired RelV
theorem Vals.length {xs : List V} {us : List Value} (r : Vals xs us) : xs.length = us.length := Paired.length r
theorem Vals.get : ∀ {xs : List V} {us : List Value} {i : Nat} {x : V}, Vals xs us → xs[i]? = some x → ∃ u, us[i]? = some u ∧ RelV x u
  | _, _, _, _, .nil, e => by simp at e
  | _, _, 0, _, .cons r _, e => by simp at e; subst e; exact ⟨_, rfl, r⟩
  | _, _, i + 1, x, .cons _ t, e => by
    obtain ⟨u, h1, h2⟩ := Vals.get (i := i) (x := x) t (by simpa using e)
    exact ⟨u, by simpa using h1, h2⟩
theorem Vals.set {x : V} {u : Value} (r : RelV x u) : ∀ {xs : List V} {us : List Value} (i : Nat), Vals xs us → Vals (xs.set i x) (us.set i u)
  | _, _, _, .nil => .nil
  | _, _, 0, .cons _ t => .cons r t
  | _, _, i + 1, .cons q t => .cons q (Vals.set r i t)
theorem Vals.append : ∀ {xs ys : List V} {us ws : List Value}, Vals xs us → Vals ys ws → Vals (xs ++ ys) (us ++ ws)
  | _, _, _, _, .nil, s => s
  | _, _, _, _, .cons r t, s => .cons r (Vals.append t s)
theorem Vals.take : ∀ {xs : List V} {us : List Value} (n : Nat), Vals xs us → Vals (xs.take n) (us.take n)
  | _, _, 0, _ => .nil
  | _, _, _ + 1, .nil => .nil
  | _, _, n + 1, .cons r t => .cons r (Vals.take n t)
theorem Vals.drop : ∀ {xs : List V} {us : List Value} (n : Nat), Vals xs us → Vals (xs.drop n) (us.drop n)
  | _, _, 0, r => r
  | _, _, _ + 1, .nil => .nil
  | _, _, n + 1, .cons _ t => Vals.drop n t
def RelO : Option V → Option Value → Prop
  | some v, some u => RelV v u
  | none, none => True
  | _, _ => False
def KV {κ : Type} : List (κ × V) → List (κ × Value) → Prop := Paired fun (p : κ × V) (q : κ × Value) => p.1 = q.1 ∧ RelV p.2 q.2
def kV : Key → V
  | .inl i => .int i
  | .inr x => .str x
inductive HO where
    | lst (xs : List V)
    | tup (xs : List V)
    | dK (kvs : List (Key × V)) | dT (kvs : List (List Key × V))
    | set (S : Int → Bool) (n : Nat)
    | ins (C dx : Addr) (fs : List (Str × V))
    | own (x : Addr)
    | xd (fs : List (Str × V))
    | met (f x : Addr)
    | rng (lo hi : Int)
    | frz (o : Obj) (u : HO)
    | tbl (ps : Array Value)
    | ext (φ : Heap → Prop)
abbrev Hp := Addr → Option HO
def upd (H : Hp) (a : Addr) (o : HO) : Hp := fun b => if b = a then some o else H b
theorem upd_same {H : Hp} {a : Addr} {o : HO} : upd H a o a = some o := by unfold upd; rw [if_pos rfl]
theorem upd_ne {H : Hp} {a b : Addr} {o : HO} (h : b ≠ a) : upd H a o b = H b := by unfold upd; rw [if_neg h]
theorem ne_of_none {H : Hp} {a b : Addr} {o : HO} (h : H a = some o) (h' : H b = none) : a ≠ b := by
  intro e; subst e; rw [h] at h'; cases h'
section
variable (P : Program) (w : World)
def ObjOk (H : Hp) (h : Heap) (a : Addr) : HO → Prop
  | .lst xs => xs.length ≤ sizeLine ∧ ∃ (its : List Value) (n : Nat), Vals xs its ∧ h.get? a = some { cls := .type "list", data := .seq its.toArray n }
  | .tup xs => xs.length ≤ sizeLine ∧ ∃ its : List Value, Vals xs its ∧ IsTup h a its.toArray
  | .dK kvs => kvs.length ≤ sizeLine ∧ (a == sysModules) = false ∧ ∃ vs, KV kvs vs ∧ h.DictOf (mixKind P w) a vs
  | .dT kvs => kvs.length ≤ sizeLine ∧ (a == sysModules) = false ∧ ∃ xs : List (List Key × Addr × Value),
      Paired (fun (p : List Key × V) (q : List Key × Addr × Value) => p.1 = q.1 ∧ H q.2.1 = some (.tup (p.1.map kV)) ∧ RelV p.2 q.2.2) kvs xs ∧
      ∃ o es ep, h.get? a = some o ∧ o.ExactDict ∧ o.data = .dict es ep ∧ es.toList = xs.map (entryOfKey (tupleKind (mixKind P w))) ∧ (xs.map (·.1)).Nodup
  | .set S n => h.SetOf (intKind P w) a S n
  | .ins C dx fs => H dx = some (.own a) ∧ fs.length ≤ 1000 ∧ dx ≠ a ∧ h.get? a = some (PySem.W.instObj C dx) ∧
      ∃ mA, h.Ns1 dx mA ∧ (∀ f, RelO (fs.lookup f) (mA f)) ∧ PySem.Within mA (fs.map (·.1))
  | .own _ => ∃ o, h.get? a = some o
  | .xd fs => ∃ mA, h.Ns1 a mA ∧ ∀ f, RelO (fs.lookup f) (mA f)
  | .rng lo hi => ∃ t u v, h.get? a = some { cls := .type "range", data := .fields #[.int lo t, .int hi u, .int 1 v] }
  | .frz o u => h.get? a = some o ∧ ObjOk H h a u
  | .tbl ps => h.get? a = some { cls := .none, data := .fields ps }
  | .met f x => h.get? a = some (PySem.W.methodObj (.ref f) (.ref x))
  | .ext φ => φ h ∧ (∃ o, h.get? a = some o) ∧ ∀ h1 h2 : Heap, φ h1 → (∀ o, h1.get? a = some o → h2.get? a = some o) → φ h2
def HOk (H : Hp) (h : Heap) : Prop := ∀ a o, H a = some o → ObjOk P w H h a o
end
section
variable {P : Program} {w : World} {H H' : Hp} {h h' : Heap} {a : Addr} {o : HO}
theorem ObjOk.lt (x : ObjOk P w H h a o) : a < h.objs.size := by
  cases o with
  | lst xs => obtain ⟨_, _, _, _, e⟩ := x; exact Heap.lt_size e
  | tup xs => obtain ⟨_, _, _, p⟩ := x; exact p.lt
  | dK kvs => obtain ⟨_, _, _, _, o, _, _, e, _⟩ := x; exact Heap.lt_size e
  | dT kvs => obtain ⟨_, _, _, _, o, _, _, e, _⟩ := x; exact Heap.lt_size e
  | set S n => obtain ⟨o, _, _, _, e, _⟩ := x; exact Heap.lt_size e
  | ins C dx fs => obtain ⟨_, _, _, e, _⟩ := x; exact Heap.lt_size e
  | own y => obtain ⟨_, e⟩ := x; exact Heap.lt_size e
  | xd fs => obtain ⟨_, ⟨_, _, _, e, _⟩, _⟩ := x; exact Heap.lt_size e
  | rng lo hi => obtain ⟨_, _, _, e⟩ := x; exact Heap.lt_size e
  | frz ob u => obtain ⟨e, _⟩ := x; exact Heap.lt_size e
  | tbl ps => exact Heap.lt_size (show h.get? a = some _ from x)
  | met f y => exact Heap.lt_size (show h.get? a = some _ from x)
  | ext φ => obtain ⟨_, ⟨_, e⟩, _⟩ := x; exact Heap.lt_size e
theorem Paired.mapP {α β : Type} {F G : α → β → Prop} : ∀ {l₁ : List α} {l₂ : List β}, Paired F l₁ l₂ → (∀ a b, F a b → G a b) → Paired G l₁ l₂
  | _, _, .nil, _ => .nil
  | _, _, .cons r t, f => .cons (f _ _ r) (Paired.mapP t f)
theorem ObjOk.stay (x : ObjOk P w H h a o) (k : ∀ b u, (b = a ∨ H b = some (.own a)) → h.get? b = some u → h'.get? b = some u)
    (ho : ∀ b, H b = some (.own a) → H' b = some (.own a)) (ht : ∀ b xs, H b = some (.tup xs) → H' b = some (.tup xs)) : ObjOk P w H' h' a o := by
  induction o with
  | lst xs => obtain ⟨z, its, n, r, e⟩ := x; exact ⟨z, its, n, r, k _ _ (.inl rfl) e⟩
  | tup xs => obtain ⟨z, its, r, ob, e, c⟩ := x; exact ⟨z, its, r, ob, k _ _ (.inl rfl) e, c⟩
  | dK kvs => obtain ⟨z, y, vs, r, ob, es, ep, e, c⟩ := x; exact ⟨z, y, vs, r, ob, es, ep, k _ _ (.inl rfl) e, c⟩
  | dT kvs =>
    obtain ⟨z, y, xs, r, ob, es, ep, e, c⟩ := x
    exact ⟨z, y, xs, Paired.mapP r fun p q z => ⟨z.1, ht _ _ z.2.1, z.2.2⟩, ob, es, ep, k _ _ (.inl rfl) e, c⟩
  | set S n => obtain ⟨ob, es, ep, t, e, c⟩ := x; exact ⟨ob, es, ep, t, k _ _ (.inl rfl) e, c⟩
  | ins C dx fs =>
    obtain ⟨d, z, ne, e, mA, ⟨od, es, ep, e2, c⟩, r⟩ := x
    exact ⟨ho _ d, z, ne, k _ _ (.inl rfl) e, mA, ⟨od, es, ep, k _ _ (.inr d) e2, c⟩, r⟩
  | own y => obtain ⟨ob, e⟩ := x; exact ⟨ob, k _ _ (.inl rfl) e⟩
  | xd fs => obtain ⟨mA, ⟨od, es, ep, e, c⟩, r⟩ := x; exact ⟨mA, ⟨od, es, ep, k _ _ (.inl rfl) e, c⟩, r⟩
  | rng lo hi => obtain ⟨t, u, v, e⟩ := x; exact ⟨t, u, v, k _ _ (.inl rfl) e⟩
  | frz ob u ih => obtain ⟨e, q⟩ := x; exact ⟨k _ _ (.inl rfl) e, ih q⟩
  | tbl ps =>
    have e : h.get? a = some { cls := .none, data := .fields ps } := x
    show h'.get? a = some { cls := .none, data := .fields ps }
    exact k a _ (.inl rfl) e
  | met f y =>
    have e : h.get? a = some (PySem.W.methodObj (.ref f) (.ref y)) := x
    show h'.get? a = some (PySem.W.methodObj (.ref f) (.ref y))
    exact k a _ (.inl rfl) e
  | ext φ => obtain ⟨p, ⟨o, e⟩, st⟩ := x; exact ⟨st _ _ p fun o q => k _ _ (.inl rfl) q, ⟨o, k _ _ (.inl rfl) e⟩, st⟩
theorem HOk.lt (x : HOk P w H h) (e : H a = some o) : a < h.objs.size := (x a o e).lt
theorem HOk.fresh (x : HOk P w H h) (e : h.objs.size ≤ a) : H a = none := by
  cases q : H a with
  | none => rfl
  | some u => exact absurd (Nat.lt_of_lt_of_le (x.lt q) e) (Nat.lt_irrefl _)
theorem HOk.kept (x : HOk P w H h) (k : ∀ b u, h.get? b = some u → h'.get? b = some u) : HOk P w H h' := fun a o e =>
  (x a o e).stay (fun b u _ q => k b u q) (fun _ q => q) fun _ _ q => q
theorem HOk.laid (x : HOk P w H h) (k : ∀ b u, h.get? b = some u → h'.get? b = some u) (hp : h.objs.size ≤ a) (new : ObjOk P w (upd H a o) h' a o) : HOk P w (upd H a o) h' := fun b u e => by
  have hn := x.fresh hp
  by_cases hb : b = a
  · subst hb; rw [upd_same] at e; cases e; exact new
  · rw [upd_ne hb] at e
    exact (x b u e).stay (fun c v _ q => k c v q) (fun c q => by rw [upd_ne (ne_of_none q hn)]; exact q) fun c xs q => by rw [upd_ne (ne_of_none q hn)]; exact q
end
def Rd (H : Hp) (a : Addr) (u : HO) : Prop := H a = some u ∨ ∃ o, H a = some (.frz o u)
theorem Rd.ok {P : Program} {w : World} {H : Hp} {h : Heap} {a : Addr} {u : HO} (r : Rd H a u) (x : HOk P w H h) : ObjOk P w H h a u := by
  rcases r with r | ⟨o, r⟩
  · exact x a u r
  · obtain ⟨_, q⟩ := x a _ r
    exact q
def Mut : Option HO → Prop
  | some (.lst _) => True
  | some (.dK _) => True
  | some (.dT _) => True
  | some (.set _ _) => True
  | some (.ins _ _ _) => True
  | some (.ext _) => True
  | _ => False
section
variable {P : Program} {w : World} {H : Hp} {h h' : Heap} {x e : Addr} {o' : HO}
theorem HOk.write (ok : HOk P w H h) (mu : Mut (H x)) (he : e = x ∨ H e = some (.own x)) (k : ∀ b u, b ≠ e → h.get? b = some u → h'.get? b = some u) (heo : ∃ u, h'.get? e = some u)
    (new : ObjOk P w (upd H x o') h' x o') : HOk P w (upd H x o') h' := fun b u q => by
  have nown : ∀ c y, H c = some (.own y) → c ≠ x := fun c y r z => by subst z; rw [r] at mu; exact mu
  have ntup : ∀ c xs, H c = some (.tup xs) → c ≠ x := fun c xs r z => by subst z; rw [r] at mu; exact mu
  by_cases hb : b = x
  · subst hb; rw [upd_same] at q; cases q; exact new
  · rw [upd_ne hb] at q
    by_cases hbe : b = e
    · have q' : H b = some (.own x) := by
        rcases he with z | z
        · exact absurd (hbe.trans z) hb
        · rw [hbe]; exact z
      rw [q] at q'; cases q'
      obtain ⟨v, hv⟩ := heo
      exact ⟨v, by rw [hbe]; exact hv⟩
    · refine (ok b u q).stay (fun c v hc r => k c v ?_ r) (fun c r => by rw [upd_ne (nown c b r)]; exact r) fun c xs r => by rw [upd_ne (ntup c xs r)]; exact r
      rcases hc with rfl | hc
      · exact hbe
      · rintro rfl
        rcases he with z | z
        · exact nown c b hc z
        · rw [hc] at z; cases z; exact hb rfl
end
structure Un (fs ex : List Addr) (H H' : Hp) (h h' : Heap) : Prop where
  keep : ∀ b o, h.get? b = some o → H b = none → b ∉ fs → b ∉ ex → h'.get? b = some o
  slot : ∀ b o, h.get? b = some o → H b = none → b ∈ fs → b ∉ ex → ∃ sl, h'.get? b = some { o with slots := sl }
  free : ∀ b o, h.get? b = some o → H b = none → b ∉ ex → H' b = none
  there : ∀ b o, h.get? b = some o → b ∉ ex → ∃ o', h'.get? b = some o'
  tups : ∀ b xs, H b = some (.tup xs) → H' b = some (.tup xs)
  frzs : ∀ b o u, H b = some (.frz o u) → H' b = some (.frz o u)
  tbls : ∀ b ps, H b = some (.tbl ps) → ∃ more, H' b = some (.tbl (ps ++ more))
section
variable {fs fs' ex ex' : List Addr} {H H1 H2 : Hp} {h h1 h2 h' : Heap} {a x e : Addr} {o : HO}
theorem Un.any (u : Un fs ex H H1 h h1) {b : Addr} {ob : Obj} (q : h.get? b = some ob) (n : H b = none) (hx : b ∉ ex) : ∃ sl, h1.get? b = some { ob with slots := sl } := by
  by_cases hb : b ∈ fs
  · exact u.slot b ob q n hb hx
  · exact ⟨ob.slots, u.keep b ob q n hb hx⟩
theorem Un.kept (k : ∀ b u, h.get? b = some u → h'.get? b = some u) : Un fs ex H H h h' :=
  ⟨fun b ob q _ _ _ => k b ob q, fun b ob q _ _ _ => ⟨ob.slots, k b ob q⟩, fun _ _ _ n _ => n, fun b ob q _ => ⟨ob, k b ob q⟩, fun _ _ q => q, fun _ _ _ q => q, fun _ ps q => ⟨#[], by rw [q]; simp⟩⟩
theorem Un.refl : Un fs ex H H h h := Un.kept fun _ _ q => q
theorem Un.laid (k : ∀ b u, h.get? b = some u → h'.get? b = some u) (hp : h.objs.size ≤ a) (hn : H a = none) : Un fs ex H (upd H a o) h h' where
  keep := fun b u q _ _ _ => k b u q
  slot := fun b u q _ _ _ => ⟨u.slots, k b u q⟩
  free := fun b u q n _ => by rw [upd_ne (Nat.ne_of_lt (Nat.lt_of_lt_of_le (Heap.lt_size q) hp))]; exact n
  there := fun b u q _ => ⟨u, k b u q⟩
  tups := fun b xs q => by rw [upd_ne (ne_of_none q hn)]; exact q
  frzs := fun b u xs q => by rw [upd_ne (ne_of_none q hn)]; exact q
  tbls := fun b ps q => ⟨#[], by rw [upd_ne (ne_of_none q hn), q]; simp⟩
theorem Un.write (mu : Mut (H x)) (he : e = x ∨ H e = some (.own x)) (k : ∀ b u, b ≠ e → h.get? b = some u → h'.get? b = some u) (heo : ∃ u, h'.get? e = some u) : Un fs ex H (upd H x o) h h' := by
  have hx : ∀ b, H b = none → b ≠ x := fun b n z => by subst z; rw [n] at mu; exact mu
  have hb : ∀ b, H b = none → b ≠ e := fun b n z => by
    subst z
    rcases he with r | r
    · exact hx b n r
    · rw [n] at r; cases r
  have hm : ∀ b u, H b = some u → ¬ Mut (some u) → b ≠ x := fun b u q nm z => by subst z; rw [q] at mu; exact nm mu
  refine ⟨fun b u q n _ _ => k b u (hb b n) q, fun b u q n _ _ => ⟨u.slots, k b u (hb b n) q⟩, fun b u q n _ => by rw [upd_ne (hx b n)]; exact n, fun b u q _ => ?_,
    fun b xs q => by rw [upd_ne (hm b _ q fun z => z)]; exact q, fun b u xs q => by rw [upd_ne (hm b _ q fun z => z)]; exact q, fun b ps q => ⟨#[], by rw [upd_ne (hm b _ q fun z => z), q]; simp⟩⟩
  by_cases hbe : b = e
  · subst hbe; exact heo
  · exact ⟨u, k b u hbe q⟩
end
def trk (h : Heap) (H : Hp) : List Addr := (List.range h.objs.size).filter fun a => (H a).isSome
def hidT (h : Heap) (H : Hp) : Heap := PySem.W.hideAll h (trk h H)
theorem hidT_size (h : Heap) (H : Hp) : (hidT h H).objs.size = h.objs.size := PySem.W.hideAll_size _ _
theorem hidT_get {h : Heap} {H : Hp} {b : Addr} {o : Obj} (e : h.get? b = some o) (n : H b = none) : (hidT h H).get? b = some o :=
  PySem.W.hideAll_get _ e fun hm => by
    have q : (H b).isSome = true := (List.mem_filter.mp hm).2
    rw [n] at q; simp at q
theorem of_hidT {h : Heap} {H : Hp} {b : Addr} {o : Obj} (e : (hidT h H).get? b = some o) : h.get? b = some o ∧ H b = none := by
  have e' : h.get? b = some o := PySem.W.of_hideAll (trk h H) e
  refine ⟨e', ?_⟩
  cases q : H b with
  | none => rfl
  | some x =>
    have hm : b ∈ trk h H := List.mem_filter.mpr ⟨List.mem_range.mpr (Heap.lt_size e'), by simp [q]⟩
    have z : (hidT h H).get? b = none := PySem.W.hideAll_none (trk h H) hm
    rw [z] at e; cases e
def allNews (g h : Heap) (L : Addr) : List (Addr × Obj) := (List.range h.objs.size).filterMap fun a => if a = L ∨ (g.get? a).isSome = true then none else (h.get? a).map fun o => (a, o)
def rest (g h : Heap) (L d : Addr) : List (Addr × Obj) := (allNews g h L).filter fun p => decide (p.1 ≠ d)
end L2
namespace L2
open PySem PySem.Spec PyProof.Rows
structure Mod (K : PySem.W.Frag) (mg : Str → Option Value) (base : Heap) : Prop where
  kin : K.In base
  glob : base.Ns mainGlobals mg
  blt : ∃ mb, base.Ns builtinsNs mb ∧ ∀ x : Str, x ≠ "__name__" → mb x = bootBuiltins x
  nolimit : base.NoLimit
structure Cx where
  prog : Program
  w : World
  K : PySem.W.Frag
  mg : Str → Option Value
  base : Heap
  A : Around
  N : List Str
  s₀ : Shared
  H₀ : Hp
  env : Env
  outer : List Env
  stack : List Env
  ex : List Addr
  fn : Str → Bool
  calm : Bool
  pn : List (Addr × Obj)
  xe : Value → Shared → Prop
def frs (l : List Env) : List Addr := l.filterMap (·.frame)
abbrev Cx.fs (X : Cx) : List Addr := frs X.outer
def Vis (sc : Scope) (x : Str) : Prop := sc.names.lookup x = some .local ∨ sc.names.lookup x = some .cell ∨ sc.names.lookup x = some .free
def Loc (sc : Scope) (x : Str) : Prop := sc.names.lookup x = some .local ∨ sc.names.lookup x = some .cell
def Look (env : Env) (h : Heap) (m : Str → Option Value) (x : Str) (u : Value) : Prop :=
  (env.kindOf x = some .local ∧ m x = some u) ∨ ((env.kindOf x = some .cell ∨ env.kindOf x = some .free) ∧ ∃ c, env.cells.lookup x = some c ∧ h.IsCell c (some u))
structure Cx.Ok (X : Cx) : Prop where
  mod : Mod X.K X.mg X.base
  kind : X.env.scope.kind = .function
  glob : X.env.globals = mainGlobals
  blt : X.env.builtins = builtinsNs
  above : X.s₀.heap.objs.size ≤ X.env.locals
  inj : ∀ x y c, X.env.cells.lookup x = some c → X.env.cells.lookup y = some c → x = y
  has : ∀ x, (X.env.kindOf x = some .cell ∨ X.env.kindOf x = some .free) → ∃ c, X.env.cells.lookup x = some c
  cab : ∀ x c, X.fn x = true → X.env.cells.lookup x = some c → X.s₀.heap.objs.size ≤ c
  hd : X.calm = true → X.A.handled = none
  frames : X.A.frames = some X.stack
  stk : X.stack = X.outer ∨ (X.stack = X.env :: X.outer ∧ X.env.frame = some X.env.locals)
  exf : ∀ b ∈ X.ex, b ≠ X.env.locals ∧ ∀ x c, X.env.cells.lookup x = some c → c ≠ b
  bs : ∀ b o, X.base.get? b = some o → X.s₀.heap.get? b = some o ∧ X.H₀ b = none
  bsz : X.base.objs.size ≤ X.s₀.heap.objs.size
  noex : ∀ b o, X.base.get? b = some o → b ∉ X.ex
  exfs : ∀ b ∈ X.ex, b ∉ X.fs
  funs : X.s₀.heap.FunFrames X.base X.outer
  frf : ∀ b ∈ X.fs, X.H₀ b = none
structure Inv (X : Cx) (pins : List (Addr × Obj)) (σ : List (Option V)) (H : Hp) (s : Shared) : Prop where
  ok : X.Ok
  os : s.os = X.s₀.os
  bare : AllBare s.gens
  base : Un X.fs X.ex X.H₀ H X.s₀.heap s.heap
  loc : ∃ m, s.heap.Ns X.env.locals m ∧ ∀ (i : Nat) (x : Str) (v : V), X.N[i]? = some x → σ[i]? = some (some v) → Vis X.env.scope x → ∃ u, RelV v u ∧ Look X.env s.heap m x u
  cell : ∀ x c, X.env.cells.lookup x = some c → ∃ v, s.heap.IsCell c v
  free : H X.env.locals = none
  freeC : ∀ x c, X.env.cells.lookup x = some c → H c = none
  pin : ∀ p ∈ X.pn ++ pins, s.heap.get? p.1 = some p.2 ∧ H p.1 = none ∧ p.1 ≠ X.env.locals ∧ p.1 ∉ X.fs ∧ ∀ v, p.2.data ≠ .cell v
  hok : HOk X.prog X.w H s.heap
  len : σ.length = X.N.length
section
variable {X : Cx} {pins : List (Addr × Obj)} {σ : List (Option V)} {H H' : Hp} {s : Shared} {h' : Heap}
theorem Cx.Ok.nofr (ok : X.Ok) {b : Addr} {o : Obj} (e : X.base.get? b = some o) : b ∉ X.fs := fun hb => by
  have := (ok.funs.mem hb).1
  rw [e] at this; cases this
theorem Inv.bs (I : Inv X pins σ H s) : ∀ b o, X.base.get? b = some o → s.heap.get? b = some o ∧ H b = none := fun b o e =>
  ⟨I.base.keep b o (I.ok.bs b o e).1 (I.ok.bs b o e).2 (I.ok.nofr e) (I.ok.noex b o e), I.base.free b o (I.ok.bs b o e).1 (I.ok.bs b o e).2 (I.ok.noex b o e)⟩
theorem Inv.bk (I : Inv X pins σ H s) : ∀ b o, X.base.get? b = some o → s.heap.get? b = some o := fun b o e => (I.bs b o e).1
theorem Inv.mod (I : Inv X pins σ H s) : Mod X.K X.mg X.base := I.ok.mod
theorem Inv.kIn (I : Inv X pins σ H s) : X.K.In s.heap := I.ok.mod.kin.keeps I.bk
theorem Inv.lt (I : Inv X pins σ H s) : X.env.locals < s.heap.objs.size := let ⟨_, hn, _⟩ := I.loc; hn.lt
theorem Inv.sz (I : Inv X pins σ H s) : X.s₀.heap.objs.size ≤ s.heap.objs.size := Nat.le_trans I.ok.above (Nat.le_of_lt I.lt)
theorem Inv.nofs (I : Inv X pins σ H s) {a : Addr} (h : s.heap.objs.size ≤ a) : a ∉ X.fs := fun hb => by
  obtain ⟨_, o, ho, _⟩ := I.ok.funs.mem hb
  exact absurd (Nat.lt_of_lt_of_le (Heap.lt_size ho) (Nat.le_trans I.sz h)) (Nat.lt_irrefl _)
theorem Inv.cne (I : Inv X pins σ H s) : ∀ x c, X.env.cells.lookup x = some c → c ≠ X.env.locals := fun x c e z => by
  obtain ⟨v, o, ho, hd⟩ := I.cell x c e
  obtain ⟨m, ⟨o', es, ep, ho', hd', _⟩, _⟩ := I.loc
  rw [z, ho'] at ho; cases ho; rw [hd'] at hd; cases hd
theorem Inv.funs (I : Inv X pins σ H s) : s.heap.FunFrames X.base X.outer := by
  have all : ∀ (l : List Env), (∀ b ∈ frs l, b ∈ X.fs) → X.s₀.heap.FunFrames X.base l → s.heap.FunFrames X.base l := by
    intro l
    induction l with
    | nil => intro _ _; trivial
    | cons env r ih =>
      intro hs hl
      obtain ⟨hk, ⟨L, o, hf, hn, ho, hd⟩, hr⟩ := hl
      have hL : L ∈ X.fs := hs L (by unfold frs; rw [List.filterMap_cons, hf]; exact List.mem_cons_self)
      obtain ⟨sl, e⟩ := I.base.slot L o ho (I.ok.frf L hL) hL fun z => I.ok.exfs L z hL
      exact ⟨hk, ⟨L, _, hf, hn, e, hd⟩, ih (fun b hb => hs b (by unfold frs; rw [List.filterMap_cons, hf]; exact List.mem_cons_of_mem _ hb)) hr⟩
  exact all X.outer (fun _ hb => hb) I.ok.funs
theorem Inv.stack (I : Inv X pins σ H s) : s.heap.FunFrames X.base X.stack := by
  rcases I.ok.stk with e | ⟨e, hf⟩
  · rw [e]; exact I.funs
  · rw [e]
    obtain ⟨m, hn, _⟩ := I.loc
    refine .cons (by rw [I.ok.kind]; decide) hf hn ?_ I.funs
    exact Heap.get?_none_of_le (Nat.le_trans I.ok.bsz I.ok.above)
theorem Inv.stkSub (I : Inv X pins σ H s) : ∀ b ∈ frs X.stack, b ∈ X.env.locals :: X.fs := fun b hb => by
  rcases I.ok.stk with e | ⟨e, hf⟩
  · rw [e] at hb; exact List.mem_cons_of_mem _ hb
  · rw [e] at hb
    unfold frs at hb
    rw [List.filterMap_cons, hf] at hb
    exact hb
theorem Inv.stkFree (I : Inv X pins σ H s) : ∀ b ∈ frs X.stack, H b = none := fun b hb => by
  rcases List.mem_cons.mp (I.stkSub b hb) with e | hb
  · rw [e]; exact I.free
  · obtain ⟨_, o, ho, _⟩ := I.ok.funs.mem hb
    exact I.base.free b o ho (I.ok.frf b hb) fun z => I.ok.exfs b z hb
theorem Inv.step {g' : Array GenState} {t' : Nat} {d' : Drawn} {ch : List Addr} (I : Inv X pins σ H s)
    (hch : ∀ b ∈ ch, (b ∈ X.ex ∨ X.s₀.heap.objs.size ≤ b) ∧ b ≠ X.env.locals ∧ (∀ x c, X.env.cells.lookup x = some c → c ≠ b) ∧ ∀ p ∈ X.pn ++ pins, p.1 ≠ b)
    (keep : ∀ b o, b ≠ X.env.locals → b ∉ X.fs → b ∉ ch → s.heap.get? b = some o → H b = none → h'.get? b = some o)
    (slot : ∀ b o, b ≠ X.env.locals → b ∈ X.fs → b ∉ ch → s.heap.get? b = some o → H b = none → ∃ sl, h'.get? b = some { o with slots := sl }) (free : ∀ b o, b ∉ ch → s.heap.get? b = some o → H b = none → H' b = none)
    (there : ∀ b o, b ∉ ch → s.heap.get? b = some o → ∃ o', h'.get? b = some o')
    (tups : ∀ b xs, H b = some (.tup xs) → H' b = some (.tup xs)) (frzs : ∀ b o u, H b = some (.frz o u) → H' b = some (.frz o u)) (tbls : ∀ b ps, H b = some (.tbl ps) → ∃ more, H' b = some (.tbl (ps ++ more)))
    (ns : ∀ m, s.heap.Ns X.env.locals m → h'.Ns X.env.locals m) (hok : HOk X.prog X.w H' h') (hg : AllBare g') :
    Inv X pins σ H' { s with heap := h', gens := g', drawn := d', toks := t' } := by
  have neL : ∀ b o, X.s₀.heap.get? b = some o → b ≠ X.env.locals := fun b o e => Nat.ne_of_lt (Nat.lt_of_lt_of_le (Heap.lt_size e) I.ok.above)
  have neC : ∀ b o, X.s₀.heap.get? b = some o → b ∉ X.ex → b ∉ ch := fun b o e hx hb => by
    rcases (hch b hb).1 with z | z
    · exact hx z
    · exact absurd (Nat.lt_of_lt_of_le (Heap.lt_size e) z) (Nat.lt_irrefl _)
  have cellK : ∀ x c, X.env.cells.lookup x = some c → ∀ v, s.heap.IsCell c v → h'.IsCell c v := fun x c e v ⟨o, ho, hd⟩ => by
    have nch : c ∉ ch := fun z => (hch c z).2.2.1 x c e rfl
    by_cases hc : c ∈ X.fs
    · obtain ⟨sl, q⟩ := slot c o (I.cne x c e) hc nch ho (I.freeC x c e)
      exact ⟨_, q, hd⟩
    · exact ⟨o, keep c o (I.cne x c e) hc nch ho (I.freeC x c e), hd⟩
  refine ⟨I.ok, I.os, hg, ⟨fun b o e n hb hx => ?_, fun b o e n hb hx => ?_, fun b o e n hx => ?_, fun b o e hx => ?_, fun b xs e => tups b xs (I.base.tups b xs e), fun b o xs e => frzs b o xs (I.base.frzs b o xs e), fun b ps e => ?_⟩, ?_, fun x c e => ?_, ?_, fun x c e => ?_, fun p hp => ?_, hok, I.len⟩
  · exact keep b o (neL b o e) hb (neC b o e hx) (I.base.keep b o e n hb hx) (I.base.free b o e n hx)
  · obtain ⟨sl, e1⟩ := I.base.slot b o e n hb hx
    obtain ⟨sl', e2⟩ := slot b _ (neL b o e) hb (neC b o e hx) e1 (I.base.free b o e n hx)
    exact ⟨sl', e2⟩
  · obtain ⟨o', e1⟩ := I.base.there b o e hx
    exact free b o' (neC b o e hx) e1 (I.base.free b o e n hx)
  · obtain ⟨o', e1⟩ := I.base.there b o e hx
    exact there b o' (neC b o e hx) e1
  · obtain ⟨m1, e1⟩ := I.base.tbls b ps e
    obtain ⟨m2, e2⟩ := tbls b _ e1
    exact ⟨m1 ++ m2, by rw [e2, Array.append_assoc]⟩
  · obtain ⟨m, hn, hl⟩ := I.loc
    refine ⟨m, ns m hn, fun i x v e1 e2 e3 => ?_⟩
    obtain ⟨u, r, l⟩ := hl i x v e1 e2 e3
    refine ⟨u, r, ?_⟩
    rcases l with l | ⟨k, c, e, z⟩
    · exact .inl l
    · exact .inr ⟨k, c, e, cellK x c e _ z⟩
  · obtain ⟨v, z⟩ := I.cell x c e
    exact ⟨v, cellK x c e v z⟩
  · obtain ⟨m, ⟨o, _, _, ho, _⟩, _⟩ := I.loc
    exact free _ o (fun z => (hch _ z).2.1 rfl) ho I.free
  · obtain ⟨v, o, ho, hd⟩ := I.cell x c e
    exact free c o (fun z => (hch c z).2.2.1 x c e rfl) ho (I.freeC x c e)
  · obtain ⟨e, n, ne, nf, d⟩ := I.pin p hp
    have nch : p.1 ∉ ch := fun z => (hch p.1 z).2.2.2 p hp rfl
    exact ⟨keep p.1 p.2 ne nf nch e n, free p.1 p.2 nch e n, ne, nf, d⟩
theorem Inv.un {t' : Nat} (I : Inv X pins σ H s) (u : Un X.fs [] H H' s.heap h') (hok : HOk X.prog X.w H' h') : Inv X pins σ H' { s with heap := h', toks := t' } := by
  obtain ⟨m, ⟨o, es, ep, ho, r⟩, _⟩ := id I.loc
  obtain ⟨sl, hL⟩ := u.any ho I.free (by simp)
  exact I.step (g' := s.gens) (d' := s.drawn) (ch := []) (fun _ z => nomatch z) (fun b o _ hb _ e n => u.keep b o e n hb (by simp)) (fun b o _ hb _ e n => u.slot b o e n hb (by simp)) (fun b o _ e n => u.free b o e n (by simp)) (fun b o _ e => u.there b o e (by simp)) u.tups u.frzs u.tbls (fun m' hm => by
    obtain ⟨o', es', ep', ho', r'⟩ := hm
    rw [ho] at ho'; cases ho'
    exact ⟨_, es', ep', hL, r'⟩) hok I.bare
theorem Inv.call {g' : Array GenState} {t' : Nat} {d' : Drawn} {ch : List Addr} (I : Inv X pins σ H s) (u : Un (frs X.stack) ch H H' s.heap h') (hok : HOk X.prog X.w H' h') (hg : AllBare g')
    (hch : ∀ b ∈ ch, (b ∈ X.ex ∨ X.s₀.heap.objs.size ≤ b) ∧ b ≠ X.env.locals ∧ (∀ x c, X.env.cells.lookup x = some c → c ≠ b) ∧ ∀ p ∈ X.pn ++ pins, p.1 ≠ b) :
    Inv X pins σ H' { s with heap := h', gens := g', drawn := d', toks := t' } := by
  obtain ⟨m, ⟨o, es, ep, ho, r⟩, _⟩ := id I.loc
  obtain ⟨sl, hL⟩ := u.any ho I.free fun z => (hch _ z).2.1 rfl
  exact I.step (ch := ch) hch (fun b o hL hb hc e n => u.keep b o e n (fun z => (List.mem_cons.mp (I.stkSub b z)).elim hL hb) hc) (fun b o _ _ hc e n => u.any e n hc) (fun b o hc e n => u.free b o e n hc) (fun b o hc e => u.there b o e hc) u.tups u.frzs u.tbls (fun m' hm => by
    obtain ⟨o', es', ep', ho', r'⟩ := hm
    rw [ho] at ho'; cases ho'
    exact ⟨_, es', ep', hL, r'⟩) hok hg
theorem Inv.turned {t' : Nat} {it : Addr} (I : Inv X pins σ H s) (k : ∀ b o, b ≠ it → s.heap.get? b = some o → h'.get? b = some o) (hn : H it = none) (hL : it ≠ X.env.locals)
    (h1 : it ∈ X.ex ∨ X.s₀.heap.objs.size ≤ it) (h2 : ∀ x c, X.env.cells.lookup x = some c → c ≠ it) (h3 : ∀ p ∈ X.pn ++ pins, p.1 ≠ it) : Inv X pins σ H { s with heap := h', toks := t' } := by
  have nit : ∀ b u, H b = some u → b ≠ it := fun b u e z => by rw [z, hn] at e; cases e
  refine I.step (g' := s.gens) (d' := s.drawn) (ch := [it]) (fun b hb => ?_) (fun b o _ _ hc e _ => k b o (fun z => hc (by simp [z])) e) (fun b o _ _ hc e _ => ⟨o.slots, k b o (fun z => hc (by simp [z])) e⟩) (fun _ _ _ _ n => n)
    (fun b o hc e => ⟨o, k b o (fun z => hc (by simp [z])) e⟩) (fun _ _ e => e) (fun _ _ _ e => e) (fun b ps e => ⟨#[], by rw [e]; simp⟩) (fun m hm => ?_) (fun b u e => ?_) I.bare
  · have e : b = it := by simpa using hb
    subst e
    exact ⟨h1, hL, h2, h3⟩
  · obtain ⟨o, es, ep, ho, r⟩ := hm
    exact ⟨o, es, ep, k _ o (Ne.symm hL) ho, r⟩
  · refine (I.hok b u e).stay (fun c v hc q => k c v ?_ q) (fun _ q => q) fun _ _ q => q
    rcases hc with z | z
    · rw [z]; exact nit b u e
    · exact nit c _ z
theorem Inv.tok (I : Inv X pins σ H s) (t : Nat) : Inv X pins σ H { s with toks := t } := I.un (h' := s.heap) (t' := t) Un.refl I.hok
theorem Inv.kept {t' : Nat} (I : Inv X pins σ H s) (k : ∀ b u, s.heap.get? b = some u → h'.get? b = some u) : Inv X pins σ H { s with heap := h', toks := t' } := I.un (Un.kept k) (I.hok.kept k)
theorem Inv.laid {a : Addr} {o : HO} {t' : Nat} (I : Inv X pins σ H s) (k : ∀ b u, s.heap.get? b = some u → h'.get? b = some u) (hp : s.heap.objs.size ≤ a) (new : ObjOk X.prog X.w (upd H a o) h' a o) :
    Inv X pins σ (upd H a o) { s with heap := h', toks := t' } := I.un (Un.laid k hp (I.hok.fresh hp)) (I.hok.laid k hp new)
theorem Inv.write {x e : Addr} {o : HO} {t' : Nat} (I : Inv X pins σ H s) (mu : Mut (H x)) (he : e = x ∨ H e = some (.own x)) (k : ∀ b u, b ≠ e → s.heap.get? b = some u → h'.get? b = some u) (heo : ∃ u, h'.get? e = some u)
    (new : ObjOk X.prog X.w (upd H x o) h' x o) : Inv X pins σ (upd H x o) { s with heap := h', toks := t' } := I.un (Un.write mu he k heo) (I.hok.write mu he k heo new)
theorem Inv.pins_of {pins' : List (Addr × Obj)} (I : Inv X pins σ H s) (h : ∀ p ∈ pins', s.heap.get? p.1 = some p.2 ∧ H p.1 = none ∧ p.1 ≠ X.env.locals ∧ p.1 ∉ X.fs ∧ ∀ v, p.2.data ≠ .cell v) : Inv X pins' σ H s :=
  ⟨I.ok, I.os, I.bare, I.base, I.loc, I.cell, I.free, I.freeC, fun p hp => (List.mem_append.mp hp).elim (fun z => I.pin p (List.mem_append_left _ z)) (h p), I.hok, I.len⟩
theorem nodup_ix {N : List Str} (hN : N.Nodup) {i j : Nat} {x : Str} (a : N[i]? = some x) (b : N[j]? = some x) : i = j := by
  obtain ⟨h1, e1⟩ := List.getElem?_eq_some_iff.mp a
  obtain ⟨h2, e2⟩ := List.getElem?_eq_some_iff.mp b
  exact (List.getElem_inj hN).mp (e1.trans e2.symm)
theorem store_ok2 {M : Model} {A : Around} {E : Value → Shared → Prop} {i : Nat} {x : Str} {v : V} {u : Value} {Q : Unit → Shared → Prop} (I : Inv X pins σ H s) (hN : X.N.Nodup) (hi : X.N[i]? = some x) (hx : Loc X.env.scope x) (r : RelV v u)
    (h : ∀ s', Inv X pins (σ.set i (some v)) H s' → (∃ a, Heap.SameBut a s.heap s'.heap ∧ (a = X.env.locals ∨ X.env.cells.lookup x = some a)) → Q () s') (hf : X.fn x = true ∨ X.env.scope.names.lookup x = some .local := by first | exact .inl rfl | exact .inr rfl | assumption) : wpAny M A (storeName X.env x u) Q E s := by
  obtain ⟨m, hn, hl⟩ := id I.loc
  have hcls : (X.env.scope.kind == .class || (X.env.scope.kind == .module && X.env.locals != X.env.globals)) = false := by rw [I.ok.kind]; rfl
  have hiσ : i < σ.length := by rw [I.len]; exact (List.getElem?_eq_some_iff.mp hi).1
  have cne := I.cne
  have tracked : ∀ {a : Addr} {h' : Heap}, (∃ o, s.heap.get? a = some o ∧ H a = none) → Heap.SameBut a s.heap h' → HOk X.prog X.w H h' := fun {a h'} ha hs b ob e => by
    obtain ⟨_, _, hfree⟩ := ha
    refine (I.hok b ob e).stay (fun c w' hc q => (hs.2 c ?_).trans q) (fun _ q => q) fun _ _ q => q
    rintro rfl
    rcases hc with rfl | hc
    · rw [hfree] at e; cases e
    · rw [hfree] at hc; cases hc
  rcases hx with hk | hk
  · refine wpAny_storeName_local hk hn (fun h' hn' hs => ?_) hcls
    obtain ⟨oL, _, _, hoL, _⟩ := id hn
    refine h _ ⟨I.ok, I.os, I.bare, ⟨fun b o e n hb hx => ?_, fun b o e n hb hx => ?_, I.base.free, fun b o e hx => ?_, I.base.tups, I.base.frzs, I.base.tbls⟩, ⟨_, hn', fun j y v' e1 e2 e3 => ?_⟩, fun y c e => ?_, I.free, I.freeC, fun p hp => ?_, tracked ⟨oL, hoL, I.free⟩ hs, by simpa using I.len⟩ ⟨_, hs, .inl rfl⟩
    · exact (hs.2 b (Nat.ne_of_lt (Nat.lt_of_lt_of_le (Heap.lt_size e) I.ok.above))).trans (I.base.keep b o e n hb hx)
    · obtain ⟨sl, e1⟩ := I.base.slot b o e n hb hx
      exact ⟨sl, (hs.2 b (Nat.ne_of_lt (Nat.lt_of_lt_of_le (Heap.lt_size e) I.ok.above))).trans e1⟩
    · obtain ⟨o', e1⟩ := I.base.there b o e hx
      exact ⟨o', (hs.2 b (Nat.ne_of_lt (Nat.lt_of_lt_of_le (Heap.lt_size e) I.ok.above))).trans e1⟩
    · by_cases hj : j = i
      · subst hj
        rw [hi] at e1; cases e1
        rw [List.getElem?_set_self hiσ] at e2
        cases e2
        exact ⟨u, r, .inl ⟨hk, by simp⟩⟩
      · rw [List.getElem?_set_ne (Ne.symm hj)] at e2
        obtain ⟨u', r', q⟩ := hl j y v' e1 e2 e3
        refine ⟨u', r', ?_⟩
        rcases q with ⟨k, e⟩ | ⟨k, c, e, z⟩
        · refine .inl ⟨k, ?_⟩
          have : y ≠ x := fun e => hj (nodup_ix hN e1 (e ▸ hi))
          simp [this, e]
        · exact .inr ⟨k, c, e, z.sameBut hs (cne y c e)⟩
    · obtain ⟨w', z⟩ := I.cell y c e
      exact ⟨w', z.sameBut hs (cne y c e)⟩
    · obtain ⟨e, n, ne, nf, d⟩ := I.pin p hp
      exact ⟨(hs.2 p.1 ne).trans e, n, ne, nf, d⟩
  · have hfn : X.fn x = true := by
      rcases hf with z | z
      · exact z
      · rw [z] at hk; cases hk
    obtain ⟨c, hc⟩ := I.ok.has x (.inl hk)
    obtain ⟨w', z⟩ := I.cell x c hc
    refine wpAny_storeName_cell I.ok.kind hk hc z (fun h' hc' hs => ?_)
    obtain ⟨oc, hoc, hocd⟩ := id z
    refine h { s with heap := h' } ⟨I.ok, I.os, I.bare, ⟨fun b o e n hb hx => ?_, fun b o e n hb hx => ?_, I.base.free, fun b o e hx => ?_, I.base.tups, I.base.frzs, I.base.tbls⟩, ⟨m, hn.sameBut hs (Ne.symm (cne x c hc)), fun j y v' e1 e2 e3 => ?_⟩, fun y c' e => ?_, I.free, I.freeC, fun p hp => ?_, tracked ⟨oc, hoc, I.freeC x c hc⟩ hs, by simpa using I.len⟩ ⟨c, hs, .inr hc⟩
    · exact (hs.2 b (Nat.ne_of_lt (Nat.lt_of_lt_of_le (Heap.lt_size e) (I.ok.cab x c hfn hc)))).trans (I.base.keep b o e n hb hx)
    · obtain ⟨sl, e1⟩ := I.base.slot b o e n hb hx
      exact ⟨sl, (hs.2 b (Nat.ne_of_lt (Nat.lt_of_lt_of_le (Heap.lt_size e) (I.ok.cab x c hfn hc)))).trans e1⟩
    · obtain ⟨o', e1⟩ := I.base.there b o e hx
      exact ⟨o', (hs.2 b (Nat.ne_of_lt (Nat.lt_of_lt_of_le (Heap.lt_size e) (I.ok.cab x c hfn hc)))).trans e1⟩
    · by_cases hj : j = i
      · subst hj
        rw [hi] at e1; cases e1
        rw [List.getElem?_set_self hiσ] at e2
        cases e2
        exact ⟨u, r, .inr ⟨.inl hk, c, hc, hc'⟩⟩
      · rw [List.getElem?_set_ne (Ne.symm hj)] at e2
        obtain ⟨u', r', q⟩ := hl j y v' e1 e2 e3
        refine ⟨u', r', ?_⟩
        rcases q with q | ⟨k, c', e, z'⟩
        · exact .inl q
        · refine .inr ⟨k, c', e, z'.sameBut hs ?_⟩
          rintro rfl
          exact hj (nodup_ix hN e1 (I.ok.inj _ _ _ e hc ▸ hi))
    · by_cases hcc : c' = c
      · subst hcc; exact ⟨_, hc'⟩
      · obtain ⟨w2, z2⟩ := I.cell y c' e
        exact ⟨w2, z2.sameBut hs hcc⟩
    · obtain ⟨e, n, ne, nf, d⟩ := I.pin p hp
      refine ⟨(hs.2 p.1 ?_).trans e, n, ne, nf, d⟩
      intro q
      rw [q, hoc] at e
      have q' : oc = p.2 := Option.some.inj e
      exact d w' (by rw [← q']; exact hocd)
theorem store_ok {M : Model} {A : Around} {E : Value → Shared → Prop} {i : Nat} {x : Str} {v : V} {u : Value} {Q : Unit → Shared → Prop} (I : Inv X pins σ H s) (hN : X.N.Nodup) (hi : X.N[i]? = some x) (hx : Loc X.env.scope x) (r : RelV v u)
    (h : ∀ s', Inv X pins (σ.set i (some v)) H s' → Q () s') (hf : X.fn x = true ∨ X.env.scope.names.lookup x = some .local := by first | exact .inl rfl | exact .inr rfl | assumption) : wpAny M A (storeName X.env x u) Q E s :=
  store_ok2 I hN hi hx r (fun s' I' _ => h s' I') hf
theorem Inv.call' {s' : Shared} {ch : List Addr} (I : Inv X pins σ H s) (ho : s'.os = s.os) (u : Un (frs X.stack) ch H H' s.heap s'.heap) (hok : HOk X.prog X.w H' s'.heap) (hg : AllBare s'.gens)
    (hch : ∀ b ∈ ch, (b ∈ X.ex ∨ X.s₀.heap.objs.size ≤ b) ∧ b ≠ X.env.locals ∧ (∀ x c, X.env.cells.lookup x = some c → c ≠ b) ∧ ∀ p ∈ X.pn ++ pins, p.1 ≠ b) : Inv X pins σ H' s' := by
  obtain ⟨h', g', d', t', o'⟩ := s'
  have e : o' = s.os := ho
  subst e
  exact I.call (g' := g') (t' := t') (d' := d') u hok hg hch
end
abbrev XK := Value → Option Addr → Hp → Prop
abbrev St := List (Option V)
abbrev VK := V → Hp → Prop
abbrev TE := St → Hp → VK → Prop
abbrev TT := St → Hp → (Bool → Hp → Prop) → Prop
abbrev TA := St → Hp → (List V → Hp → Prop) → Prop
structure Ends where
  nx : St → Hp → Prop
  rt : VK
  bk : St → Hp → Prop := fun _ _ => False
  ct : St → Hp → Prop := fun _ _ => False
abbrev TS := Ends → St → Hp → Prop
def EP (X : Cx) (pins : List (Addr × Obj)) (σ : St) (Q : VK) (u : Value) (s' : Shared) : Prop := ∃ v H', Inv X pins σ H' s' ∧ RelV v u ∧ Q v H'
def TP (X : Cx) (pins : List (Addr × Obj)) (σ : St) (Q : Bool → Hp → Prop) (b : Bool) (s' : Shared) : Prop := ∃ H', Inv X pins σ H' s' ∧ Q b H'
def AP (X : Cx) (pins : List (Addr × Obj)) (σ : St) (Q : List V → Hp → Prop) (us : List Value) (s' : Shared) : Prop := ∃ vs H', Inv X pins σ H' s' ∧ Vals vs us ∧ Q vs H'
def SP (X : Cx) (pins : List (Addr × Obj)) (D : Ends) (f : Flow) (s' : Shared) : Prop :=
  match f with
  | .next => ∃ σ' H', Inv X pins σ' H' s' ∧ D.nx σ' H'
  | .brk => ∃ σ' H', Inv X pins σ' H' s' ∧ D.bk σ' H'
  | .cont => ∃ σ' H', Inv X pins σ' H' s' ∧ D.ct σ' H'
  | .ret u => ∃ v σ' H', Inv X pins σ' H' s' ∧ RelV v u ∧ D.rt v H'
def PE (X : Cx) (e : Expr) (t : TE) : Prop :=
  ∀ (pins : List (Addr × Obj)) (s : Shared) (σ : St) (H : Hp) (Q : VK), Inv X pins σ H s → t σ H Q → wpAny (model X.prog X.w) X.A (eval e X.env) (EP X pins σ Q) X.xe s
def PT (X : Cx) (e : Expr) (t : TT) : Prop :=
  ∀ (pins : List (Addr × Obj)) (s : Shared) (σ : St) (H : Hp) (Q : Bool → Hp → Prop), Inv X pins σ H s → t σ H Q → wpAny (model X.prog X.w) X.A (isTrue e X.env (eval e X.env)) (TP X pins σ Q) X.xe s
def PW (X : Cx) (e : Expr) (t : TT) : Prop :=
  ∀ (whole : Sem Value) (pins : List (Addr × Obj)) (s : Shared) (σ : St) (H : Hp) (Q : Bool → Hp → Prop), Inv X pins σ H s → t σ H Q → wpAny (model X.prog X.w) X.A (isTrue e X.env whole) (TP X pins σ Q) X.xe s
theorem PW.pt {X : Cx} {e : Expr} {t : TT} (h : PW X e t) : PT X e t := h _
def PA (X : Cx) (es : List Expr) (t : TA) : Prop :=
  ∀ (pos : Pos) (pins : List (Addr × Obj)) (s : Shared) (σ : St) (H : Hp) (Q : List V → Hp → Prop), Inv X pins σ H s → t σ H Q → wpAny (model X.prog X.w) X.A (spliced (backTo pos (starEach es X.env))) (AP X pins σ Q) X.xe s
def PS (X : Cx) (st : Stmt) (t : TS) : Prop :=
  ∀ (pins : List (Addr × Obj)) (s : Shared) (σ : St) (H : Hp) (D : Ends), Inv X pins σ H s → t D σ H → wpAny (model X.prog X.w) X.A (exec st X.env) (SP X pins D) X.xe s
def PSs (X : Cx) (st : List Stmt) (t : TS) : Prop :=
  ∀ (pins : List (Addr × Obj)) (s : Shared) (σ : St) (H : Hp) (D : Ends), Inv X pins σ H s → t D σ H → wpAny (model X.prog X.w) X.A (execs st X.env) (SP X pins D) X.xe s
theorem thn {α : Type} {t : Sem α} {Q Q' : α → Shared → Prop} {M : Model} {A : Around} {E : Value → Shared → Prop} {s : Shared} (h : wpAny M A t Q E s) (hQ : ∀ a s, Q a s → Q' a s) : wpAny M A t Q' E s := wpAny_mono h hQ fun _ _ x => x
end L2
namespace L2
open PySem PySem.Spec PyProof.Rows
section
variable {X : Cx}
def tVar (i : Nat) : TE := fun σ H Q => ∃ v, σ[i]? = some (some v) ∧ Q v H
def tC (v : V) : TE := fun _ H Q => Q v H
theorem pe_var {i : Nat} {x : Str} {pos : Pos} (hN : X.N[i]? = some x) (hv : Vis X.env.scope x) (hd : (x == ("__debug__" : Str)) = false := by decide) (hcd : (x == ("__classdict__" : Str)) = false := by decide) : PE X (.Name x pos) (tVar i) := by
  intro pins s σ H Q I h
  obtain ⟨v, e, h⟩ := h
  obtain ⟨m, hn, hl⟩ := I.loc
  obtain ⟨u, r, l⟩ := hl i x v hN e hv
  have fin : EP X pins σ Q u s := ⟨v, H, I, r, h⟩
  rcases l with ⟨hk, hm⟩ | ⟨hk, c, hc, hcell⟩
  · exact wpAny_Name (wpAny_loadName_local I.ok.kind hk hn hm fin) hd
  · rcases hk with hk | hk
    · exact wpAny_Name (wpAny_loadName_cell I.ok.kind hk hc hcell fin) hd
    · exact wpAny_Name (wpAny_loadName_free I.ok.kind hk hc hcell fin hcd) hd
theorem pe_int {i j pos} : PE X (.Constant (.int i) j pos) (tC (.int i)) := fun _ _ _ H _ I h => wpAny_Constant_int ⟨.int i, H, I.tok _, ⟨_, rfl⟩, h⟩
theorem pe_bl {b j pos} : PE X (.Constant (.bool b) j pos) (tC (.bl b)) := fun _ _ _ H _ I h => Constant_bool ⟨.bl b, H, I, rfl, h⟩
theorem pe_non {j pos} : PE X (.Constant .none j pos) (tC .non) := fun _ _ _ H _ I h => Constant_none ⟨.non, H, I, rfl, h⟩
theorem pe_str {x j pos} : PE X (.Constant (.str x) j pos) (tC (.str x)) := fun _ _ _ H _ I h => Calls.Constant_str ⟨.str x, H, I.tok _, ⟨_, rfl⟩, h⟩
def Gl (X : Cx) (x : Str) : Prop := X.env.kindOf x = some .globalImplicit
theorem ld_glob {E : Value → Shared → Prop} {pins : List (Addr × Obj)} {s : Shared} {σ : St} {H : Hp} {x : Str} {u : Value} {pos : Pos} {Q : Value → Shared → Prop} (I : Inv X pins σ H s) (hg : Gl X x) (hm : X.mg x = some u) (h : Q u s)
    (hd : (x == ("__debug__" : Str)) = false := by decide) : wpAny (model X.prog X.w) X.A (eval (.Name x pos) X.env) Q E s :=
  Calls.Name_function_global I.ok.kind hg (Calls.loadGlobal_global (by rw [I.ok.glob]; exact I.mod.glob.keeps I.bk) hm h) hd
theorem ld_blt {E : Value → Shared → Prop} {pins : List (Addr × Obj)} {s : Shared} {σ : St} {H : Hp} {x : Str} {u : Value} {pos : Pos} {Q : Value → Shared → Prop} (I : Inv X pins σ H s) (hg : Gl X x) (hm : X.mg x = none) (hv : bootBuiltins x = some u) (h : Q u s)
    (hn : x ≠ "__name__" := by decide) (hd : (x == ("__debug__" : Str)) = false := by decide) : wpAny (model X.prog X.w) X.A (eval (.Name x pos) X.env) Q E s := by
  obtain ⟨mb, h1, h2⟩ := I.mod.blt
  exact Calls.Name_function_global I.ok.kind hg (Calls.loadGlobal_builtin (by rw [I.ok.glob]; exact I.mod.glob.keeps I.bk) hm (by rw [I.ok.blt]; exact h1.keeps I.bk) ((h2 x hn).trans hv) h) hd
theorem pe_glob {x : Str} {v : V} {u : Value} {pos : Pos} (hg : Gl X x) (hm : X.mg x = some u) (r : RelV v u) (hd : (x == ("__debug__" : Str)) = false := by decide) : PE X (.Name x pos) (tC v) :=
  fun _ _ _ H _ I h => ld_glob I hg hm ⟨v, H, I, r, h⟩ hd
theorem pe_bltn {x : Str} {v : V} {u : Value} {pos : Pos} (hg : Gl X x) (hm : X.mg x = none) (hv : bootBuiltins x = some u) (r : RelV v u) (hn : x ≠ "__name__" := by decide) (hd : (x == ("__debug__" : Str)) = false := by decide) : PE X (.Name x pos) (tC v) :=
  fun _ _ _ H _ I h => ld_blt I hg hm hv ⟨v, H, I, r, h⟩ hn hd
def t2I (ta tb : TE) (k : Int → Int → Hp → Prop) : St → Hp → Prop := fun σ H => ta σ H fun x H1 => tb σ H1 fun y H2 => ∃ i j, x = .int i ∧ y = .int j ∧ k i j H2
def tAdd (ta tb : TE) : TE := fun σ H Q => t2I ta tb (fun i j H2 => Q (.int (i + j)) H2) σ H
def tSub (ta tb : TE) : TE := fun σ H Q => t2I ta tb (fun i j H2 => Q (.int (i - j)) H2) σ H
def tMul (ta tb : TE) : TE := fun σ H Q => t2I ta tb (fun i j H2 => (-(2 ^ 64) < i ∧ i < 2 ^ 64) ∧ Q (.int (i * j)) H2) σ H
variable {a b : Expr} {ta tb : TE} {pos : Pos}
def PC (X : Cx) (op : CmpOp) (a b : Expr) (t : TE) : Prop :=
  ∀ (pins : List (Addr × Obj)) (s : Shared) (σ : St) (H : Hp) (Q : VK), Inv X pins σ H s → t σ H Q →
    wpAny (model X.prog X.w) X.A (eval a X.env) (fun v s₁ => wpAny (model X.prog X.w) X.A (eval b X.env) (fun u s₂ => wpAny (model X.prog X.w) X.A (compareOp op v u) (EP X pins σ Q) X.xe s₂) X.xe s₁) X.xe s
def tCmp (p : Int → Int → Bool) (ta tb : TE) : TE := fun σ H Q => t2I ta tb (fun i j H2 => Q (.bl (p i j)) H2) σ H
abbrev tLt : TE → TE → TE := tCmp fun i j => decide (i < j)
abbrev tLe : TE → TE → TE := tCmp fun i j => decide (i ≤ j)
abbrev tGt : TE → TE → TE := tCmp fun i j => decide (j < i)
abbrev tGe : TE → TE → TE := tCmp fun i j => decide (j ≤ i)
abbrev tEqI : TE → TE → TE := tCmp fun i j => decide (i = j)
abbrev tNeI : TE → TE → TE := tCmp fun i j => !decide (i = j)
def tIsN (ta : TE) : TE := fun σ H Q => ta σ H fun x H1 => Q (.bl (decide (x = .non))) H1
def tNotN (ta : TE) : TE := fun σ H Q => ta σ H fun x H1 => Q (.bl (!decide (x = .non))) H1
def tB (t : TE) : TT := fun σ H Q => t σ H fun x H1 => ∃ c, x = .bl c ∧ Q c H1
theorem pt_val {e : Expr} {t : TE} (h : PE X e t) (he : ∀ whole, isTrue e X.env whole = (do let v ← whole; standAt e.pos; holding [v] (truthy v)) := by intro _; rfl) : PT X e (tB t) := by
  intro pins s σ H Q I hw
  refine isTrue_plain (thn (h pins s σ H _ I hw) fun v s1 ⟨x, H1, I1, r1, q1⟩ => ?_) (he _)
  obtain ⟨d, rfl, q⟩ := q1
  cases r1
  exact wpAny_truthy_bool ⟨H1, I1, q⟩
variable {tA tB' : TT} {rest : List Expr}
def tAnd (t u : TT) : TT := fun σ H Q => t σ H fun c H1 => if c = true then u σ H1 Q else Q false H1
def tOr (t u : TT) : TT := fun σ H Q => t σ H fun c H1 => if c = true then Q true H1 else u σ H1 Q
def tNot (t : TT) : TT := fun σ H Q => t σ H fun c H1 => Q (!c) H1
theorem pw_and1 (ha : PT X a tA) : PW X (.BoolOp .And [a] pos) tA := by
  intro wh pins s σ H Q I h
  refine isTrue_and (thn (ha pins s σ H Q I h) fun c s1 e => ?_)
  cases c with
  | true => exact isTrue_and_nil e
  | false => exact e
theorem pw_or1 (ha : PT X a tA) : PW X (.BoolOp .Or [a] pos) tA := by
  intro wh pins s σ H Q I h
  refine isTrue_or (thn (ha pins s σ H Q I h) fun c s1 e => ?_)
  cases c with
  | false => exact isTrue_or_nil e
  | true => exact e
theorem pw_and (ha : PT X a tA) (hb : PW X (.BoolOp .And (b :: rest) pos) tB') : PW X (.BoolOp .And (a :: b :: rest) pos) (tAnd tA tB') := by
  intro wh pins s σ H Q I h
  refine isTrue_and (thn (ha pins s σ H _ I h) fun c s1 ⟨H1, I1, q1⟩ => ?_)
  cases c with
  | true => exact hb wh pins s1 σ H1 Q I1 q1
  | false => exact ⟨H1, I1, q1⟩
theorem pw_or (ha : PT X a tA) (hb : PW X (.BoolOp .Or (b :: rest) pos) tB') : PW X (.BoolOp .Or (a :: b :: rest) pos) (tOr tA tB') := by
  intro wh pins s σ H Q I h
  refine isTrue_or (thn (ha pins s σ H _ I h) fun c s1 ⟨H1, I1, q1⟩ => ?_)
  cases c with
  | true => exact ⟨H1, I1, q1⟩
  | false => exact hb wh pins s1 σ H1 Q I1 q1
theorem pt_not (ha : PT X a tA) : PT X (.UnaryOp .Not a pos) (tNot tA) := by
  intro pins s σ H Q I h
  exact isTrue_not (ha pins s σ H (fun c H1 => Q (!c) H1) I h)
def tAndV (ta tb : TE) : TE := fun σ H Q => ta σ H fun x H1 => ∃ c, x = .bl c ∧ if c = true then tb σ H1 Q else Q (.bl false) H1
def tOrV (ta tb : TE) : TE := fun σ H Q => ta σ H fun x H1 => ∃ c, x = .bl c ∧ if c = true then Q (.bl true) H1 else tb σ H1 Q
def tNotV (ta : TE) : TE := fun σ H Q => ta σ H fun x H1 => ∃ c, x = .bl c ∧ Q (.bl (!c)) H1
theorem pe_one {op} {t : TE} (h : PE X a t) : PE X (.BoolOp op [a] pos) t := fun pins s σ H Q I hw => BoolOp_one (h pins s σ H Q I hw)
theorem pe_and (ha : PE X a ta) (hb : PE X (.BoolOp .And (b :: rest) pos) tb) : PE X (.BoolOp .And (a :: b :: rest) pos) (tAndV ta tb) := by
  intro pins s σ H Q I h
  refine BoolOp_and (thn (ha pins s σ H _ I h) fun v s1 ⟨x, H1, I1, r1, q1⟩ => ?_)
  obtain ⟨c, rfl, q1⟩ := q1
  cases r1
  refine wpAny_truthy_bool ?_
  cases c with
  | true => exact hb pins s1 σ H1 Q I1 q1
  | false => exact ⟨.bl false, H1, I1, rfl, q1⟩
def tIf (t : TT) (ta tb : TE) : TE := fun σ H Q => t σ H fun c H1 => if c = true then ta σ H1 Q else tb σ H1 Q
theorem pe_ifExp {c : Expr} (hc : PT X c tA) (ha : PE X a ta) (hb : PE X b tb) : PE X (.IfExp c a b pos) (tIf tA ta tb) := by
  intro pins s σ H Q I h
  refine wpAny_IfExp (thn (hc pins s σ H _ I h) fun d s1 ⟨H1, I1, q1⟩ => ?_)
  cases d with
  | true => exact ha pins s1 σ H1 Q I1 q1
  | false => exact hb pins s1 σ H1 Q I1 q1
end
end L2
namespace L2
open PySem PySem.Spec PyProof.Rows
def SqL (K : PySem.W.Frag) (H : Hp) (a : Addr) (xs : List V) : Prop :=
  Rd H a (.lst xs) ∨
    ∃ (o : Obj) (its : Array Value) (n : Nat), K.lookup a = some o ∧ o.cls = .type "list" ∧ o.dict = none ∧ o.data = .seq its n ∧ its.size ≤ sizeLine ∧ Vals xs its.toList
def SqT (K : PySem.W.Frag) (H : Hp) (a : Addr) (xs : List V) : Prop :=
  Rd H a (.tup xs) ∨
    ∃ (o : Obj) (its : Array Value) (n : Nat), K.lookup a = some o ∧ o.cls = .type "tuple" ∧ o.data = .seq its n ∧ its.size ≤ sizeLine ∧ Vals xs its.toList
def absV : Value → Option V
  | .none => some .non
  | .bool b => some (.bl b)
  | .int i _ => some (.int i)
  | .str x _ => some (.str x)
  | .bytes b _ => some (.byt b)
  | .float b _ => some (.flt b)
  | .ref a => some (.ref a)
  | .type n => some (.ty n)
  | _ => none
theorem RelV.abs {x : V} {u : Value} (r : RelV x u) : absV u = some x := by
  cases x with
  | non => cases r; rfl
  | bl _ => cases r; rfl
  | int _ => obtain ⟨t, rfl⟩ := r; rfl
  | str _ => obtain ⟨t, rfl⟩ := r; rfl
  | byt _ => obtain ⟨t, rfl⟩ := r; rfl
  | flt _ => obtain ⟨t, rfl⟩ := r; rfl
  | ref _ => cases r; rfl
  | ty _ => cases r; rfl
theorem RelV.inj {x y : V} {u : Value} (r : RelV x u) (q : RelV y u) : x = y := Option.some.inj (r.abs.symm.trans q.abs)
theorem Vals.inj : ∀ {xs ys : List V} {us : List Value}, Vals xs us → Vals ys us → xs = ys
  | _, _, _, .nil, .nil => rfl
  | _, _, _, .cons r t, .cons r' t' => by rw [r.inj r', Vals.inj t t']
section
variable {X : Cx} {pins : List (Addr × Obj)} {σ : St} {H : Hp} {s : Shared} {a : Addr} {xs ys : List V}
theorem SqL.of {K : PySem.W.Frag} (h : H a = some (.lst xs)) : SqL K H a xs := .inl (.inl h)
theorem SqT.of {K : PySem.W.Frag} (h : H a = some (.tup xs)) : SqT K H a xs := .inl (.inl h)
theorem Inv.list (I : Inv X pins σ H s) (h : SqL X.K H a xs) : ∃ its : List Value, Vals xs its ∧ PlainL s.heap a its.toArray ∧ xs.length ≤ sizeLine := by
  rcases h with h | ⟨o, its, n, hk, hc, hd, hs, hz, r⟩
  · obtain ⟨z, its, n, r, e⟩ := h.ok I.hok
    exact ⟨its, r, ⟨_, n, e, rfl, rfl, rfl⟩, z⟩
  · refine ⟨its.toList, r, ⟨o, n, I.kIn a o hk, hc, hd, by simpa using hs⟩, ?_⟩
    have e := r.length
    simp only [Array.length_toList] at e
    omega
theorem Inv.tuple (I : Inv X pins σ H s) (h : SqT X.K H a xs) : ∃ its : List Value, Vals xs its ∧ IsTup s.heap a its.toArray ∧ xs.length ≤ sizeLine := by
  rcases h with h | ⟨o, its, n, hk, hc, hs, hz, r⟩
  · obtain ⟨z, its, r, p⟩ := h.ok I.hok
    exact ⟨its, r, p, z⟩
  · refine ⟨its.toList, r, ⟨o, I.kIn a o hk, hc, n, by simpa using hs⟩, ?_⟩
    have e := r.length
    simp only [Array.length_toList] at e
    omega
theorem Inv.list_inj (I : Inv X pins σ H s) (h : SqL X.K H a xs) (h' : SqL X.K H a ys) : xs = ys := by
  obtain ⟨its, r, ⟨o, n, e, _, _, d⟩, _⟩ := I.list h
  obtain ⟨its', r', ⟨o', n', e', _, _, d'⟩, _⟩ := I.list h'
  rw [e] at e'; cases e'
  rw [d] at d'
  injection d' with d1 _
  have : its = its' := by simpa using congrArg Array.toList d1
  subst this
  exact r.inj r'
theorem Inv.tuple_inj (I : Inv X pins σ H s) (h : SqT X.K H a xs) (h' : SqT X.K H a ys) : xs = ys := by
  obtain ⟨its, r, ⟨o, e, _, n, d⟩, _⟩ := I.tuple h
  obtain ⟨its', r', ⟨o', e', _, n', d'⟩, _⟩ := I.tuple h'
  rw [e] at e'; cases e'
  rw [d] at d'
  injection d' with d1 _
  have : its = its' := by simpa using congrArg Array.toList d1
  subst this
  exact r.inj r'
end
abbrev Cx.wish (X : Cx) (E : Value → Shared → Prop) : Cx := { X with xe := E }
abbrev Cx.nox (X : Cx) : Cx := X.wish fun _ _ => False
theorem Cx.Ok.wish {X : Cx} (ok : X.Ok) (E : Value → Shared → Prop) : (X.wish E).Ok :=
  ⟨ok.mod, ok.kind, ok.glob, ok.blt, ok.above, ok.inj, ok.has, ok.cab, ok.hd, ok.frames, ok.stk, ok.exf, ok.bs, ok.bsz, ok.noex, ok.exfs, ok.funs, ok.frf⟩
theorem Cx.Ok.unwish {X : Cx} {E : Value → Shared → Prop} (ok : (X.wish E).Ok) : X.Ok :=
  ⟨ok.mod, ok.kind, ok.glob, ok.blt, ok.above, ok.inj, ok.has, ok.cab, ok.hd, ok.frames, ok.stk, ok.exf, ok.bs, ok.bsz, ok.noex, ok.exfs, ok.funs, ok.frf⟩
section
variable {X : Cx} {pins : List (Addr × Obj)} {σ : St} {H : Hp} {s : Shared} {E : Value → Shared → Prop}
theorem Inv.wish (I : Inv X pins σ H s) (E : Value → Shared → Prop) : Inv (X.wish E) pins σ H s := ⟨I.ok.wish E, I.os, I.bare, I.base, I.loc, I.cell, I.free, I.freeC, I.pin, I.hok, I.len⟩
theorem Inv.unwish (I : Inv (X.wish E) pins σ H s) : Inv X pins σ H s := ⟨I.ok.unwish, I.os, I.bare, I.base, I.loc, I.cell, I.free, I.freeC, I.pin, I.hok, I.len⟩
theorem SP.unwish {D : Ends} {f : Flow} {s' : Shared} (h : SP (X.wish E) pins D f s') : SP X pins D f s' := by
  cases f with
  | next => obtain ⟨σ', H', I, q⟩ := h; exact ⟨σ', H', I.unwish, q⟩
  | brk => obtain ⟨σ', H', I, q⟩ := h; exact ⟨σ', H', I.unwish, q⟩
  | cont => obtain ⟨σ', H', I, q⟩ := h; exact ⟨σ', H', I.unwish, q⟩
  | ret u => obtain ⟨v, σ', H', I, r, q⟩ := h; exact ⟨v, σ', H', I.unwish, r, q⟩
theorem PSs.nox {st : List Stmt} {t : TS} (h : PSs X.nox st t) : PSs X st t := fun pins s σ H D I hw =>
  wpAny_mono (h pins s σ H D (I.wish _) hw) (fun _ _ q => q.unwish) fun _ _ z => False.elim z
end
section
variable {X : Cx} {st : Stmt} {rest : List Stmt} {t u : TS} {e : Expr} {te : TE} {pos : Pos}
def tNext : TS := fun D σ H => D.nx σ H
def tSeq (t u : TS) : TS := fun D σ H => t { D with nx := u D } σ H
theorem pss_nil : PSs X [] tNext := fun _ _ σ H _ I h => wpAny_execs_nil ⟨σ, H, I, h⟩
theorem pss_cons (h1 : PS X st t) (h2 : PSs X rest u) : PSs X (st :: rest) (tSeq t u) := by
  intro pins s σ H D I h
  refine wpAny_execs_cons (thn (h1 pins s σ H { D with nx := u D } I h) fun f s1 q => ?_)
  cases f with
  | next =>
    obtain ⟨σ', H', I', q⟩ := q
    exact h2 pins s1 σ' H' D I' q
  | ret v => exact q
  | brk => exact q
  | cont => exact q
theorem pss_one (h1 : PS X st t) : PSs X [st] t := by
  intro pins s σ H D I h
  refine wpAny_execs_cons (thn (h1 pins s σ H D I h) fun f s1 q => ?_)
  cases f with
  | next => exact wpAny_execs_nil q
  | ret v => exact q
  | brk => exact q
  | cont => exact q
def tBreak : TS := fun D σ H => D.bk σ H
def tCont : TS := fun D σ H => D.ct σ H
theorem Inv.quiet {pins : List (Addr × Obj)} {σ : St} {H : Hp} {s : Shared} (I : Inv X pins σ H s) : interactive X.env = false := by simp [interactive, I.ok.kind]
def tDrop (te : TE) : TS := fun D σ H => te σ H fun _ H1 => D.nx σ H1
theorem ps_expr (he : PE X e te) (hs : swapsWith e none pos.line X.env = pure false := by rfl) : PS X (.Expr e pos) (tDrop te) := by
  intro pins s σ H D I h
  exact wpAny_Expr_any (thn (he pins s σ H _ I h) fun v s1 ⟨x, H1, I1, r1, q1⟩ => ⟨σ, H1, I1, q1⟩) I.quiet hs
def tRet (te : TE) : TS := fun D σ H => te σ H D.rt
theorem ps_ret (he : PE X e te) : PS X (.Return (some e) pos) (tRet te) := by
  intro pins s σ H D I h
  exact wpAny_Return_some (thn (he pins s σ H _ I h) fun v s1 ⟨x, H1, I1, r1, q1⟩ => ⟨x, σ, H1, I1, r1, q1⟩)
def tRetN : TS := fun D _ H => D.rt .non H
def tIfS (c : TT) (t u : TS) : TS := fun D σ H => c σ H fun b H1 => if b = true then t D σ H1 else u D σ H1
theorem ps_if {c : Expr} {a b : List Stmt} {tc : TT} (hc : PT X c tc) (ha : PSs X a t) (hb : PSs X b u) : PS X (.If c a b pos) (tIfS tc t u) := by
  intro pins s σ H D I h
  refine wpAny_If (thn (hc pins s σ H _ I h) fun d s1 ⟨H1, I1, q1⟩ => ?_)
  cases d with
  | true => exact ha pins s1 σ H1 D I1 q1
  | false => exact hb pins s1 σ H1 D I1 q1
def tNever : TS := fun _ _ _ => False
theorem ps_never : PS X st tNever := fun _ _ _ _ _ _ h => h.elim
end
abbrev TG := V → St → Hp → (St → Hp → Prop) → Prop
abbrev TGs := List V → St → Hp → (St → Hp → Prop) → Prop
def PG (X : Cx) (target : Expr) (t : TG) : Prop :=
  ∀ (pins : List (Addr × Obj)) (s : Shared) (σ : St) (H : Hp) (v : V) (u : Value) (Q : St → Hp → Prop), Inv X pins σ H s → RelV v u → t v σ H Q →
    wpAny (model X.prog X.w) X.A (assign target X.env u) (fun _ s' => ∃ σ' H', Inv X pins σ' H' s' ∧ Q σ' H') X.xe s
def PGs (X : Cx) (ts : List Expr) (t : TGs) : Prop :=
  ∀ (pins : List (Addr × Obj)) (s : Shared) (σ : St) (H : Hp) (vs : List V) (us : List Value) (Q : St → Hp → Prop), Inv X pins σ H s → Vals vs us → t vs σ H Q →
    wpAny (model X.prog X.w) X.A (assignInOrder ((assignEach ts X.env).map (·.2)) us) (fun _ s' => ∃ σ' H', Inv X pins σ' H' s' ∧ Q σ' H') X.xe s
abbrev TSet := V → V → V → Hp → (Hp → Prop) → Prop
def PSet (X : Cx) (t : TSet) : Prop :=
  ∀ (pins : List (Addr × Obj)) (s : Shared) (σ : St) (H : Hp) (o i v : V) (ov iv u : Value) (Q : Hp → Prop), Inv X pins σ H s → RelV o ov → RelV i iv → RelV v u → t o i v H Q →
    wpAny (model X.prog X.w) X.A (setItem ov iv u) (fun _ s' => ∃ H', Inv X pins σ H' s' ∧ Q H') X.xe s
abbrev TIp := V → V → Hp → VK → Prop
def PIp (X : Cx) (op : Operator) (t : TIp) : Prop :=
  ∀ (pins : List (Addr × Obj)) (s : Shared) (σ : St) (H : Hp) (x y : V) (v u : Value) (Q : VK), Inv X pins σ H s → RelV x v → RelV y u → t x y H Q →
    wpAny (model X.prog X.w) X.A (inplaceOp op v u) (EP X pins σ Q) X.xe s
section
variable {X : Cx} {pos : Pos}
def gName (i : Nat) : TG := fun v σ H Q => Q (σ.set i (some v)) H
theorem pg_name {i : Nat} {x : Str} (hN : X.N.Nodup) (hi : X.N[i]? = some x) (hx : Loc X.env.scope x) (hf : X.fn x = true ∨ X.env.scope.names.lookup x = some .local := by first | exact .inl rfl | exact .inr rfl | assumption) : PG X (.Name x pos) (gName i) := by
  intro pins s σ H v u Q I r h
  exact wpAny_assign_Name (store_ok I hN hi hx r (fun s' I' => ⟨_, H, I', h⟩) hf)
def gNil : TGs := fun vs σ H Q => vs = [] ∧ Q σ H
def gCons (t : TG) (u : TGs) : TGs := fun vs σ H Q => ∃ v r, vs = v :: r ∧ t v σ H fun σ' H' => u r σ' H' Q
theorem pgs_nil : PGs X [] gNil := by
  intro pins s σ H vs us Q I r h
  obtain ⟨e, h⟩ := h
  subst e
  cases r
  exact assignInOrder_nil ⟨σ, H, I, h⟩
theorem pgs_cons {e : Expr} {es : List Expr} {t : TG} {u : TGs} (h1 : PG X e t) (h2 : PGs X es u)
    (hs : (assignEach (e :: es) X.env).map (·.2) = assign e X.env :: (assignEach es X.env).map (·.2) := by rfl) : PGs X (e :: es) (gCons t u) := by
  intro pins s σ H vs us Q I r h
  obtain ⟨v, vr, e1, h⟩ := h
  subst e1
  cases r with
  | cons r rr =>
    rw [hs]
    refine assignInOrder_cons (thn (h1 pins s σ H _ _ _ I r h) fun _ s1 ⟨σ1, H1, I1, q1⟩ => ?_)
    exact h2 pins s1 σ1 H1 _ _ Q I1 rr q1
def gTup (K : PySem.W.Frag) (n : Nat) (t : TGs) : TG := fun v σ H Q => ∃ a xs, v = .ref a ∧ SqT K H a xs ∧ xs.length = n ∧ t xs σ H Q
theorem pg_tup {es : List Expr} {k : Nat} {t : TGs} {n : Nat} (hc : X.calm = true) (h : PGs X es t)
    (hn : (assignEach es X.env).length = n := by rfl) (hst : (assignEach es X.env).findIdx? (·.1) = none := by rfl) : PG X (.Tuple es k pos) (gTup X.K n t) := by
  intro pins s σ H v u Q I r hw
  obtain ⟨a, xs, e1, hq, hl, hw⟩ := hw
  subst e1
  cases r
  obtain ⟨its, rv, ht, hz⟩ := I.tuple hq
  refine assign_Tuple_tuple (I.ok.hd hc) ht (by simp [hn, ← hl, rv.length]) hst fun h' hx => ?_
  have I1 : Inv X pins σ H { s with heap := h' } := I.kept (t' := s.toks) fun b o e => hx b o (Nat.ne_of_lt (Heap.lt_size e)) e
  exact h pins _ σ H xs _ Q I1 (by simpa using rv) hw
def gSub (to ti : TE) (t : TSet) : TG := fun v σ H Q => to σ H fun o H1 => ti σ H1 fun i H2 => t o i v H2 fun H3 => Q σ H3
theorem pg_sub {o i : Expr} {to ti : TE} {t : TSet} (ho : PE X o to) (hi : PE X i ti) (hs : PSet X t)
    (ha : ∀ v, assign (.Subscript o i pos) X.env v = (do
      let ov ← holding [v] (eval o X.env)
      let iv ← holding [v, ov] (eval i X.env)
      standAt pos
      holding [v, ov, iv] (setItem ov iv v)
      release [v, ov, iv] []) := by intro _; rfl) : PG X (.Subscript o i pos) (gSub to ti t) := by
  intro pins s σ H v u Q I r h
  rw [ha]
  refine wpAny_bind (wpAny_holding (thn (ho pins s σ H _ I h) fun ov s1 ⟨x, H1, I1, r1, q1⟩ => ?_))
  refine wpAny_bind (wpAny_holding (thn (hi pins s1 σ H1 _ I1 q1) fun iv s2 ⟨y, H2, I2, r2, q2⟩ => ?_))
  refine wpAny_bind (wpAny_standAt (wpAny_bind (wpAny_holding (thn (hs pins s2 σ H2 x y v ov iv u _ I2 r1 r2 r q2) fun _ s3 ⟨H3, I3, q3⟩ => ?_))))
  exact wpAny_release ⟨σ, H3, I3, q3⟩
def tAsg (te : TE) (g : TG) : TS := fun D σ H => te σ H fun x H1 => g x σ H1 D.nx
theorem ps_asg {tg e : Expr} {te : TE} {g : TG} (he : PE X e te) (hg : PG X tg g) (hs : swapsWithSole [tg] e pos.line X.env = pure false := by rfl) (hw : swappedStores [tg] e X.env = pure none := by rfl)
    (h1 : (assignEach [tg] X.env).map (·.2) = [assign tg X.env] := by rfl) : PS X (.Assign [tg] e pos) (tAsg te g) := by
  intro pins s σ H D I h
  refine wpAny_Assign_stores (thn (he pins s σ H _ I h) fun v s1 ⟨x, H1, I1, r1, q1⟩ => ?_) hs hw
  rw [h1]
  exact thn (hg pins s1 σ H1 x v _ I1 r1 q1) fun _ s2 q => q
theorem ps_set {i : Nat} {x : Str} {e : Expr} {te : TE} {pos' : Pos} (hN : X.N.Nodup) (hi : X.N[i]? = some x) (hx : Loc X.env.scope x) (he : PE X e te) (hs : swapsWith e (some (.Name x pos')) pos.line X.env = pure false := by rfl) (hf : X.fn x = true ∨ X.env.scope.names.lookup x = some .local := by first | exact .inl rfl | exact .inr rfl | assumption) :
    PS X (.Assign [.Name x pos'] e pos) (tAsg te (gName i)) := by
  intro pins s σ H D I h
  refine wpAny_Assign_Name (thn (he pins s σ H _ I h) fun v s1 ⟨y, H1, I1, r1, q1⟩ => ?_) hs
  exact store_ok I1 hN hi hx r1 (fun s2 I2 => ⟨_, H1, I2, q1⟩) hf
def tPar (i j : Nat) (ta : TA) : TS := fun D σ H => ta σ H fun vs H1 => ∃ v w, vs = [v, w] ∧ D.nx ((σ.set i (some v)).set j (some w)) H1
def tAug (i : Nat) (te : TE) (ti : TIp) : TS := fun D σ H => ∃ x, σ[i]? = some (some x) ∧ te σ H fun y H1 => ti x y H1 fun z H2 => D.nx (σ.set i (some z)) H2
def tAugS (to ti te : TE) (tget : V → V → Hp → VK → Prop) (tip : TIp) (tset : TSet) : TS := fun D σ H => to σ H fun o H1 => ti σ H1 fun i H2 => tget o i H2 fun x H3 => te σ H3 fun y H4 => tip x y H4 fun z H5 => tset o i z H5 fun H6 => D.nx σ H6
def PGet (X : Cx) (t : V → V → Hp → VK → Prop) : Prop :=
  ∀ (pins : List (Addr × Obj)) (s : Shared) (σ : St) (H : Hp) (o i : V) (ov iv : Value) (Q : VK), Inv X pins σ H s → RelV o ov → RelV i iv → t o i H Q →
    wpAny (model X.prog X.w) X.A (getItem ov iv) (EP X pins σ Q) X.xe s
def ipI (f : Int → Int → Int) : TIp := fun x y H Q => ∃ i j, x = .int i ∧ y = .int j ∧ Q (.int (f i j)) H
end
section
variable {X : Cx} {pos : Pos}
def tWhile (c : TT) (tb : TS) : TS := fun D σ H => ∃ W : Nat → St → Hp → Prop, (∃ m, W m σ H) ∧ ∀ m σ H, W m σ H →
  c σ H fun b H1 => if b = true then ∃ N : St → Hp → Prop, (∀ σ' H', N σ' H' → ∃ m', m' < m ∧ W m' σ' H') ∧ tb { D with nx := N, ct := N, bk := D.nx } σ H1 else D.nx σ H1
theorem ps_while {c : Expr} {body : List Stmt} {tc : TT} {tb : TS} (hp : PassesOwn (model X.prog X.w) X.A X.env X.xe) (hc : PT X c tc) (hb : PSs X body tb) : PS X (.While c body [] pos) (tWhile tc tb) := by
  intro pins s σ H D I h
  obtain ⟨W, ⟨m0, w0⟩, turn⟩ := h
  refine wpAny_While (codeAny_whileLoop (fun n s' => ∃ σ' H', Inv X pins σ' H' s' ∧ W n σ' H') ?_ m0 ⟨σ, H, I, w0⟩)
  rintro n s1 ⟨σ1, H1, I1, w1⟩
  refine wpAny_passesOwn hp (thn (hc pins s1 σ1 H1 _ I1 (turn n σ1 H1 w1)) fun b s2 ⟨H2, I2, q2⟩ => ?_)
  cases b with
  | true =>
    obtain ⟨N, hN, q2⟩ := q2
    rw [if_pos rfl]
    refine wpAny_passesOwn hp (thn (hb pins s2 σ1 H2 _ I2 q2) fun f s3 q3 => ?_)
    cases f with
    | next =>
      obtain ⟨σ3, H3, I3, n3⟩ := q3
      obtain ⟨m', hm, w3⟩ := hN σ3 H3 n3
      exact ⟨m', hm, σ3, H3, I3, w3⟩
    | cont =>
      obtain ⟨σ3, H3, I3, n3⟩ := q3
      obtain ⟨m', hm, w3⟩ := hN σ3 H3 n3
      exact ⟨m', hm, σ3, H3, I3, w3⟩
    | brk => exact q3
    | ret v => exact q3
  | false =>
    rw [if_neg Bool.false_ne_true]
    exact wpAny_execs_nil ⟨σ1, H2, I2, q2⟩
end
structure It where
  go : Nat → Hp → Prop
  yld : Nat → Hp → V → Hp → Prop
  stop : Nat → Hp → Prop
def FpOk (X : Cx) (pins : List (Addr × Obj)) (H : Hp) (b : Addr) : Prop :=
  H b = none ∧ b ≠ X.env.locals ∧ b ∉ X.fs ∧ (b ∈ X.ex ∨ X.s₀.heap.objs.size ≤ b) ∧ (∀ x c, X.env.cells.lookup x = some c → c ≠ b) ∧ ∀ p ∈ X.pn ++ pins, p.1 ≠ b
theorem Inv.fpOk {X : Cx} {pins : List (Addr × Obj)} {σ : St} {H H' : Hp} {s : Shared} {b : Addr} (I : Inv X pins σ H s) (hb : s.heap.objs.size ≤ b) (hn : H' b = none) : FpOk X pins H' b := by
  refine ⟨hn, Nat.ne_of_gt (Nat.lt_of_lt_of_le I.lt hb), I.nofs hb, .inr (Nat.le_trans I.sz hb), fun x c e z => ?_, fun p hp z => ?_⟩
  · obtain ⟨v, q⟩ := I.cell x c e
    exact absurd (Nat.lt_of_lt_of_le q.lt (by rw [z]; exact hb)) (Nat.lt_irrefl _)
  · exact absurd (Nat.lt_of_lt_of_le (Heap.lt_size (I.pin p hp).1) (by rw [z]; exact hb)) (Nat.lt_irrefl _)
structure Turn (P : Program) (w : World) (K : PySem.W.Frag) (tg : Expr) (J : It) (fp : List Addr) (it : Addr) (tn : Nat → Heap → Prop) : Prop where
  mem : it ∈ fp
  obj : ∀ i h, tn i h → ∀ b ∈ fp, ∃ o, h.get? b = some o ∧ ∀ v, o.data ≠ .cell v
  keep : ∀ i h h', tn i h → (∀ b ∈ fp, ∀ o, h.get? b = some o → h'.get? b = some o) → tn i h'
  item : ∀ (X : Cx), X.prog = P → X.w = w → X.K = K → X.calm = true → ∀ (i : Nat) (pins : List (Addr × Obj)) (s : Shared) (σ : St) (H : Hp) (E : Value → Shared → Prop), Inv X pins σ H s → (∀ b ∈ fp, FpOk X pins H b) → tn i s.heap → J.go i H →
    wpAny (model P w) X.A (pyNext (.ref it)) (fun r s1 => ∃ u, r = some u ∧
      wpAny (model P w) X.A (letOwnedTupleGo tg (.ref it) u) (fun _ s2 => ∃ x H', Inv X pins σ H' s2 ∧ RelV x u ∧ J.yld i H x H' ∧ tn (i + 1) s2.heap ∧ ∀ b ∈ fp, H' b = none) E s1) E s
  done : ∀ (X : Cx), X.prog = P → X.w = w → X.K = K → X.calm = true → ∀ (i : Nat) (pins : List (Addr × Obj)) (s : Shared) (σ : St) (H : Hp) (E : Value → Shared → Prop), Inv X pins σ H s → (∀ b ∈ fp, FpOk X pins H b) → tn i s.heap → J.stop i H →
    wpAny (model P w) X.A (pyNext (.ref it)) (fun r s1 => r = none ∧ Inv X pins σ H s1) E s
  self : ∀ (A : Around) (i : Nat) (s : Shared) (Q : Value → Shared → Prop) (E : Value → Shared → Prop), tn i s.heap → Q (.ref it) s → wpAny (model P w) A (pyIter (.ref it)) Q E s
abbrev TI := St → Hp → (It → Hp → Prop) → Prop
def PIE (X : Cx) (pins : List (Addr × Obj)) (σ : St) (tg : Expr) (R : It → Hp → Prop) (itv : Value) (s2 : Shared) : Prop :=
  ∃ (it : Addr) (fp : List Addr) (tn : Nat → Heap → Prop) (J : It) (H' : Hp), itv = .ref it ∧ Inv X pins σ H' s2 ∧ Turn X.prog X.w X.K tg J fp it tn ∧ tn 0 s2.heap ∧ (∀ b ∈ fp, FpOk X pins H' b) ∧ R J H'
def PI (X : Cx) (tg iter : Expr) (wi : TI) : Prop :=
  ∀ (pins : List (Addr × Obj)) (s : Shared) (σ : St) (H : Hp) (R : It → Hp → Prop), Inv X pins σ H s → wi σ H R →
    wpAny (model X.prog X.w) X.A (eval iter X.env) (fun v s1 => wpAny (model X.prog X.w) X.A (pyIter v) (PIE X pins σ tg R) X.xe s1) X.xe s
theorem go_of {M : Model} {A : Around} {E : Value → Shared → Prop} {s : Shared} {tg : Expr} {it : Addr} {u : Value} {o : Obj} {n : String} {vs : Array Value} {Q : Unit → Shared → Prop} (ho : s.heap.get? it = some o) (hc : o.cls = .type n) (hd : o.data = .fields vs)
    (hn : ["enumerate", "zip", "dict_itemiterator", "dict_reverseitemiterator", "odict_iterator", "itertools.zip_longest", "itertools.pairwise"].contains n = false) (hQ : Q () s) : wpAny M A (letOwnedTupleGo tg (.ref it) u) Q E s := by
  unfold letOwnedTupleGo
  cases tg <;> first
    | exact wpAny_pure hQ
    | (cases u <;> first
        | exact wpAny_pure hQ
        | (refine wpAny_bind (wpAny_load ho ?_)
           rw [hc, hd]
           show wpAny M A (if (["enumerate", "zip", "dict_itemiterator", "dict_reverseitemiterator", "odict_iterator", "itertools.zip_longest", "itertools.pairwise"].contains n && vs[0]? == some (rawInt _)) = true then _ else _) Q E s
           rw [if_neg (by intro h; rw [hn, Bool.false_and] at h; cases h)]
           exact wpAny_pure hQ))
def Itl (K : PySem.W.Frag) (a : Addr) : It :=
  ⟨fun i H => ∃ xs x, SqL K H a xs ∧ xs[i]? = some x, fun i H x H' => H' = H ∧ ∀ xs, SqL K H a xs → xs[i]? = some x, fun i H => ∃ xs, SqL K H a xs ∧ xs.length ≤ i⟩
def Itt (K : PySem.W.Frag) (a : Addr) : It :=
  ⟨fun i H => ∃ xs x, SqT K H a xs ∧ xs[i]? = some x, fun i H x H' => H' = H ∧ ∀ xs, SqT K H a xs → xs[i]? = some x, fun i H => ∃ xs, SqT K H a xs ∧ xs.length ≤ i⟩
def Itr (lo : Int) (n : Nat) : It := ⟨fun i _ => i < n, fun i H x H' => H' = H ∧ x = .int (lo + i), fun i _ => n ≤ i⟩
theorem turn_list {P : Program} {w : World} {K : PySem.W.Frag} {tg : Expr} (a it : Addr) : Turn P w K tg (Itl K a) [it] it (fun i h => h.IsListIter it a i) where
  mem := by simp
  obj := fun i h st b hb => by
    have e : b = it := by simpa using hb
    subst e
    obtain ⟨o, e, c, d⟩ := st
    exact ⟨o, e, fun v z => by rw [d] at z; cases z⟩
  keep := fun i h h' st k => st.at fun o e => k it (by simp) o e
  item := by
    intro X hP hw hK hc i pins s σ H E I hf st hg
    subst hP hw hK
    obtain ⟨xs, x, hq, hx⟩ := hg
    obtain ⟨its, rv, p, hz⟩ := I.list hq
    obtain ⟨u, hu, ru⟩ := rv.get hx
    obtain ⟨f0, f1, f2, f3, f4, f5⟩ := hf it (by simp)
    refine wpAny_pyNext_list_item st p.isList (x := u) (by simpa using hu) fun h' st' sb => ?_
    have I1 : Inv X pins σ H { s with heap := h' } := I.turned (t' := s.toks) (fun b o hb e => (sb.2 b hb).trans e) f0 f1 f3 f4 f5
    obtain ⟨o, e, c, d⟩ := id st'
    exact ⟨u, rfl, go_of (s := { s with heap := h' }) e c d (by decide) ⟨x, H, I1, ru, ⟨rfl, fun ys hy => by rw [I.list_inj hy hq]; exact hx⟩, st', fun b hb => (hf b hb).1⟩⟩
  done := by
    intro X hP hw hK hc i pins s σ H E I hf st hg
    subst hP hw hK
    obtain ⟨xs, hq, hx⟩ := hg
    obtain ⟨its, rv, p, hz⟩ := I.list hq
    obtain ⟨f0, f1, f2, f3, f4, f5⟩ := hf it (by simp)
    have hl := rv.length
    exact wpAny_pyNext_list_end (I.ok.hd hc) st p.isList (by simp; omega) fun h' eb => ⟨rfl, I.turned (t' := s.toks) (fun b o hb e => eb b o hb e) f0 f1 f3 f4 f5⟩
  self := fun _ _ _ _ _ st h => wpAny_pyIter_listiter st h
theorem turn_tuple {P : Program} {w : World} {K : PySem.W.Frag} {tg : Expr} (a it : Addr) : Turn P w K tg (Itt K a) [it] it (fun i h => h.IsTupleIter it a i) where
  mem := by simp
  obj := fun i h st b hb => by
    have e : b = it := by simpa using hb
    subst e
    obtain ⟨o, e, c, d⟩ := st
    exact ⟨o, e, fun v z => by rw [d] at z; cases z⟩
  keep := fun i h h' st k => st.at fun o e => k it (by simp) o e
  item := by
    intro X hP hw hK hc i pins s σ H E I hf st hg
    subst hP hw hK
    obtain ⟨xs, x, hq, hx⟩ := hg
    obtain ⟨its, rv, p, hz⟩ := I.tuple hq
    obtain ⟨u, hu, ru⟩ := rv.get hx
    obtain ⟨f0, f1, f2, f3, f4, f5⟩ := hf it (by simp)
    refine wpAny_pyNext_tuple_item st (show s.heap.IsTuple a its.toArray from p) (x := u) (by simpa using hu) fun h' st' sb => ?_
    have I1 : Inv X pins σ H { s with heap := h' } := I.turned (t' := s.toks) (fun b o hb e => (sb.2 b hb).trans e) f0 f1 f3 f4 f5
    obtain ⟨o, e, c, d⟩ := id st'
    exact ⟨u, rfl, go_of (s := { s with heap := h' }) e c d (by decide) ⟨x, H, I1, ru, ⟨rfl, fun ys hy => by rw [I.tuple_inj hy hq]; exact hx⟩, st', fun b hb => (hf b hb).1⟩⟩
  done := by
    intro X hP hw hK hc i pins s σ H E I hf st hg
    subst hP hw hK
    obtain ⟨xs, hq, hx⟩ := hg
    obtain ⟨its, rv, p, hz⟩ := I.tuple hq
    obtain ⟨f0, f1, f2, f3, f4, f5⟩ := hf it (by simp)
    have hl := rv.length
    exact wpAny_pyNext_tuple_end (I.ok.hd hc) st (show s.heap.IsTuple a its.toArray from p) (by simp; omega) fun h' eb => ⟨rfl, I.turned (t' := s.toks) (fun b o hb e => eb b o hb e) f0 f1 f3 f4 f5⟩
  self := fun _ _ _ _ _ st h => wpAny_pyIter_tupleiter st h
theorem turn_range {P : Program} {w : World} {K : PySem.W.Frag} {tg : Expr} (it : Addr) (lo : Int) (n : Nat) : Turn P w K tg (Itr lo n) [it] it (fun i h => IsRangeIter h it (lo + (i : Nat) * 1) ((n : Int) - (i : Nat)) 1) where
  mem := by simp
  obj := fun i h st b hb => by
    have e : b = it := by simpa using hb
    subst e
    exact ⟨_, st, fun v z => by
      have z' : Data.fields _ = Data.cell v := z
      cases z'⟩
  keep := fun i h h' st k => k it (by simp) _ st
  item := by
    intro X hP hw hK hc i pins s σ H E I hf st hg
    subst hP hw hK
    obtain ⟨f0, f1, f2, f3, f4, f5⟩ := hf it (by simp)
    have W := Walks.range (prog := X.prog) (w := X.w) (I.ok.hd hc) it lo 1 n
    refine W.item i s _ _ hg st fun v h' tk hv st' kk => ?_
    obtain ⟨t, rfl⟩ := hv
    have I1 : Inv X pins σ H { s with heap := h', toks := tk } := I.turned (fun b o hb e => kk b o (by simpa using hb) e) f0 f1 f3 f4 f5
    refine ⟨_, rfl, go_of (s := { s with heap := h', toks := tk }) (n := "range_iterator") st' rfl rfl (by decide) ⟨.int (lo + i), H, I1, ⟨t, ?_⟩, ⟨rfl, rfl⟩, st', fun b hb => (hf b hb).1⟩⟩
    rw [Int.mul_one]
  done := by
    intro X hP hw hK hc i pins s σ H E I hf st hg
    subst hP hw hK
    obtain ⟨f0, f1, f2, f3, f4, f5⟩ := hf it (by simp)
    exact wpAny_pyNext_range_end (I.ok.hd hc) st (by have : n ≤ i := hg; omega) fun h' eb => ⟨rfl, I.turned (t' := s.toks) (fun b o hb e => eb b o hb e) f0 f1 f3 f4 f5⟩
  self := fun _ _ _ _ _ st h => wpAny_pyIter_rangeiter st h
end L2
namespace L2
open PySem PySem.Spec PyProof.Rows
section
variable {X : Cx} {tg : Expr}
def iList (K : PySem.W.Frag) (tl : TE) : TI := fun σ H R => tl σ H fun x H1 => ∃ a, x = .ref a ∧ (∃ xs, SqL K H1 a xs) ∧ R (Itl K a) H1
def iTup (K : PySem.W.Frag) (tl : TE) : TI := fun σ H R => tl σ H fun x H1 => ∃ a, x = .ref a ∧ (∃ xs, SqT K H1 a xs) ∧ R (Itt K a) H1
theorem pi_list {l : Expr} {tl : TE} (hl : PE X l tl) : PI X tg l (iList X.K tl) := by
  intro pins s σ H R I h
  refine thn (hl pins s σ H _ I h) fun v s1 ⟨x, H1, I1, r1, q1⟩ => ?_
  obtain ⟨a, e, ⟨xs, hq⟩, q⟩ := q1
  subst e
  cases r1
  obtain ⟨its, rv, p, hz⟩ := I1.list hq
  refine wpAny_pyIter_list p.isList ?_
  refine ⟨s1.heap.objs.size, [s1.heap.objs.size], _, _, H1, rfl, I1.kept (t' := s1.toks) fun b o e => Heap.get?_push_of_some _ e, turn_list a _, ⟨_, Heap.get?_push_size _ rfl, rfl, rfl⟩, fun b hb => ?_, q⟩
  have e : b = s1.heap.objs.size := by simpa using hb
  subst e
  exact I1.fpOk (Nat.le_refl _) (I1.hok.fresh (Nat.le_refl _))
theorem pi_tup {l : Expr} {tl : TE} (hl : PE X l tl) : PI X tg l (iTup X.K tl) := by
  intro pins s σ H R I h
  refine thn (hl pins s σ H _ I h) fun v s1 ⟨x, H1, I1, r1, q1⟩ => ?_
  obtain ⟨a, e, ⟨xs, hq⟩, q⟩ := q1
  subst e
  cases r1
  obtain ⟨its, rv, p, hz⟩ := I1.tuple hq
  refine wpAny_pyIter_tuple (show s1.heap.IsTuple a its.toArray from p) ?_
  refine ⟨s1.heap.objs.size, [s1.heap.objs.size], _, _, H1, rfl, I1.kept (t' := s1.toks) fun b o e => Heap.get?_push_of_some _ e, turn_tuple a _, ⟨_, Heap.get?_push_size _ rfl, rfl, rfl⟩, fun b hb => ?_, q⟩
  have e : b = s1.heap.objs.size := by simpa using hb
  subst e
  exact I1.fpOk (Nat.le_refl _) (I1.hok.fresh (Nat.le_refl _))
theorem range_it {pins : List (Addr × Obj)} {σ : St} {H : Hp} {s : Shared} {R : It → Hp → Prop} {E : Value → Shared → Prop} {lo hi : Int} {t u v : Tok} {tk : Nat} (I : Inv X pins σ H s) (h1 : -(2 ^ 62) ≤ lo) (h2 : lo < 2 ^ 62) (h3 : -(2 ^ 62) ≤ hi) (h4 : hi < 2 ^ 62)
    (q : R (Itr lo (hi - lo).toNat) H) : wpAny (model X.prog X.w) X.A (pyIter (.ref s.heap.objs.size)) (PIE X pins σ tg R) E { s with heap := s.heap.push { cls := .type "range", data := .fields #[.int lo t, .int hi u, .int 1 v] }, toks := tk } := by
  refine wpAny_pyIter_range (IsRange.new ..) (small_one h1 h2 h3 h4) ?_
  have I1 : Inv X pins σ H { s with heap := s.heap.push { cls := .type "range", data := .fields #[.int lo t, .int hi u, .int 1 v] }, toks := tk } := I.kept fun b o e => Heap.get?_push_of_some _ e
  refine ⟨(s.heap.push { cls := .type "range", data := .fields #[.int lo t, .int hi u, .int 1 v] }).objs.size, [(s.heap.push { cls := .type "range", data := .fields #[.int lo t, .int hi u, .int 1 v] }).objs.size], _, _, H, rfl,
    I1.kept (t' := tk) fun b o e => Heap.get?_push_of_some _ e, turn_range _ lo (hi - lo).toNat, ?_, fun b hb => ?_, q⟩
  · have e1 : lo + ((0 : Nat) : Int) * 1 = lo := by simp
    have e2 : (((hi - lo).toNat : Nat) : Int) - ((0 : Nat) : Int) = Builtin.Range.rangeSize lo hi 1 := by rw [rangeSize_one]; split <;> omega
    show IsRangeIter _ _ (lo + ((0 : Nat) : Int) * 1) ((((hi - lo).toNat : Nat) : Int) - ((0 : Nat) : Int)) 1
    rw [e1, e2]
    exact Heap.get?_push_size _ rfl
  · have e : b = (s.heap.push { cls := .type "range", data := .fields #[.int lo t, .int hi u, .int 1 v] }).objs.size := by simpa using hb
    subst e
    exact I1.fpOk (Nat.le_refl _) (I1.hok.fresh (Nat.le_refl _))
def iRng1 (ta : TA) : TI := fun σ H R => ta σ H fun vs H1 => ∃ j : Int, vs = [.int j] ∧ -(2 ^ 62) ≤ j ∧ j < 2 ^ 62 ∧ R (Itr 0 j.toNat) H1
def iRng2 (ta : TA) : TI := fun σ H R => ta σ H fun vs H1 => ∃ i j : Int, vs = [.int i, .int j] ∧ (-(2 ^ 62) ≤ i ∧ i < 2 ^ 62 ∧ -(2 ^ 62) ≤ j ∧ j < 2 ^ 62) ∧ R (Itr i (j - i).toNat) H1
theorem pi_range1 {a : Expr} {ta : TA} {p pos : Pos} (hg : Gl X "range") (hm : X.mg "range" = none) (ha : PA X [a] ta) (hs : starEach [a] X.env = [(false, eval a X.env)] := by rfl) : PI X tg (.Call (.Name "range" p) [a] [] pos) (iRng1 ta) := by
  intro pins s σ H R I h
  refine Call_ (ld_blt I hg hm boot_range (PyProof.Rows.callWith_type1 (thn (ha pos pins s σ H _ I h) fun us s1 ⟨vs, H1, I1, r1, q1⟩ => ?_) hs rfl))
  obtain ⟨j, e, q1, q2, q⟩ := q1
  subst e
  cases r1 with
  | cons r rr =>
    cases rr
    obtain ⟨t, rfl⟩ := r
    exact call_range_1 (range_it I1 (by omega) (by omega) q1 q2 (by simpa using q))
theorem pi_range2 {a b : Expr} {ta : TA} {p pos : Pos} (hg : Gl X "range") (hm : X.mg "range" = none) (ha : PA X [a, b] ta) (hs : starEach [a, b] X.env = [(false, eval a X.env), (false, eval b X.env)] := by rfl) (hs2 : starEach [b] X.env = [(false, eval b X.env)] := by rfl) :
    PI X tg (.Call (.Name "range" p) [a, b] [] pos) (iRng2 ta) := by
  intro pins s σ H R I h
  refine Call_ (ld_blt I hg hm boot_range (PyProof.Rows.callWith_type1 (thn (ha pos pins s σ H _ I h) fun us s1 ⟨vs, H1, I1, r1, q1⟩ => ?_) (by rw [hs, hs2]) (by rw [hs2]; rfl)))
  obtain ⟨i, j, e, ⟨q1, q2, q3, q4⟩, q⟩ := q1
  subst e
  cases r1 with
  | cons r rr =>
    cases rr with
    | cons r' rr =>
      cases rr
      obtain ⟨t, rfl⟩ := r
      obtain ⟨t', rfl⟩ := r'
      exact call_range_2 (range_it I1 q1 q2 q3 q4 q)
def tFor (wi : TI) (g : TG) (tb : TS) : TS := fun D σ H => wi σ H fun J H1 => ∃ W : Nat → Nat → St → Hp → Prop, (∃ m, W 0 m σ H1) ∧ ∀ i m σ H, W i m σ H →
  (J.stop i H ∧ D.nx σ H) ∨ (J.go i H ∧ ∃ N : St → Hp → Prop, (∀ σ' H', N σ' H' → ∃ m', m' < m ∧ W (i + 1) m' σ' H') ∧ ∀ x H', J.yld i H x H' → g x σ H' fun σ2 H2 => tb { D with nx := N, ct := N, bk := D.nx } σ2 H2)
def pinsAt (fp : List Addr) (h : Heap) : List (Addr × Obj) := fp.filterMap fun b => (h.get? b).map fun o => (b, o)
theorem mem_pinsAt {fp : List Addr} {h : Heap} {b : Addr} {o : Obj} (hb : b ∈ fp) (e : h.get? b = some o) : (b, o) ∈ pinsAt fp h := List.mem_filterMap.mpr ⟨b, hb, by rw [e]; rfl⟩
theorem of_pinsAt {fp : List Addr} {h : Heap} {p : Addr × Obj} (hp : p ∈ pinsAt fp h) : p.1 ∈ fp ∧ h.get? p.1 = some p.2 := by
  obtain ⟨b, hb, e⟩ := List.mem_filterMap.mp hp
  cases q : h.get? b with
  | none => rw [q] at e; cases e
  | some o =>
    rw [q] at e
    have e' : (b, o) = p := Option.some.inj e
    subst e'
    exact ⟨hb, q⟩
theorem Inv.pinned {pins : List (Addr × Obj)} {σ : St} {H : Hp} {s : Shared} {fp : List Addr} (I : Inv X pins σ H s) (hf : ∀ b ∈ fp, FpOk X pins H b) (ho : ∀ b ∈ fp, ∃ o, s.heap.get? b = some o ∧ ∀ v, o.data ≠ .cell v) : Inv X (pins ++ pinsAt fp s.heap) σ H s :=
  I.pins_of fun p hp => (List.mem_append.mp hp).elim (fun z => I.pin p (List.mem_append_right _ z)) fun z => by
    obtain ⟨hb, e⟩ := of_pinsAt z
    obtain ⟨f0, f1, f2, _⟩ := hf p.1 hb
    obtain ⟨o, e', d⟩ := ho p.1 hb
    rw [e] at e'; cases e'
    exact ⟨e, f0, f1, f2, d⟩
theorem Inv.unpinned {pins pl : List (Addr × Obj)} {σ : St} {H : Hp} {s : Shared} (I : Inv X (pins ++ pl) σ H s) : Inv X pins σ H s := I.pins_of fun p hp => I.pin p (List.mem_append_right _ (List.mem_append_left _ hp))
theorem ps_for {iter : Expr} {body : List Stmt} {wi : TI} {g : TG} {tb : TS} {pos : Pos} (hp : PassesOwn (model X.prog X.w) X.A X.env X.xe) (hc : X.calm = true) (hi : PI X tg iter wi) (hg : PG X tg g) (hb : PSs X body tb)
    (hs : ∀ x, foldedSetIterable iter X.env x = pure x := by intro _; rfl) : PS X (.For tg iter body [] pos) (tFor wi g tb) := by
  intro pins s σ H D I h
  refine wpAny_For (thn (hi pins s σ H _ I h) fun v s1 h1 => thn h1 fun itv s2 h2 => ?_) hs
  obtain ⟨it, fp, tn, J, H2, e, I2, T, st2, f2, W, ⟨m0, w0⟩, turn⟩ := h2
  subst e
  have stat : ∀ {H' : Hp}, (∀ b ∈ fp, H' b = none) → ∀ b ∈ fp, FpOk X pins H' b := fun hn b hb => ⟨hn b hb, (f2 b hb).2⟩
  refine codeAny_forLoop_any (fun n s' => ∃ i σ' H', Inv X pins σ' H' s' ∧ tn i s'.heap ∧ (∀ b ∈ fp, H' b = none) ∧ W i n σ' H') ?_ m0 ⟨0, σ, H2, I2, st2, fun b hb => (f2 b hb).1, w0⟩
  rintro n s3 ⟨i, σ3, H3, I3, st3, fr3, w3⟩
  rcases turn i n σ3 H3 w3 with ⟨stop, qn⟩ | ⟨go, N, hN, step⟩
  · refine wpAny_passesOwn hp (thn (T.done X rfl rfl rfl hc i pins s3 σ3 H3 X.xe I3 (stat fr3) st3 stop) fun r s4 ⟨hr, I4⟩ => ?_)
    subst hr
    exact wpAny_execs_nil ⟨σ3, H3, I4, qn⟩
  · refine wpAny_passesOwn hp (thn (T.item X rfl rfl rfl hc i pins s3 σ3 H3 X.xe I3 (stat fr3) st3 go) fun r s4 ⟨u, hr, h4⟩ => ?_)
    subst hr
    refine wpAny_passesOwn hp (thn h4 fun _ s5 ⟨x, H5, I5, r5, y5, st5, fr5⟩ => ?_)
    have I5' := I5.pinned (stat fr5) (T.obj _ _ st5)
    refine wpAny_passesOwn hp (thn (hg _ s5 σ3 H5 x u _ I5' r5 (step x H5 y5)) fun _ s6 ⟨σ6, H6, I6, q6⟩ => ?_)
    refine wpAny_passesOwn hp (thn (hb _ s6 σ6 H6 _ I6 q6) fun f s7 q7 => ?_)
    have again : ∀ {σ7 : St} {H7 : Hp}, Inv X (pins ++ pinsAt fp s5.heap) σ7 H7 s7 → N σ7 H7 → ∃ m, m < n ∧ ∃ i σ' H', Inv X pins σ' H' s7 ∧ tn i s7.heap ∧ (∀ b ∈ fp, H' b = none) ∧ W i m σ' H' := fun {σ7 H7} I7 n7 => by
      obtain ⟨m', hm, w7⟩ := hN σ7 H7 n7
      refine ⟨m', hm, i + 1, σ7, H7, I7.unpinned, T.keep _ _ _ st5 fun b hb o e => (I7.pin (b, o) (List.mem_append_right _ (List.mem_append_right _ (mem_pinsAt hb e)))).1, fun b hb => ?_, w7⟩
      obtain ⟨o, e, d⟩ := T.obj _ _ st5 b hb
      exact (I7.pin (b, o) (List.mem_append_right _ (List.mem_append_right _ (mem_pinsAt hb e)))).2.1
    cases f with
    | next => obtain ⟨σ7, H7, I7, n7⟩ := q7; exact again I7 n7
    | cont => obtain ⟨σ7, H7, I7, n7⟩ := q7; exact again I7 n7
    | brk => obtain ⟨σ7, H7, I7, q7⟩ := q7; exact ⟨σ7, H7, I7.unpinned, q7⟩
    | ret v => obtain ⟨x7, σ7, H7, I7, r7, q7⟩ := q7; exact ⟨x7, σ7, H7, I7.unpinned, r7, q7⟩
end
theorem for_list {K : PySem.W.Frag} {a : Addr} {xs : List V} {g : TG} {tb : TS} {D : Ends} {σ : St} {H : Hp} (Pv : Nat → St → Hp → Prop) (h0 : Pv 0 σ H) (hl : ∀ i σ H, i ≤ xs.length → Pv i σ H → SqL K H a xs)
    (hs : ∀ i x σ H, xs[i]? = some x → Pv i σ H → g x σ H fun σ2 H2 => tb { D with nx := Pv (i + 1), ct := Pv (i + 1), bk := D.nx } σ2 H2) (hd : ∀ σ H, Pv xs.length σ H → D.nx σ H) :
    ∃ W : Nat → Nat → St → Hp → Prop, (∃ m, W 0 m σ H) ∧ ∀ i m σ H, W i m σ H →
      ((Itl K a).stop i H ∧ D.nx σ H) ∨ ((Itl K a).go i H ∧ ∃ N : St → Hp → Prop, (∀ σ' H', N σ' H' → ∃ m', m' < m ∧ W (i + 1) m' σ' H') ∧ ∀ x H', (Itl K a).yld i H x H' → g x σ H' fun σ2 H2 => tb { D with nx := N, ct := N, bk := D.nx } σ2 H2) := by
  refine ⟨fun i m σ H => m = xs.length - i ∧ i ≤ xs.length ∧ Pv i σ H, ⟨xs.length, by simp, Nat.zero_le _, h0⟩, ?_⟩
  rintro i m σ H ⟨rfl, hi, p⟩
  have q := hl i σ H hi p
  by_cases hlt : i < xs.length
  · refine .inr ⟨⟨xs, xs[i], q, by simp [hlt]⟩, Pv (i + 1), fun σ' H' p' => ⟨xs.length - (i + 1), by omega, rfl, hlt, p'⟩, fun x H' y => ?_⟩
    obtain ⟨e, y⟩ := y
    subst e
    exact hs i x σ _ (y xs q) p
  · have e : i = xs.length := by omega
    subst e
    exact .inl ⟨⟨xs, q, Nat.le_refl _⟩, hd σ H p⟩
theorem for_tup {K : PySem.W.Frag} {a : Addr} {xs : List V} {g : TG} {tb : TS} {D : Ends} {σ : St} {H : Hp} (Pv : Nat → St → Hp → Prop) (h0 : Pv 0 σ H) (hl : ∀ i σ H, i ≤ xs.length → Pv i σ H → SqT K H a xs)
    (hs : ∀ i x σ H, xs[i]? = some x → Pv i σ H → g x σ H fun σ2 H2 => tb { D with nx := Pv (i + 1), ct := Pv (i + 1), bk := D.nx } σ2 H2) (hd : ∀ σ H, Pv xs.length σ H → D.nx σ H) :
    ∃ W : Nat → Nat → St → Hp → Prop, (∃ m, W 0 m σ H) ∧ ∀ i m σ H, W i m σ H →
      ((Itt K a).stop i H ∧ D.nx σ H) ∨ ((Itt K a).go i H ∧ ∃ N : St → Hp → Prop, (∀ σ' H', N σ' H' → ∃ m', m' < m ∧ W (i + 1) m' σ' H') ∧ ∀ x H', (Itt K a).yld i H x H' → g x σ H' fun σ2 H2 => tb { D with nx := N, ct := N, bk := D.nx } σ2 H2) := by
  refine ⟨fun i m σ H => m = xs.length - i ∧ i ≤ xs.length ∧ Pv i σ H, ⟨xs.length, by simp, Nat.zero_le _, h0⟩, ?_⟩
  rintro i m σ H ⟨rfl, hi, p⟩
  have q := hl i σ H hi p
  by_cases hlt : i < xs.length
  · refine .inr ⟨⟨xs, xs[i], q, by simp [hlt]⟩, Pv (i + 1), fun σ' H' p' => ⟨xs.length - (i + 1), by omega, rfl, hlt, p'⟩, fun x H' y => ?_⟩
    obtain ⟨e, y⟩ := y
    subst e
    exact hs i x σ _ (y xs q) p
  · have e : i = xs.length := by omega
    subst e
    exact .inl ⟨⟨xs, q, Nat.le_refl _⟩, hd σ H p⟩
theorem for_range {lo : Int} {n : Nat} {g : TG} {tb : TS} {D : Ends} {σ : St} {H : Hp} (Pv : Nat → St → Hp → Prop) (h0 : Pv 0 σ H)
    (hs : ∀ i σ H, i < n → Pv i σ H → g (.int (lo + i)) σ H fun σ2 H2 => tb { D with nx := Pv (i + 1), ct := Pv (i + 1), bk := D.nx } σ2 H2) (hd : ∀ σ H, Pv n σ H → D.nx σ H) :
    ∃ W : Nat → Nat → St → Hp → Prop, (∃ m, W 0 m σ H) ∧ ∀ i m σ H, W i m σ H →
      ((Itr lo n).stop i H ∧ D.nx σ H) ∨ ((Itr lo n).go i H ∧ ∃ N : St → Hp → Prop, (∀ σ' H', N σ' H' → ∃ m', m' < m ∧ W (i + 1) m' σ' H') ∧ ∀ x H', (Itr lo n).yld i H x H' → g x σ H' fun σ2 H2 => tb { D with nx := N, ct := N, bk := D.nx } σ2 H2) := by
  refine ⟨fun i m σ H => m = n - i ∧ i ≤ n ∧ Pv i σ H, ⟨n, by simp, Nat.zero_le _, h0⟩, ?_⟩
  rintro i m σ H ⟨rfl, hi, p⟩
  by_cases hlt : i < n
  · refine .inr ⟨hlt, Pv (i + 1), fun σ' H' p' => ⟨n - (i + 1), by omega, rfl, hlt, p'⟩, fun x H' y => ?_⟩
    obtain ⟨e, y⟩ := y
    subst e y
    exact hs i σ _ hlt p
  · have e : i = n := by omega
    subst e
    exact .inl ⟨Nat.le_refl _, hd σ H p⟩
end L2
namespace L2
open PySem PySem.Spec PyProof.Rows
abbrev R2 := V → V → Hp → VK → Prop
def OpR (X : Cx) (f : Value → Value → Sem Value) (r : R2) : Prop :=
  ∀ (pins : List (Addr × Obj)) (s : Shared) (σ : St) (H : Hp) (x y : V) (v u : Value) (Q : VK), Inv X pins σ H s → RelV x v → RelV y u → r x y H Q →
    wpAny (model X.prog X.w) X.A (f v u) (EP X pins σ Q) X.xe s
def UnR (X : Cx) (f : Value → Sem Value) (r : V → Hp → VK → Prop) : Prop :=
  ∀ (pins : List (Addr × Obj)) (s : Shared) (σ : St) (H : Hp) (x : V) (v : Value) (Q : VK), Inv X pins σ H s → RelV x v → r x H Q →
    wpAny (model X.prog X.w) X.A (f v) (EP X pins σ Q) X.xe s
def CallR (X : Cx) (f : Value) (r : List V → Hp → VK → Prop) : Prop :=
  ∀ (pins : List (Addr × Obj)) (s : Shared) (σ : St) (H : Hp) (xs : List V) (us : List Value) (Q : VK), Inv X pins σ H s → Vals xs us → r xs H Q →
    wpAny (model X.prog X.w) X.A (call f us) (EP X pins σ Q) X.xe s
def TruR (X : Cx) (r : V → Hp → (Bool → Hp → Prop) → Prop) : Prop :=
  ∀ (pins : List (Addr × Obj)) (s : Shared) (σ : St) (H : Hp) (x : V) (v : Value) (Q : Bool → Hp → Prop), Inv X pins σ H s → RelV x v → r x H Q →
    wpAny (model X.prog X.w) X.A (truthy v) (TP X pins σ Q) X.xe s
def tOp (r : R2) (ta tb : TE) : TE := fun σ H Q => ta σ H fun x H1 => tb σ H1 fun y H2 => r x y H2 Q
def tUn (r : V → Hp → VK → Prop) (ta : TE) : TE := fun σ H Q => ta σ H fun x H1 => r x H1 Q
def rI (C : Int → Int → Prop) (g : Int → Int → V) : R2 := fun x y H Q => ∃ i j, x = .int i ∧ y = .int j ∧ C i j ∧ Q (g i j) H
def rI0 (g : Int → Int → V) : R2 := fun x y H Q => ∃ i j, x = .int i ∧ y = .int j ∧ Q (g i j) H
def rU (g : Int → V) : V → Hp → VK → Prop := fun x H Q => ∃ i, x = .int i ∧ Q (g i) H
section
variable {X : Cx} {a b c : Expr} {ta tb tc : TE} {pos : Pos}
theorem binT (ha : PE X a ta) (hb : PE X b tb) {pins : List (Addr × Obj)} {s : Shared} {σ : St} {H : Hp} {R : V → V → Hp → Prop} (I : Inv X pins σ H s)
    (h : ta σ H fun x H1 => tb σ H1 fun y H2 => R x y H2) {Q : Value → Shared → Prop} {f : Value → Value → Sem Value}
    (hf : ∀ v u s2 x y H2, Inv X pins σ H2 s2 → RelV x v → RelV y u → R x y H2 → wpAny (model X.prog X.w) X.A (f v u) Q X.xe s2) :
    wpAny (model X.prog X.w) X.A (eval a X.env) (fun v s₁ => wpAny (model X.prog X.w) X.A (eval b X.env) (fun u s₂ => wpAny (model X.prog X.w) X.A (f v u) Q X.xe s₂) X.xe s₁) X.xe s := by
  refine thn (ha pins s σ H _ I h) fun v s1 ⟨x, H1, I1, r1, q1⟩ => ?_
  refine thn (hb pins s1 σ H1 _ I1 q1) fun u s2 ⟨y, H2, I2, r2, q2⟩ => ?_
  exact hf v u s2 x y H2 I2 r1 r2 q2
theorem pe_op {op : Operator} {r : R2} (ho : OpR X (binaryOp op) r) (ha : PE X a ta) (hb : PE X b tb) : PE X (.BinOp a op b pos) (tOp r ta tb) := by
  intro pins s σ H Q I h
  exact wpAny_BinOp (binT ha hb I h fun v u s2 x y H2 I2 rx ry q => ho pins s2 σ H2 x y v u Q I2 rx ry q)
theorem pe_un {op : UnaryOp} {r : V → Hp → VK → Prop} (ho : UnR X (unaryOp op) r) (ha : PE X a ta) : PE X (.UnaryOp op a pos) (tUn r ta) := by
  intro pins s σ H Q I h
  exact UnaryOp_ (thn (ha pins s σ H _ I h) fun v s1 ⟨x, H1, I1, r1, q1⟩ => ho pins s1 σ H1 x v Q I1 r1 q1)
theorem opI {f : Value → Value → Sem Value} {C : Int → Int → Prop} {g : Int → Int → Int}
    (rule : ∀ (i j : Int) (t u : Tok) (s : Shared) (Q : Value → Shared → Prop) (E : Value → Shared → Prop), C i j → Q (.int (g i j) s.toks) { s with toks := s.toks + 1 } → wpAny (model X.prog X.w) X.A (f (.int i t) (.int j u)) Q E s) :
    OpR X f (rI C fun i j => .int (g i j)) := by
  intro pins s σ H x y v u Q I rx ry h
  obtain ⟨i, j, rfl, rfl, hc, q⟩ := h
  obtain ⟨t, rfl⟩ := rx
  obtain ⟨t', rfl⟩ := ry
  exact rule i j t t' s _ _ hc ⟨.int (g i j), H, I.tok _, ⟨_, rfl⟩, q⟩
theorem opI0 {f : Value → Value → Sem Value} {g : Int → Int → Int}
    (rule : ∀ (i j : Int) (t u : Tok) (s : Shared) (Q : Value → Shared → Prop) (E : Value → Shared → Prop), Q (.int (g i j) s.toks) { s with toks := s.toks + 1 } → wpAny (model X.prog X.w) X.A (f (.int i t) (.int j u)) Q E s) :
    OpR X f (rI0 fun i j => .int (g i j)) := by
  intro pins s σ H x y v u Q I rx ry h
  obtain ⟨i, j, rfl, rfl, q⟩ := h
  obtain ⟨t, rfl⟩ := rx
  obtain ⟨t', rfl⟩ := ry
  exact rule i j t t' s _ _ ⟨.int (g i j), H, I.tok _, ⟨_, rfl⟩, q⟩
theorem opB0 {f : Value → Value → Sem Value} {g : Int → Int → Bool}
    (rule : ∀ (i j : Int) (t u : Tok) (s : Shared) (Q : Value → Shared → Prop) (E : Value → Shared → Prop), Q (.bool (g i j)) s → wpAny (model X.prog X.w) X.A (f (.int i t) (.int j u)) Q E s) :
    OpR X f (rI0 fun i j => .bl (g i j)) := by
  intro pins s σ H x y v u Q I rx ry h
  obtain ⟨i, j, rfl, rfl, q⟩ := h
  obtain ⟨t, rfl⟩ := rx
  obtain ⟨t', rfl⟩ := ry
  exact rule i j t t' s _ _ ⟨.bl (g i j), H, I, rfl, q⟩
def CDiv (i j : Int) : Prop := 0 < j ∧ j < 1073741824
def CDivN (i j : Int) : Prop := j ≠ 0 ∧ j.natAbs < 1073741824
def CPow (i j : Int) : Prop := 0 ≤ j ∧ j ≤ 1000000 ∧ i.natAbs < 2 ^ 64
def CMul (i j : Int) : Prop := (-(2 ^ 64) < i ∧ i < 2 ^ 64) ∨ (-(2 ^ 64) < j ∧ j < 2 ^ 64)
theorem CMul.ok {i j : Int} (h : CMul i j) : IntMulOk i j := by
  rcases h with ⟨h1, h2⟩ | ⟨h1, h2⟩
  · exact .of_left (intBits_le_64 h1 h2)
  · exact .of_right (intBits_le_64 h1 h2)
theorem op_add : OpR X (binaryOp .Add) (rI0 fun i j => .int (i + j)) := opI0 fun _ _ _ _ _ _ _ q => add_int q
theorem op_sub : OpR X (binaryOp .Sub) (rI0 fun i j => .int (i - j)) := opI0 fun _ _ _ _ _ _ _ q => sub_int q
theorem op_mul : OpR X (binaryOp .Mult) (rI CMul fun i j => .int (i * j)) := opI fun _ _ _ _ _ _ _ hc q => mul_int q hc.ok
theorem op_fdiv : OpR X (binaryOp .FloorDiv) (rI CDiv fun i j => .int (i / j)) := opI fun i j _ _ _ _ _ hc q => by
  have h1 : (0 : Int) < j := hc.1
  have h2 : j < 1073741824 := hc.2
  exact floordiv_int (by omega) (by rw [Int.fdiv_eq_ediv_of_nonneg i (by omega)]; exact q) (.inl (PyProof.noPylong_small (by omega)))
theorem op_mod : OpR X (binaryOp .Mod) (rI (fun _ j => 0 < j) fun i j => .int (i % j)) := opI fun i j _ _ _ _ _ hc q => by
  have h1 : (0 : Int) < j := hc
  exact mod_int' (by omega) (by rw [Int.fmod_eq_emod_of_nonneg i (by omega)]; exact q)
theorem op_pow : OpR X (binaryOp .Pow) (rI CPow fun i j => .int (i ^ j.toNat)) := opI fun _ _ _ _ _ _ _ hc q => pow_int_small hc.1 hc.2.1 hc.2.2 q
theorem unI {f : Value → Sem Value} {g : Int → Int}
    (rule : ∀ (i : Int) (t : Tok) (s : Shared) (Q : Value → Shared → Prop) (E : Value → Shared → Prop), Q (.int (g i) s.toks) { s with toks := s.toks + 1 } → wpAny (model X.prog X.w) X.A (f (.int i t)) Q E s) :
    UnR X f (rU fun i => .int (g i)) := by
  intro pins s σ H x v Q I rx h
  obtain ⟨i, rfl, q⟩ := h
  obtain ⟨t, rfl⟩ := rx
  exact rule i t s _ _ ⟨.int (g i), H, I.tok _, ⟨_, rfl⟩, q⟩
theorem un_neg : UnR X (unaryOp .USub) (rU fun i => .int (-i)) := unI fun _ _ _ _ _ q => neg_int q
end
def scal : V → V → Bool
  | .non, .non => true | .non, .int _ => true | .int _, .non => true | .non, .bl _ => true | .bl _, .non => true | .non, .str _ => true | .str _, .non => true
  | .int _, .int _ => true | .bl _, .bl _ => true | .str _, .str _ => true | .byt _, .byt _ => true
  | .int _, .str _ => true | .str _, .int _ => true | .bl _, .str _ => true | .str _, .bl _ => true
  | _, _ => false
def rEq : R2 := fun x y H Q => scal x y = true ∧ Q (.bl (decide (x = y))) H
def rNe : R2 := fun x y H Q => scal x y = true ∧ Q (.bl (!decide (x = y))) H
theorem dec_int {i j : Int} : decide (V.int i = V.int j) = (i == j) := by
  rw [Bool.eq_iff_iff]
  simp
theorem dec_bl {i j : Bool} : decide (V.bl i = V.bl j) = (i == j) := by
  rw [Bool.eq_iff_iff]
  simp
theorem dec_str {i j : Str} : decide (V.str i = V.str j) = (i == j) := by
  rw [Bool.eq_iff_iff]
  simp
theorem dec_byt {i j : Array UInt8} : decide (V.byt i = V.byt j) = (i.toList == j.toList) := by
  rw [Bool.eq_iff_iff]
  cases i
  cases j
  simp
section
variable {X : Cx} {a b c : Expr} {ta tb tc : TE} {pos : Pos}
theorem fin_bl {pins : List (Addr × Obj)} {σ : St} {H : Hp} {s : Shared} {Q : VK} {k k' : Bool} (I : Inv X pins σ H s) (q : Q (.bl k) H) (e : k = k') : EP X pins σ Q (.bool k') s := by
  subst e
  exact ⟨.bl k, H, I, rfl, q⟩
theorem op_eq : OpR X (compareOp .Eq) rEq := by
  intro pins s σ H x y v u Q I rx ry h
  obtain ⟨hs, q⟩ := h
  cases x with
  | non =>
    cases rx
    cases y with
    | non => cases ry; exact PySem.EqNone.eq_none_none (fin_bl I q (by simp))
    | bl j => cases ry; exact PySem.EqNone.eq_none_bool (fin_bl I q (by simp))
    | int j => obtain ⟨t', rfl⟩ := ry; exact PySem.EqNone.eq_none_int (fin_bl I q (by simp))
    | str j => obtain ⟨t', rfl⟩ := ry; exact PySem.EqNone.eq_none_str (fin_bl I q (by simp))
    | _ => exact absurd (show false = true from hs) Bool.false_ne_true
  | bl i =>
    cases rx
    cases y with
    | non => cases ry; exact PySem.EqNone.eq_bool_none (fin_bl I q (by simp))
    | bl j => cases ry; exact eq_bool (fin_bl I q dec_bl)
    | str j => obtain ⟨t', rfl⟩ := ry; exact PySem.EqMixed.eq_bool_str (fin_bl I q (by simp))
    | _ => exact absurd (show false = true from hs) Bool.false_ne_true
  | int i =>
    obtain ⟨t, rfl⟩ := rx
    cases y with
    | non => cases ry; exact PySem.EqNone.eq_int_none (fin_bl I q (by simp))
    | int j => obtain ⟨t', rfl⟩ := ry; exact eq_int (fin_bl I q dec_int)
    | str j => obtain ⟨t', rfl⟩ := ry; exact PySem.EqMixed.eq_int_str (fin_bl I q (by simp))
    | _ => exact absurd (show false = true from hs) Bool.false_ne_true
  | str i =>
    obtain ⟨t, rfl⟩ := rx
    cases y with
    | non => cases ry; exact PySem.EqNone.eq_str_none (fin_bl I q (by simp))
    | bl j => cases ry; exact PySem.EqMixed.eq_str_bool (fin_bl I q (by simp))
    | int j => obtain ⟨t', rfl⟩ := ry; exact PySem.EqMixed.eq_str_int (fin_bl I q (by simp))
    | str j => obtain ⟨t', rfl⟩ := ry; exact eq_str (fin_bl I q dec_str)
    | _ => exact absurd (show false = true from hs) Bool.false_ne_true
  | byt i =>
    obtain ⟨t, rfl⟩ := rx
    cases y with
    | byt j => obtain ⟨t', rfl⟩ := ry; exact PySem.W.eq_bytes (fin_bl I q dec_byt)
    | _ => exact absurd (show false = true from hs) Bool.false_ne_true
  | _ => cases y <;> exact absurd (show false = true from hs) Bool.false_ne_true
theorem op_ne : OpR X (compareOp .NotEq) rNe := by
  intro pins s σ H x y v u Q I rx ry h
  obtain ⟨hs, q⟩ := h
  cases x with
  | non =>
    cases rx
    cases y with
    | non => cases ry; exact PySem.EqNone.ne_none_none (fin_bl I q (by simp))
    | bl j => cases ry; exact PySem.EqNone.ne_none_bool (fin_bl I q (by simp))
    | int j => obtain ⟨t', rfl⟩ := ry; exact PySem.EqNone.ne_none_int (fin_bl I q (by simp))
    | str j => obtain ⟨t', rfl⟩ := ry; exact PySem.EqNone.ne_none_str (fin_bl I q (by simp))
    | _ => exact absurd (show false = true from hs) Bool.false_ne_true
  | bl i =>
    cases rx
    cases y with
    | non => cases ry; exact PySem.EqNone.ne_bool_none (fin_bl I q (by simp))
    | bl j => cases ry; exact ne_bool (fin_bl I q (congrArg not dec_bl))
    | str j => obtain ⟨t', rfl⟩ := ry; exact PySem.EqMixed.ne_bool_str (fin_bl I q (by simp))
    | _ => exact absurd (show false = true from hs) Bool.false_ne_true
  | int i =>
    obtain ⟨t, rfl⟩ := rx
    cases y with
    | non => cases ry; exact PySem.EqNone.ne_int_none (fin_bl I q (by simp))
    | int j => obtain ⟨t', rfl⟩ := ry; exact ne_int (fin_bl I q (congrArg not dec_int))
    | str j => obtain ⟨t', rfl⟩ := ry; exact PySem.EqMixed.ne_int_str (fin_bl I q (by simp))
    | _ => exact absurd (show false = true from hs) Bool.false_ne_true
  | str i =>
    obtain ⟨t, rfl⟩ := rx
    cases y with
    | non => cases ry; exact PySem.EqNone.ne_str_none (fin_bl I q (by simp))
    | bl j => cases ry; exact PySem.EqMixed.ne_str_bool (fin_bl I q (by simp))
    | int j => obtain ⟨t', rfl⟩ := ry; exact PySem.EqMixed.ne_str_int (fin_bl I q (by simp))
    | str j => obtain ⟨t', rfl⟩ := ry; exact ne_str (fin_bl I q (congrArg not dec_str))
    | _ => exact absurd (show false = true from hs) Bool.false_ne_true
  | byt i =>
    obtain ⟨t, rfl⟩ := rx
    cases y with
    | byt j => obtain ⟨t', rfl⟩ := ry; exact PySem.W.ne_bytes (fin_bl I q (congrArg not dec_byt))
    | _ => exact absurd (show false = true from hs) Bool.false_ne_true
  | _ => cases y <;> exact absurd (show false = true from hs) Bool.false_ne_true
theorem op_lt : OpR X (compareOp .Lt) (rI0 fun i j => .bl (decide (i < j))) := opB0 fun _ _ _ _ _ _ _ q => lt_int q
theorem op_le : OpR X (compareOp .LtE) (rI0 fun i j => .bl (decide (i ≤ j))) := opB0 fun _ _ _ _ _ _ _ q => le_int q
theorem op_gt : OpR X (compareOp .Gt) (rI0 fun i j => .bl (decide (j < i))) := opB0 fun _ _ _ _ _ _ _ q => gt_int q
theorem op_ge : OpR X (compareOp .GtE) (rI0 fun i j => .bl (decide (j ≤ i))) := opB0 fun _ _ _ _ _ _ _ q => ge_int q
theorem op_notN : OpR X (compareOp .IsNot) (fun x y H Q => y = .non ∧ Q (.bl (!decide (x = .non))) H) := by
  intro pins s σ H x y v u Q I rx ry h
  obtain ⟨rfl, q⟩ := h
  cases ry
  refine isnot_none_gen (fin_bl I q ?_)
  cases x <;> first
    | (cases rx; rfl)
    | (obtain ⟨t, rfl⟩ := rx; rfl)
def isObj : HO → Bool
  | .lst _ => true
  | .ins _ _ _ => true
  | _ => false
theorem nomark (b : Expr) {op : CmpOp} (h : op ≠ .In := by decide) (h2 : op ≠ .NotIn := by decide) : behindInMarks op b = false := by
  have e1 : (op == CmpOp.In) = false := by cases op <;> first | rfl | exact absurd rfl h
  have e2 : (op == CmpOp.NotIn) = false := by cases op <;> first | rfl | exact absurd rfl h2
  cases b <;> simp [behindInMarks, e1, e2]
theorem pe_cmpR {op : CmpOp} {r : R2} (ho : OpR X (compareOp op) r) (ha : PE X a ta) (hb : PE X b tb) (hm : behindInMarks op b = false) : PE X (.Compare a [op] [b] pos) (tOp r ta tb) := by
  intro pins s σ H Q I h
  exact wpAny_Compare1 (binT ha hb I h fun v u s2 x y H2 I2 rx ry q => ho pins s2 σ H2 x y v u Q I2 rx ry q) hm
def tTest (t : TE) : TT := fun σ H Q => t σ H fun x H' => ∃ k, x = .bl k ∧ Q k H'
theorem pt_cmpR {op : CmpOp} {r : R2} (ho : OpR X (compareOp op) r) (ha : PE X a ta) (hb : PE X b tb) (hm : behindInMarks op b = false) : PT X (.Compare a [op] [b] pos) (tTest (tOp r ta tb)) := by
  intro pins s σ H Q I h
  refine wpAny_isTrue_Compare1 (thn (ha pins s σ H _ I h) fun v s1 ⟨x, H1, I1, r1, q1⟩ => thn (hb pins s1 σ H1 _ I1 q1) fun u s2 ⟨y, H2, I2, r2, q2⟩ =>
    thn (ho pins s2 σ H2 x y v u _ I2 r1 r2 q2) fun c s3 ⟨z, H3, I3, r3, k, e, q3⟩ => ?_) hm
  subst e
  cases r3
  exact wpAny_truthy_bool ⟨H3, I3, q3⟩
def tChain (r r' : R2) (ta tb tc : TE) : TE := fun σ H Q => ta σ H fun x H1 => tb σ H1 fun y H2 => r x y H2 fun z H3 => ∃ k, z = .bl k ∧
  (if k = true then tc σ H3 fun w' H4 => r' y w' H4 Q else Q (.bl false) H3)
theorem pt_chain {op op' : CmpOp} {r r' : R2} (ho : OpR X (compareOp op) r) (ho' : OpR X (compareOp op') r') (ha : PE X a ta) (hb : PE X b tb) (hc : PE X c tc)
    (hm : lastMarks [op, op'] [b, c] = false := by with_unfolding_all rfl) : PT X (.Compare a [op, op'] [b, c] pos) (tTest (tChain r r' ta tb tc)) := by
  intro pins s σ H Q I h
  refine isTrue_chain (thn (ha pins s σ H _ I h) fun v s1 ⟨x, H1, I1, r1, q1⟩ => test_link (thn (hb pins s1 σ H1 _ I1 q1) fun u s2 ⟨y, H2, I2, r2, q2⟩ =>
    thn (ho pins s2 σ H2 x y v u _ I2 r1 r2 q2) fun d s3 ⟨z, H3, I3, r3, k, e, q3⟩ => ?_)) hm
  subst e
  cases r3
  refine wpAny_truthy_bool ?_
  cases k with
  | false =>
    obtain ⟨k', e', q'⟩ := q3
    cases e'
    exact ite_ff ⟨H3, I3, q'⟩
  | true =>
    refine ite_tt (test_last (thn (hc pins s3 σ H3 _ I3 q3) fun w' s4 ⟨z', H4, I4, r4, q4⟩ => thn (ho' pins s4 σ H4 y z' u w' _ I4 r2 r4 q4) fun d' s5 ⟨z2, H5, I5, r5, k2, e2, q5⟩ => ?_))
    subst e2
    cases r5
    exact wpAny_truthy_bool ⟨H5, I5, q5⟩
def TruV (K : PySem.W.Frag) (x : V) (H : Hp) (k : Bool) : Prop :=
  match x with
  | .non => k = false
  | .bl b => k = b
  | .int i => k = (i != 0)
  | .str y => y.length ≤ sizeLine ∧ k = ((y.length : Int) != 0)
  | .byt y => y.size ≤ sizeLine ∧ k = ((y.size : Int) != 0)
  | .ref p => (∃ xs, SqL K H p xs ∧ k = !xs.isEmpty) ∨ (∃ xs, SqT K H p xs ∧ k = !xs.isEmpty) ∨ ∃ kvs, H p = some (.dK kvs) ∧ k = !kvs.isEmpty
  | _ => False
theorem line63 : (sizeLine : Nat) < 2 ^ 63 := by rw [sizeLine_eq]; decide
def PlainIxT (b : Expr) : Prop := ∀ o i, subscripted b false o i = operate [o, i] (getItem o i)
theorem vals1 {x : V} {us : List Value} (r : Vals [x] us) : ∃ u, us = [u] ∧ RelV x u := by
  cases r with
  | cons r1 r2 => cases r2; exact ⟨_, rfl, r1⟩
theorem vals2 {x y : V} {us : List Value} (r : Vals [x, y] us) : ∃ u w', us = [u, w'] ∧ RelV x u ∧ RelV y w' := by
  cases r with
  | cons r1 r2 =>
    cases r2 with
    | cons r3 r4 => cases r4; exact ⟨_, _, rfl, r1, r3⟩
theorem call_max2 (hc : X.calm = true) : CallR X (.builtin "max") (fun xs H Q => ∃ i j, xs = [.int i, .int j] ∧ Q (.int (if j > i then j else i)) H) := by
  intro pins s σ H xs us Q I r h
  obtain ⟨i, j, rfl, q⟩ := h
  obtain ⟨u, w', rfl, ⟨t, rfl⟩, ⟨t', rfl⟩⟩ := vals2 r
  refine max_two_ints (I.ok.hd hc) fun h' tk k => ⟨_, H, I.kept k, ?_, q⟩
  by_cases hj : j > i
  · rw [if_pos hj, if_pos hj]; exact ⟨_, rfl⟩
  · rw [if_neg hj, if_neg hj]; exact ⟨_, rfl⟩
theorem call_min2 (hc : X.calm = true) : CallR X (.builtin "min") (fun xs H Q => ∃ i j, xs = [.int i, .int j] ∧ Q (.int (if j < i then j else i)) H) := by
  intro pins s σ H xs us Q I r h
  obtain ⟨i, j, rfl, q⟩ := h
  obtain ⟨u, w', rfl, ⟨t, rfl⟩, ⟨t', rfl⟩⟩ := vals2 r
  refine min_two_ints (I.ok.hd hc) fun h' tk k => ⟨_, H, I.kept k, ?_, q⟩
  by_cases hj : j < i
  · rw [if_pos hj, if_pos hj]; exact ⟨_, rfl⟩
  · rw [if_neg hj, if_neg hj]; exact ⟨_, rfl⟩
theorem call_int1 : CallR X (.type "int") (fun xs H Q => (∃ i, xs = [.int i] ∧ Q (.int i) H) ∨ ∃ k, xs = [.bl k] ∧ Q (.int (if k then 1 else 0)) H) := by
  intro pins s σ H xs us Q I r h
  rcases h with ⟨i, rfl, q⟩ | ⟨k, rfl, q⟩
  · obtain ⟨u, rfl, t, rfl⟩ := vals1 r
    exact call_int_int ⟨.int i, H, I, ⟨_, rfl⟩, q⟩
  · obtain ⟨u, rfl, r1⟩ := vals1 r
    cases r1
    exact call_int_bool ⟨.int (if k then 1 else 0), H, I.tok _, ⟨_, rfl⟩, q⟩
def LenV (K : PySem.W.Frag) (x : V) (H : Hp) (n : Nat) : Prop :=
  match x with
  | .str y => y.length ≤ sizeLine ∧ n = y.length
  | .byt y => y.size ≤ sizeLine ∧ n = y.size
  | .ref p => (∃ xs, SqL K H p xs ∧ n = xs.length) ∨ ∃ xs, SqT K H p xs ∧ n = xs.length
  | _ => False
end
end L2
namespace L2
open PySem PySem.Spec PyProof.Rows
structure ObjM (h : Heap) (x dx C : Addr) (mA : Str → Option Value) : Prop where
  obj : h.get? x = some (PySem.W.instObj C dx)
  ns : h.Ns1 dx mA
  ne : dx ≠ x
theorem lookIn_ns {h : Heap} {dx : Addr} {mA : Str → Option Value} (n : h.Ns1 dx mA) : ∃ od, h.get? dx = some od ∧ ∀ name, PySem.W.lookIn name od = some (mA name) := by
  obtain ⟨o, es, ep, ho, hd, hk, _, hm⟩ := n
  refine ⟨o, ho, fun name => ?_⟩
  have e := hm name
  unfold nsFind findBy at e
  rw [← Array.find?_toList] at e
  unfold PySem.W.lookIn
  rw [hd]
  dsimp only
  split
  · rename_i y q
    rw [q] at e
    exact congrArg some e
  · rename_i q
    rw [q] at e
    have a : es.toList.any (·.refKey) = false := by
      rw [List.any_eq_false]
      intro y hy
      obtain ⟨z, t, hkey⟩ := hk y (Array.mem_toList_iff.mp hy)
      simp [DictEntry.refKey, hkey]
    have a' : ¬ es.toList.any (·.refKey) = true := by rw [a]; exact Bool.false_ne_true
    rw [if_neg a']
    exact congrArg some e
theorem ObjM.look {h : Heap} {x dx C : Addr} {mA : Str → Option Value} (I : ObjM h x dx C mA) : ∃ od, PySem.W.InstAt h x (PySem.W.instObj C dx) C (some od) ∧ ∀ name, PySem.W.lookIn name od = some (mA name) :=
  let ⟨od, ho, hl⟩ := lookIn_ns I.ns
  ⟨od, ⟨I.obj, rfl, rfl, ho⟩, hl⟩
section
variable {prog : Program} {w : World} {A : Around} {E : Value → Shared → Prop} {s : Shared} {K : PySem.W.Frag} {x dx C f : Addr} {mA : Str → Option Value} {name : Str} {v : Value}
theorem get_map {expr : Bool} {Q : Value → Shared → Prop} (X : K.In s.heap) (I : ObjM s.heap x dx C mA) (hg : PySem.W.plainGet K C name = true) (hh : PySem.W.hasDictIn K C = true)
    (ha : PySem.W.findIn K (.ref C) name = some none) (hv : mA name = some v) (hv' : PySem.W.handedIn v = true) (h : Q v { s with toks := s.toks + 1 }) :
    wpAny (model prog w) A (getAttr (.ref x) name expr) Q E s := by
  obtain ⟨od, J, hl⟩ := I.look
  exact PySem.W.get_value X J (PySem.W.plainGet_of hg).1 (PySem.W.findObj_own hh ha rfl (by rw [hl, hv])) hv' h
theorem get_meth {pl : Sem Bool} {Q : Value × List Value → Shared → Prop} (X : K.In s.heap) (I : ObjM s.heap x dx C mA) (hg : PySem.W.plainGet K C name = true)
    (hf : PySem.W.findIn K (.ref C) name = some (some (.ref f))) (ht : PySem.W.isFn K (.ref f) = true) (hv : mA name = none) (h : Q (.ref f, [.ref x]) s) :
    wpAny (model prog w) A (getMethod (.ref x) name pl) Q E s := by
  obtain ⟨od, J, hl⟩ := I.look
  exact PySem.W.method_fn X J (PySem.W.plainGet_of hg).1 (PySem.W.plainGet_of hg).2 hf (beq_iff_eq.mp ht) (by show (PySem.W.lookIn name od).map (·.isSome) = some false; rw [hl, hv]; rfl) h
theorem set_map {ns : List Str} {Q : Unit → Shared → Prop} (X : K.In s.heap) (I : ObjM s.heap x dx C mA)
    (hs : PySem.W.findIn K (.ref C) "__setattr__" = some (some (.builtin "object.__setattr__"))) (hp : PySem.W.plainOver K C = true) (ht : PySem.W.takerIn K C name = some none) (hh : PySem.W.hasDictIn K C = true)
    (hw : PySem.Within mA ns) (hsz : ns.length ≤ sizeLine)
    (h : ∀ h', ObjM h' x dx C (fun y => if y = name then some v else mA y) → Heap.SameBut dx s.heap h' → Q () { s with heap := h', toks := s.toks + 2 }) :
    wpAny (model prog w) A (setAttr (.ref x) name v) Q E s := by
  obtain ⟨od, J, hl⟩ := I.look
  refine PySem.W.set_plain X J hs (PySem.W.osa_open (s := { s with toks := s.toks + 1 }) (r := none) X J hp ht fun b => ?_)
  obtain ⟨cd, hc, hd'⟩ := PySem.W.any_some hh
  have hx : s.heap.get? x = some ⟨.ref C, some dx, .plain, #[]⟩ := I.obj
  refine wpAny_bind (wpAny_pure (wpAny_bind (wpAny_bind (wpAny_loadPart hx (wpAny_bind (PySem.W.Looks.here (s := { s with toks := s.toks + 1 }) (PySem.W.looks_clsIn X hc) ?_))))))
  rw [hd']
  refine wpAny_pure (a := some dx) (wpAny_bind (wpAny_pure (wpAny_bind ?_)))
  refine wpAny_nsSet1 (s := { s with toks := s.toks + 1 }) I.ns fun h' hn2 hs2 => ?_
  obtain ⟨oD, esD, epD, hoD, hdD, hcD⟩ := hn2.count (PySem.Within.cons name v hw)
  refine wpAny_bind (wpAny_lookBehind hoD (by rw [hdD]; exact pastItsLine_dict (Nat.le_trans hcD (by rw [List.length_cons]; omega))) ?_)
  exact wpAny_pure (h _ ⟨(hs2.2 _ (Ne.symm I.ne)).trans I.obj, hn2, I.ne⟩ hs2)
theorem make_map {R : Result → Shared → Prop} {vs : List Value} {kw : List (Str × Value)} (X : K.In s.heap) (hm : PySem.W.makesIn K C = true)
    (hi : PySem.W.findIn K (.ref C) "__init__" = some (some (.ref f))) (hf : PySem.W.typeIn K (.ref f) = some (.type "function"))
    (h : codeAny (model prog w) (A.under (.builtin "type.__call__" ⟨.ref C :: vs, kw⟩)) (.call (.ref f) ⟨.ref (s.heap.objs.size + 1) :: vs, kw⟩) (PySem.W.InitBack (s.heap.objs.size + 1) R)
      { s with heap := (s.heap.push PySem.W.emptyDict).push (PySem.W.instObj C s.heap.objs.size) }) :
    codeAny (model prog w) A (.call (.ref C) ⟨vs, kw⟩) R s := by
  obtain ⟨hh, g, d, t, os⟩ := s
  exact PySem.W.make_core (PySem.W.makes_of X hm) (PySem.W.looks_findIn X hi) (fun self => PySem.W.bind_fn X self hf) (.inl rfl) h
end
def putF (f : Str) (v : V) : List (Str × V) → List (Str × V)
  | [] => [(f, v)]
  | (g, x) :: r => if g = f then (g, v) :: r else (g, x) :: putF f v r
theorem lookup_putF (f g : Str) (v : V) : ∀ fs : List (Str × V), (putF f v fs).lookup g = if g = f then some v else fs.lookup g
  | [] => by
    show List.lookup g [(f, v)] = _
    by_cases h : g = f
    · have hb : (g == f) = true := beq_iff_eq.mpr h
      simp only [List.lookup, hb, if_pos h]
    · have hb : (g == f) = false := beq_eq_false_iff_ne.mpr h
      simp only [List.lookup, hb, if_neg h]
  | (k, x) :: r => by
    have ih := lookup_putF f g v r
    rw [show putF f v ((k, x) :: r) = (if k = f then (k, v) :: r else (k, x) :: putF f v r) from rfl]
    by_cases hk : k = f
    · rw [if_pos hk]
      by_cases h : g = k
      · have hb : (g == k) = true := beq_iff_eq.mpr h
        simp only [List.lookup, hb, if_pos (h.trans hk)]
      · have hb : (g == k) = false := beq_eq_false_iff_ne.mpr h
        simp only [List.lookup, hb, if_neg (fun e : g = f => h (e.trans hk.symm))]
    · rw [if_neg hk]
      by_cases h : g = k
      · have hb : (g == k) = true := beq_iff_eq.mpr h
        simp only [List.lookup, hb, if_neg (fun e : g = f => hk (h.symm.trans e))]
      · have hb : (g == k) = false := beq_eq_false_iff_ne.mpr h
        simp only [List.lookup, hb]
        exact ih
theorem keys_putF (f : Str) (v : V) : ∀ fs : List (Str × V), f ∈ (putF f v fs).map (·.1) ∧ ∀ g, g ∈ fs.map (·.1) → g ∈ (putF f v fs).map (·.1)
  | [] => ⟨by simp [putF], fun g h => by simp at h⟩
  | (k, x) :: r => by
    obtain ⟨i1, i2⟩ := keys_putF f v r
    rw [show putF f v ((k, x) :: r) = (if k = f then (k, v) :: r else (k, x) :: putF f v r) from rfl]
    by_cases hk : k = f
    · rw [if_pos hk]
      subst hk
      exact ⟨by simp, fun g h => by simpa using h⟩
    · rw [if_neg hk]
      refine ⟨?_, fun g h => ?_⟩
      · rw [List.map_cons]
        exact List.mem_cons_of_mem _ i1
      · rw [List.map_cons] at h ⊢
        rcases List.mem_cons.mp h with e | e
        · exact List.mem_cons.mpr (.inl e)
        · exact List.mem_cons_of_mem _ (i2 g e)
theorem length_putF (f : Str) (v : V) : ∀ fs : List (Str × V), (putF f v fs).length ≤ fs.length + 1
  | [] => by simp [putF]
  | (k, x) :: r => by
    have ih := length_putF f v r
    rw [show putF f v ((k, x) :: r) = (if k = f then (k, v) :: r else (k, x) :: putF f v r) from rfl]
    by_cases hk : k = f
    · rw [if_pos hk, List.length_cons, List.length_cons]; omega
    · rw [if_neg hk, List.length_cons, List.length_cons]; omega
theorem RelO.some_of {v : V} {o : Option Value} (r : RelO (some v) o) : ∃ u, o = some u ∧ RelV v u := by
  cases o with
  | none => exact (show False from r).elim
  | some u => exact ⟨u, rfl, r⟩
theorem RelO.none_of {o : Option Value} (r : RelO none o) : o = none := by
  cases o with
  | none => rfl
  | some u => exact (show False from r).elim
theorem handed_of {v : V} {u : Value} (r : RelV v u) : PySem.W.handedIn u = true := by
  cases v with
  | non => cases (show u = Value.none from r); rfl
  | bl b => cases (show u = Value.bool b from r); rfl
  | int i => obtain ⟨t, e⟩ := (show ∃ t, u = Value.int i t from r); cases e; rfl
  | str x => obtain ⟨t, e⟩ := (show ∃ t, u = Value.str x t from r); cases e; rfl
  | byt b => obtain ⟨t, e⟩ := (show ∃ t, u = Value.bytes b t from r); cases e; rfl
  | flt b => obtain ⟨t, e⟩ := (show ∃ t, u = Value.float b t from r); cases e; rfl
  | ref a => cases (show u = Value.ref a from r); rfl
  | ty n => cases (show u = Value.type n from r); rfl
section
variable {P : Program} {w : World} {H H' : Hp} {h h' : Heap} {a C dx : Addr} {fs fs' : List (Str × V)}
theorem ins_get (hok : HOk P w H h) (e : H a = some (.ins C dx fs)) : ∃ mA, ObjM h a dx C mA ∧ (∀ f, RelO (fs.lookup f) (mA f)) ∧ PySem.Within mA (fs.map (·.1)) ∧ fs.length ≤ 1000 ∧ H dx = some (.own a) := by
  obtain ⟨d, z, ne, ob, mA, n, r, q⟩ := (show ObjOk P w H h a (.ins C dx fs) from hok a _ e)
  exact ⟨mA, ⟨ob, n, ne⟩, r, q, z, d⟩
end
structure Cls (K : PySem.W.Frag) (C : Addr) : Prop where
  pg : PySem.W.plainGet K C Str.empty = true
  hd : PySem.W.hasDictIn K C = true
  po : PySem.W.plainOver K C = true
  sa : PySem.W.findIn K (.ref C) "__setattr__" = some (some (.builtin "object.__setattr__"))
theorem Cls.get {K : PySem.W.Frag} {C : Addr} (c : Cls K C) (f : Str) : PySem.W.plainGet K C f = true := c.pg
def NoAttr (K : PySem.W.Frag) (C : Addr) (f : Str) : Prop := PySem.W.findIn K (.ref C) f = some none
theorem NoAttr.taker {K : PySem.W.Frag} {C : Addr} {f : Str} (n : NoAttr K C f) : PySem.W.takerIn K C f = some none := by
  unfold PySem.W.takerIn
  rw [show PySem.W.findIn K (.ref C) f = some none from n]
  rfl
structure Con (K : PySem.W.Frag) (C : Addr) (f : Str) (v : V) (u : Value) : Prop where
  at_ : PySem.W.findIn K (.ref C) f = some (some u)
  rel : RelV v u
  get : PySem.W.specialIn K u "__get__" = some none
  cp : PySem.W.copiedNames.contains f = false
structure Meth (K : PySem.W.Frag) (C : Addr) (m : Str) (f : Addr) : Prop where
  at_ : PySem.W.findIn K (.ref C) m = some (some (.ref f))
  fn : PySem.W.isFn K (.ref f) = true
  kp : PySem.W.keepIn K (.ref f) = true
section
variable {X : Cx} {pins : List (Addr × Obj)} {σ : St} {H : Hp} {s : Shared} {a C dx : Addr} {fs : List (Str × V)} {f : Str} {v : V} {A : Around} {E : Value → Shared → Prop}
theorem getattr_ok {b : Bool} {Q : Value → Shared → Prop} (I : Inv X pins σ H s) (e : H a = some (.ins C dx fs)) (c : Cls X.K C) (n : NoAttr X.K C f) (l : fs.lookup f = some v)
    (h : ∀ u s', Inv X pins σ H s' → RelV v u → Q u s') : wpAny (model X.prog X.w) A (getAttr (.ref a) f b) Q E s := by
  obtain ⟨mA, O, r, _, _, _⟩ := ins_get I.hok e
  obtain ⟨u, hu, ru⟩ := RelO.some_of (v := v) (o := mA f) (by rw [← l]; exact r f)
  exact get_map I.kIn O (c.get f) c.hd n hu (handed_of ru) (h u _ (I.tok _) ru)
theorem getmeth_ok {m : Str} {g : Addr} {pl : Sem Bool} {Q : Value × List Value → Shared → Prop} (I : Inv X pins σ H s) (e : H a = some (.ins C dx fs)) (c : Cls X.K C) (k : Meth X.K C m g) (l : fs.lookup m = none)
    (h : Q (.ref g, [.ref a]) s) : wpAny (model X.prog X.w) A (getMethod (.ref a) m pl) Q E s := by
  obtain ⟨mA, O, r, _, _, _⟩ := ins_get I.hok e
  have hn : mA m = none := RelO.none_of (by rw [← l]; exact r m)
  exact get_meth I.kIn O (c.get m) k.at_ k.fn hn h
theorem setattr_ok {y : V} {u : Value} {Q : Unit → Shared → Prop} (I : Inv X pins σ H s) (e : H a = some (.ins C dx fs)) (c : Cls X.K C) (n : NoAttr X.K C f) (hl : fs.length < 1000) (ry : RelV y u)
    (h : ∀ s', Inv X pins σ (upd H a (.ins C dx (putF f y fs))) s' → Q () s') : wpAny (model X.prog X.w) A (setAttr (.ref a) f u) Q E s := by
  obtain ⟨mA, O, r, wi, _, ho⟩ := ins_get I.hok e
  have hz : (fs.map (·.1)).length ≤ sizeLine := by rw [List.length_map, sizeLine_eq]; omega
  refine set_map I.kIn O c.sa c.po n.taker c.hd wi hz fun h' O' sb => h _ ?_
  have hd : ∃ o, h'.get? dx = some o := let ⟨o, _, _, e', _⟩ := O'.ns; ⟨o, e'⟩
  refine I.write (x := a) (e := dx) (by rw [e]; exact True.intro) (.inr ho) (fun b q hb z => (sb.2 b hb).trans z) hd ?_
  refine ⟨by rw [upd_ne O.ne]; exact ho, ?_, O.ne, O'.obj, _, O'.ns, fun g => ?_, fun g hg => ?_⟩
  · have := length_putF f y fs; omega
  · show RelO ((putF f y fs).lookup g) (if g = f then some u else mA g)
    rw [lookup_putF]
    by_cases q : g = f
    · rw [if_pos q, if_pos q]; exact ry
    · rw [if_neg q, if_neg q]; exact r g
  · by_cases q : g = f
    · rw [q]; exact (keys_putF f y fs).1
    · refine (keys_putF f y fs).2 g (wi g fun z => hg ?_)
      show (if g = f then some u else mA g) = none
      rw [if_neg q]; exact z
theorem Inv.made (I : Inv X pins σ H s) : Inv X pins σ (upd (upd H s.heap.objs.size (.own (s.heap.objs.size + 1))) (s.heap.objs.size + 1) (.ins C s.heap.objs.size []))
    { s with heap := (s.heap.push PySem.W.emptyDict).push (PySem.W.instObj C s.heap.objs.size) } := by
  have e1 : (s.heap.push PySem.W.emptyDict).get? s.heap.objs.size = some PySem.W.emptyDict := Heap.get?_push_size s.heap rfl
  have e2 : ((s.heap.push PySem.W.emptyDict).push (PySem.W.instObj C s.heap.objs.size)).get? (s.heap.objs.size + 1) = some (PySem.W.instObj C s.heap.objs.size) := by
    have := Heap.get?_push_size (s.heap.push PySem.W.emptyDict) (o := PySem.W.instObj C s.heap.objs.size) rfl
    rwa [Heap.size_push] at this
  have e3 : (s.heap.push PySem.W.emptyDict).Ns s.heap.objs.size (fun _ => none) := ⟨PySem.W.emptyDict, #[], _, e1, rfl, (fun e he => absurd he (by simp)), fun _ => rfl⟩
  have I1 := I.laid (a := s.heap.objs.size) (o := .own (s.heap.objs.size + 1)) (h' := s.heap.push PySem.W.emptyDict) (t' := s.toks) (fun b u q => Heap.get?_push_of_some _ q) (Nat.le_refl _) ⟨_, e1⟩
  refine I1.laid (a := s.heap.objs.size + 1) (o := .ins C s.heap.objs.size []) (t' := s.toks) (fun b u q => Heap.get?_push_of_some _ q) (Nat.le_of_eq (Heap.size_push _ _)) ?_
  have ne : s.heap.objs.size ≠ s.heap.objs.size + 1 := Nat.ne_of_lt (Nat.lt_succ_self _)
  refine ⟨by rw [upd_ne ne, upd_same], Nat.zero_le _, ne, e2, fun _ => none, (Heap.Ns1.of_empty e3).at fun o q => Heap.get?_push_of_some _ q, fun _ => True.intro, fun y hy => absurd rfl hy⟩
theorem attr_of {prog : Program} {w : World} {env : Env} {e : Expr} {f : Str} {pos : Pos} {s : Shared} {Q : Value → Shared → Prop} (hb : attributeBase e f env (eval e env) = eval e env)
    (h : wpAny (model prog w) A (eval e env) (fun o s₁ => wpAny (model prog w) A (getAttr o f true) Q E s₁) E s) : wpAny (model prog w) A (eval (.Attribute e f pos) env) Q E s :=
  Attribute_any_ h (by rw [arm_eval_Attribute, hb])
end
def tFld (K : PySem.W.Frag) (ta : TE) (f : Str) : TE := fun σ H Q => ta σ H fun x H1 => ∃ a C dx fs v, x = .ref a ∧ H1 a = some (.ins C dx fs) ∧ Cls K C ∧ NoAttr K C f ∧ fs.lookup f = some v ∧ Q v H1
def tCon (K : PySem.W.Frag) (ta : TE) (f : Str) : TE := fun σ H Q => ta σ H fun x H1 => ∃ a C dx fs v u, x = .ref a ∧ H1 a = some (.ins C dx fs) ∧ Cls K C ∧ Con K C f v u ∧ fs.lookup f = none ∧ Q v H1
def sFld (K : PySem.W.Frag) (ta tv : TE) (f : Str) : TS := fun D σ H => tv σ H fun y H1 => ta σ H1 fun x H2 => ∃ a C dx fs, x = .ref a ∧ H2 a = some (.ins C dx fs) ∧ Cls K C ∧ NoAttr K C f ∧ fs.length < 1000 ∧
  D.nx σ (upd H2 a (.ins C dx (putF f y fs)))
def InOp (X : Cx) (op : Operator) (rd : V → V → Hp → VK → Prop) : Prop :=
  ∀ (pins : List (Addr × Obj)) (s : Shared) (σ : St) (H : Hp) (x y : V) (u v : Value) (Q : VK), Inv X pins σ H s → RelV x u → RelV y v → rd x y H Q → wpAny (model X.prog X.w) X.A (inplaceOp op u v) (EP X pins σ Q) X.xe s
def sFldAug (K : PySem.W.Frag) (ta tv : TE) (rd : V → V → Hp → VK → Prop) (f : Str) : TS := fun D σ H => ta σ H fun x H1 => ∃ a C dx fs v, x = .ref a ∧ H1 a = some (.ins C dx fs) ∧ Cls K C ∧ NoAttr K C f ∧ fs.lookup f = some v ∧
  tv σ H1 fun y H2 => rd v y H2 fun z H3 => ∃ dx' fs', H3 a = some (.ins C dx' fs') ∧ fs'.length < 1000 ∧ D.nx σ (upd H3 a (.ins C dx' (putF f z fs')))
section
variable {X : Cx} {o e value : Expr} {f : Str} {pos pos' tpos : Pos} {ta tv : TE}
theorem pe_fld (he : PE X e ta) (hb : attributeBase e f X.env (eval e X.env) = eval e X.env) : PE X (.Attribute e f pos) (tFld X.K ta f) := by
  intro pins s σ H Q I h
  refine attr_of hb (thn (he pins s σ H _ I h) fun u s1 ⟨x, H1, I1, rx, a, C, dx, fs, v, ex, ea, c, n, l, q⟩ => ?_)
  subst ex
  obtain rfl : u = Value.ref a := rx
  exact getattr_ok I1 ea c n l fun u' s2 I2 ru => ⟨v, H1, I2, ru, q⟩
theorem ps_fld (ha : PE X o ta) (hv : PE X value tv) (hs : swapsWith value (some (.Attribute o f pos')) pos.line X.env = pure false) : PS X (.Assign [.Attribute o f pos'] value pos) (sFld X.K ta tv f) := by
  intro pins s σ H D I h
  refine plainObj_wpAny_Assign_Attribute (thn (hv pins s σ H _ I h) fun u s1 ⟨y, H1, I1, ry, q⟩ => thn (ha pins s1 σ H1 _ I1 q) fun ov s2 ⟨x, H2, I2, rx, a, C, dx, fs, ex, ea, c, n, l, q2⟩ => ?_) hs
  subst ex
  obtain rfl : ov = Value.ref a := rx
  exact setattr_ok I2 ea c n l ry fun s3 I3 => ⟨σ, _, I3, q2⟩
def rAdd : V → V → Hp → VK → Prop := fun x y H Q => ∃ i j, x = .int i ∧ y = .int j ∧ Q (.int (i + j)) H
def rSub : V → V → Hp → VK → Prop := fun x y H Q => ∃ i j, x = .int i ∧ y = .int j ∧ Q (.int (i - j)) H
end
section
variable {X : Cx} {pins : List (Addr × Obj)} {σ : St} {H : Hp} {s : Shared} {A : Around} {E : Value → Shared → Prop} {Q : Value → Shared → Prop} {c : Value} {b : Bool}
inductive TyOf (K : PySem.W.Frag) (H : Hp) : V → Value → Prop where
  | non : TyOf K H .non (.type "NoneType")
  | bl (x : Bool) : TyOf K H (.bl x) (.type "bool")
  | int (i : Int) : TyOf K H (.int i) (.type "int")
  | str (x : Str) : TyOf K H (.str x) (.type "str")
  | flt (x : UInt64) : TyOf K H (.flt x) (.type "float")
  | lst {a : Addr} {xs : List V} (e : H a = some (.lst xs)) : TyOf K H (.ref a) (.type "list")
  | frz {a : Addr} {o : Obj} {xs : List V} (e : H a = some (.frz o (.lst xs))) : TyOf K H (.ref a) (.type "list")
  | tup {a : Addr} {xs : List V} (e : H a = some (.tup xs)) : TyOf K H (.ref a) (.type "tuple")
  | dK {a : Addr} {kvs : List (Key × V)} (e : H a = some (.dK kvs)) : TyOf K H (.ref a) (.type "dict")
  | dT {a : Addr} {kvs : List (List Key × V)} (e : H a = some (.dT kvs)) : TyOf K H (.ref a) (.type "dict")
  | ins {a C dx : Addr} {fs : List (Str × V)} (e : H a = some (.ins C dx fs)) (cl : Cls K C) (ha : PySem.W.findIn K (.ref C) "__class__" = some (some (.builtin "object.__class__")))
      (hn : PySem.W.specialIn K (.builtin "object.__class__") "__get__" = some (some (.builtin "getset_descriptor.__get__"))) (htk : PySem.W.takesIn K (.builtin "object.__class__") = some true)
      (hm : PySem.W.mroIn K C (.type "object") = some true) : TyOf K H (.ref a) (.ref C)
end
end L2
namespace L2
open PySem PySem.Spec PyProof.Rows
structure Room (k : Nat) (A : Around) : Prop where
  hd : A.handled = none
  dp : A.depth + 3 * k + 5 < recursionLimit
  un : A.units + 16 * k + 200 < cLine
theorem Room.mono {j k : Nat} {A : Around} (r : Room k A) (h : j ≤ k) : Room j A := ⟨r.hd, by have := r.dp; omega, by have := r.un; omega⟩
theorem Room.deeper {k : Nat} {A : Around} (r : Room (k + 1) A) (env : Env) : Room k (A.deeper env) :=
  ⟨r.hd, by have := r.dp; show A.depth + 1 + 3 * k + 5 < _; omega, by have := r.un; show A.units + 3 + 16 * k + 200 < _; omega⟩
theorem make_depth {A : Around} {C : Addr} {us : List Value} {kw : List (Str × Value)} : (A.under (.builtin "type.__call__" ⟨.ref C :: us, kw⟩)).depth = A.depth + 1 := by
  first | rfl | simp [Around.under, Code.weight, Code.isCreation, Code.isGuard, Code.isCaller, Code.frames, Code.isFrame, guardIds]
theorem make_units {A : Around} {C : Addr} {us : List Value} {kw : List (Str × Value)} : (A.under (.builtin "type.__call__" ⟨.ref C :: us, kw⟩)).units = A.units + 1 := by
  first | rfl | simp [Around.under, Code.cUnits, Code.frames, Code.isFrame]
theorem Room.make {k : Nat} {A : Around} (r : Room (k + 1) A) (C : Addr) (us : List Value) (kw : List (Str × Value)) : Room k (A.under (.builtin "type.__call__" ⟨.ref C :: us, kw⟩)) :=
  ⟨r.hd, by have := r.dp; rw [make_depth]; omega, by have := r.un; rw [make_units]; omega⟩
theorem Room.depth {k : Nat} {A : Around} (r : Room k A) : A.depth < recursionLimit := by have := r.dp; omega
theorem Room.units0 {k : Nat} {A : Around} (r : Room k A) : A.units < cLine := by have := r.un; omega
def tNil : TA := fun _ H Q => Q [] H
def tCons (ta : TE) (tr : TA) : TA := fun σ H Q => ta σ H fun x H1 => tr σ H1 fun xs H2 => Q (x :: xs) H2
section
variable {X : Cx} {e : Expr} {es : List Expr} {te : TE} {t : TA} {pos : Pos}
theorem pa_nil : PA X [] tNil := fun _ _ _ _ H Q I h => Calls.spliced_nil ⟨[], H, I, .nil, h⟩
theorem pa_cons (ha : PE X e te) (hr : PA X es t) (hs : starEach (e :: es) X.env = (false, eval e X.env) :: starEach es X.env := by rfl) : PA X (e :: es) (tCons te t) := by
  intro pos pins s σ H Q I h
  rw [hs]
  show wpAny _ _ (spliced ((false, eval e X.env) :: backTo pos (starEach es X.env))) _ _ s
  refine Calls.spliced_cons (thn (ha pins s σ H _ I h) fun u s1 ⟨x, H1, I1, r1, q1⟩ => ?_)
  exact thn (hr pos pins s1 σ H1 _ I1 q1) fun us s2 ⟨xs, H2, I2, r2, q2⟩ => ⟨x :: xs, H2, I2, .cons r1 r2, q2⟩
def tTup (t : TA) : TE := fun σ H Q => t σ H fun xs H1 => xs.length ≤ sizeLine ∧ ∀ p, H1 p = none → Q (.ref p) (upd H1 p (.tup xs))
def tLst (t : TA) : TE := fun σ H Q => t σ H fun xs H1 => xs.length ≤ sizeLine ∧ ∀ p, H1 p = none → Q (.ref p) (upd H1 p (.lst xs))
theorem pe_tup {x1} (h : PA X es t) : PE X (.Tuple es x1 pos) (tTup t) := by
  intro pins s σ H Q I hq
  refine wpAny_Tuple_spliced (thn (h pos pins s σ H _ I hq) fun us s1 ⟨xs, H1, I1, r, z, q⟩ => ⟨by rw [← r.length]; exact z, ?_⟩)
  have hf : H1 s1.heap.objs.size = none := I1.hok.fresh (Nat.le_refl _)
  refine ⟨.ref s1.heap.objs.size, upd H1 s1.heap.objs.size (.tup xs), I1.laid (t' := s1.toks) (fun b u e => Heap.get?_push_of_some _ e) (Nat.le_refl _) ?_, rfl, q _ hf⟩
  exact ⟨z, us, r, ⟨_, Heap.get?_push_size _ rfl, rfl, _, rfl⟩⟩
theorem pe_lst (h : PA X es t) : PE X (.List es pos) (tLst t) := by
  intro pins s σ H Q I hq
  refine wpAny_List_spliced (thn (h pos pins s σ H _ I hq) fun us s1 ⟨xs, H1, I1, r, z, q⟩ => ⟨by rw [← r.length]; exact z, ?_⟩)
  have hf : H1 s1.heap.objs.size = none := I1.hok.fresh (Nat.le_refl _)
  refine ⟨.ref s1.heap.objs.size, upd H1 s1.heap.objs.size (.lst xs), I1.laid (t' := s1.toks) (fun b u e => Heap.get?_push_of_some _ e) (Nat.le_refl _) ?_, rfl, q _ hf⟩
  exact ⟨z, us, 0, r, Heap.get?_push_size _ rfl⟩
end
abbrev Sp := List V → Hp → VK → XK → Prop
abbrev CXT := List Env → Hp → Shared → XK → Value → Shared → Prop
structure Env0 (P : Program) (w : World) (K : PySem.W.Frag) (mg : Str → Option Value) (base : Heap) (A : Around) (outer : List Env) (s : Shared) (H : Hp) : Prop where
  frames : A.frames = some outer
  mod : Mod K mg base
  bs : ∀ b o, base.get? b = some o → s.heap.get? b = some o ∧ H b = none
  bsz : base.objs.size ≤ s.heap.objs.size
  funs : s.heap.FunFrames base outer
  frf : ∀ b ∈ frs outer, H b = none
  hok : HOk P w H s.heap
  bare : AllBare s.gens
def CE (outer : List Env) (P : Program) (w : World) (H : Hp) (s : Shared) (Q : VK) (u : Value) (s' : Shared) : Prop :=
  ∃ v H', s'.os = s.os ∧ AllBare s'.gens ∧ Un (frs outer) [] H H' s.heap s'.heap ∧ HOk P w H' s'.heap ∧ RelV v u ∧ Q v H'
def CR (CX : CXT) (outer : List Env) (P : Program) (w : World) (H : Hp) (s : Shared) (Q : VK) (E : XK) (r : Result) (s' : Shared) : Prop :=
  match r with
  | .ok (.ret u) => CE outer P w H s Q u s'
  | .ok _ => False
  | .error e => CX outer H s E e s'
structure FnOk (P : Program) (w : World) (K : PySem.W.Frag) (mg : Str → Option Value) (base : Heap) (CX : CXT) (k : Nat) (f : Addr) (fd : FuncData) (ps : List Str) (sp : Sp) : Prop where
  len : ∀ vs H Q E, sp vs H Q E → vs.length = ps.length
  run : ∀ (A : Around) (outer : List Env) (s : Shared) (H : Hp) (args : Args) (us : List Value) (vs : List V) (Q : VK) (E : XK), Room k A → Env0 P w K mg base A outer s H → BindsTo s fd args (ps.zip us) → Vals vs us → sp vs H Q E →
    codeAny (model P w) A (.call (.ref f) args) (CR CX outer P w H s Q E) s
theorem FnOk.mono {P : Program} {w : World} {K : PySem.W.Frag} {mg : Str → Option Value} {base : Heap} {CX : CXT} {j k : Nat} {f : Addr} {fd : FuncData} {ps : List Str} {sp : Sp} (F : FnOk P w K mg base CX j f fd ps sp) (h : j ≤ k) :
    FnOk P w K mg base CX k f fd ps sp := ⟨F.len, fun A outer s H args us vs Q E hr => F.run A outer s H args us vs Q E (hr.mono h)⟩
theorem Env0.make {P : Program} {w : World} {K : PySem.W.Frag} {mg : Str → Option Value} {base : Heap} {A : Around} {outer : List Env} {s : Shared} {H : Hp} (e : Env0 P w K mg base A outer s H) (C : Addr) (us : List Value) (kw : List (Str × Value)) :
    Env0 P w K mg base (A.under (.builtin "type.__call__" ⟨.ref C :: us, kw⟩)) outer s H := ⟨by first | exact e.frames | (simpa [Around.under, Code.envs, Code.isFrame, pushEnvs] using e.frames), e.mod, e.bs, e.bsz, e.funs, e.frf, e.hok, e.bare⟩
section
variable {X : Cx} {pins : List (Addr × Obj)} {σ : St} {H : Hp} {s s' : Shared}
theorem Inv.env0 (I : Inv X pins σ H s) : Env0 X.prog X.w X.K X.mg X.base X.A X.stack s H :=
  ⟨I.ok.frames, I.ok.mod, I.bs, Nat.le_trans I.ok.bsz I.sz, I.stack, I.stkFree, I.hok, I.bare⟩
theorem Inv.after {Q : VK} {u : Value} (I : Inv X pins σ H s) (h : CE X.stack X.prog X.w H s Q u s') : EP X pins σ Q u s' := by
  obtain ⟨v, H', os, bare, un, hok, r, q⟩ := h
  obtain ⟨hh, g, d, t, os'⟩ := s'
  obtain rfl : os' = s.os := os
  exact ⟨v, H', I.call (h' := hh) (g' := g) (d' := d) (t' := t) (ch := []) un hok bare (fun b z => absurd z (by simp)), r, q⟩
end
def tCall (sp : Sp) (dvs : List V) (E : XK) (t : TA) : TE := fun σ H Q => t σ H fun vs H1 => sp (vs ++ dvs) H1 Q E
def tMeth (C : Addr) (m : Str) (sp : Sp) (dvs : List V) (E : XK) (ta : TE) (t : TA) : TE := fun σ H Q => ta σ H fun x H1 => ∃ a dx fs, x = .ref a ∧ H1 a = some (.ins C dx fs) ∧ fs.lookup m = none ∧
  t σ H1 fun vs H2 => sp (x :: (vs ++ dvs)) H2 Q E
def tMake (C : Addr) (sp : Sp) (dvs : List V) (E : XK) (t : TA) : TE := fun σ H Q => t σ H fun vs H1 => ∀ x dx, H1 x = none → H1 dx = none → dx ≠ x →
  sp (.ref x :: (vs ++ dvs)) (upd (upd H1 dx (.own x)) x (.ins C dx [])) (fun v H2 => v = .non ∧ Q (.ref x) H2) E
def Binds (K : PySem.W.Frag) (fd : FuncData) (ps : List Str) (ds : List Value) : Prop :=
  ∀ (s : Shared) (us : List Value), K.In s.heap → (us ++ ds).length = ps.length → BindsTo s fd ⟨us, []⟩ (ps.zip (us ++ ds))
theorem Binds.all {K : PySem.W.Frag} {fd : FuncData} {ps : List Str} (h : ∀ us : List Value, us.length = ps.length → bindArgs fd ⟨us, []⟩ = pure (ps.zip us)) : Binds K fd ps [] := fun s us _ hl => by
  rw [List.append_nil] at hl ⊢
  exact .of_eq (h us hl)
def Passes (CX : CXT) (X : Cx) (E : XK) : Prop := ∀ (pins : List (Addr × Obj)) (σ : St) (H : Hp) (s : Shared) (e : Value) (s' : Shared), Inv X pins σ H s → CX X.stack H s E e s' → X.xe e s'
section
variable {X : Cx} {CX : CXT} {k : Nat} {f C : Addr} {fd : FuncData} {ps : List Str} {sp : Sp} {dvs : List V} {ds : List Value} {E : XK} {x m : Str} {p pos apos : Pos} {e o : Expr} {es : List Expr} {ta : TE} {t : TA}
theorem run_fn {pins : List (Addr × Obj)} {σ : St} {H : Hp} {s : Shared} {Q : VK} {us : List Value} {vs : List V} (F : FnOk X.prog X.w X.K X.mg X.base CX k f fd ps sp) (hr : Room k X.A) (hb : Binds X.K fd ps ds) (hd : Vals dvs ds) (hx : Passes CX X E)
    (I : Inv X pins σ H s) (r : Vals vs us) (h : sp (vs ++ dvs) H Q E) : wpAny (model X.prog X.w) X.A (call (.ref f) us) (EP X pins σ Q) X.xe s := by
  have r2 : Vals (vs ++ dvs) (us ++ ds) := r.append hd
  have hl : (us ++ ds).length = ps.length := by rw [← r2.length]; exact F.len _ _ _ _ h
  refine wpAny_call (codeAny_mono (F.run X.A X.stack s H ⟨us, []⟩ (us ++ ds) (vs ++ dvs) Q E hr I.env0 (hb s us I.kIn hl) r2 h) fun r s' hq => ?_)
  cases r with
  | error e => exact hx pins σ H s e s' I hq
  | ok fl =>
    cases fl with
    | ret u => exact I.after hq
    | next => exact False.elim hq
    | brk => exact False.elim hq
    | cont => exact False.elim hq
theorem pe_call (F : FnOk X.prog X.w X.K X.mg X.base CX k f fd ps sp) (hr : Room k X.A) (hg : Gl X x) (hm : X.mg x = some (.ref f)) (hk : PySem.W.keepIn X.K (.ref f) = true) (hb : Binds X.K fd ps ds) (hd : Vals dvs ds) (hx : Passes CX X E)
    (ha : PA X (e :: es) t) (hdb : (x == ("__debug__" : Str)) = false := by decide) (he : starEach (e :: es) X.env = (false, eval e X.env) :: starEach es X.env := by rfl) (hpl : (backTo pos (starEach es X.env)).any (·.1) = false := by rfl) :
    PE X (.Call (.Name x p) (e :: es) [] pos) (tCall sp dvs E t) := by
  intro pins s σ H Q I h
  refine wpAny_Call_Name_kw (ld_glob I hg hm ?_ hdb)
  refine PySem.W.callWith_K (h₀ := X.base) I.ok.mod.kin hk (thn (ha pos pins s σ H _ I h) fun us s1 ⟨vs, H1, I1, r, q⟩ => ⟨I1.kIn, ?_⟩) he hpl
  exact run_fn F hr hb hd hx I1 r q
theorem pe_meth {pl : Sem Bool} (he : PE X o ta) (c : Cls X.K C) (hm : Meth X.K C m f) (F : FnOk X.prog X.w X.K X.mg X.base CX k f fd ps sp) (hr : Room k X.A) (hb : Binds X.K fd ps ds) (hd : Vals dvs ds) (hx : Passes CX X E) (ha : PA X (e :: es) t)
    (hst : starEach (e :: es) X.env = (false, eval e X.env) :: starEach es X.env := by rfl) (hpl : (backTo pos (starEach es X.env)).any (·.1) = false := by rfl)
    (ht : eval (.Call (.Attribute o m apos) (e :: es) [] pos) X.env = (do
      let ov ← eval o X.env
      standAt apos.atName
      let (f, first) ← holding [ov] (getMethod ov m pl)
      callWith pos f first (backTo pos (starEach (e :: es) X.env)) (backToKw pos (keywordEach [] X.env))) := by rfl) :
    PE X (.Call (.Attribute o m apos) (e :: es) [] pos) (tMeth C m sp dvs E ta t) := by
  intro pins s σ H Q I h
  refine PySem.W.methodCall_KW (pl := pl) (thn (he pins s σ H _ I h) fun u s1 ⟨x, H1, I1, rx, a, dx, fs, ex, ea, l, q⟩ => ?_) ht
  subst ex
  obtain rfl : u = Value.ref a := rx
  refine getmeth_ok I1 ea c hm l ?_
  refine PySem.W.callWith_K (first := [.ref a]) (h₀ := X.base) I.ok.mod.kin hm.kp (thn (ha pos pins s1 σ H1 _ I1 q) fun us s2 ⟨vs, H2, I2, r, q2⟩ => ⟨I2.kIn, ?_⟩) hst hpl
  exact run_fn (us := .ref a :: us) (vs := .ref a :: vs) F hr hb hd hx I2 (.cons rfl r) q2
theorem pe_meth0 {pl : Sem Bool} (he : PE X o ta) (c : Cls X.K C) (hm : Meth X.K C m f) (F : FnOk X.prog X.w X.K X.mg X.base CX k f fd ps sp) (hr : Room k X.A) (hb : Binds X.K fd ps ds) (hd : Vals dvs ds) (hx : Passes CX X E)
    (ht : eval (.Call (.Attribute o m apos) [] [] pos) X.env = (do
      let ov ← eval o X.env
      standAt apos.atName
      let (f, first) ← holding [ov] (getMethod ov m pl)
      callWith pos f first (backTo pos (starEach [] X.env)) (backToKw pos (keywordEach [] X.env))) := by rfl) :
    PE X (.Call (.Attribute o m apos) [] [] pos) (tMeth C m sp dvs E ta tNil) := by
  intro pins s σ H Q I h
  refine PySem.W.methodCall_KW (pl := pl) (thn (he pins s σ H _ I h) fun u s1 ⟨x, H1, I1, rx, a, dx, fs, ex, ea, l, q⟩ => ?_) ht
  subst ex
  obtain rfl : u = Value.ref a := rx
  refine getmeth_ok I1 ea c hm l ?_
  exact PySem.W.callWith_K0 (first := [.ref a]) I1.kIn hm.kp (run_fn (us := [.ref a]) (vs := [.ref a]) F hr hb hd hx I1 (.cons rfl .nil) q)
structure Mk (K : PySem.W.Frag) (C f : Addr) : Prop where
  makes : PySem.W.makesIn K C = true
  init : PySem.W.findIn K (.ref C) "__init__" = some (some (.ref f))
  fn : PySem.W.isFn K (.ref f) = true
  kp : PySem.W.keepIn K (.ref C) = true
theorem run_make {pins : List (Addr × Obj)} {σ : St} {H : Hp} {s : Shared} {Q : VK} {us : List Value} {vs : List V} (M : Mk X.K C f) (F : FnOk X.prog X.w X.K X.mg X.base CX k f fd ps sp) (hr : Room (k + 1) X.A) (hb : Binds X.K fd ps ds) (hd : Vals dvs ds)
    (hx : Passes CX X E) (I : Inv X pins σ H s) (r : Vals vs us)
    (h : ∀ x dx, H x = none → H dx = none → dx ≠ x → sp (.ref x :: (vs ++ dvs)) (upd (upd H dx (.own x)) x (.ins C dx [])) (fun v H2 => v = .non ∧ Q (.ref x) H2) E) :
    wpAny (model X.prog X.w) X.A (call (.ref C) us) (EP X pins σ Q) X.xe s := by
  have hq := h (s.heap.objs.size + 1) s.heap.objs.size (I.hok.fresh (Nat.le_succ _)) (I.hok.fresh (Nat.le_refl _)) (Nat.ne_of_lt (Nat.lt_succ_self _))
  have I2 := Inv.made (C := C) I
  have r2 : Vals (V.ref (s.heap.objs.size + 1) :: (vs ++ dvs)) (Value.ref (s.heap.objs.size + 1) :: (us ++ ds)) := .cons rfl (r.append hd)
  have hl : (Value.ref (s.heap.objs.size + 1) :: us ++ ds).length = ps.length := by
    have e := r2.length
    rw [F.len _ _ _ _ hq] at e
    exact e.symm
  refine wpAny_call (make_map (f := f) I.kIn M.makes M.init (beq_iff_eq.mp M.fn) (codeAny_mono (F.run _ X.stack _ _ ⟨Value.ref (s.heap.objs.size + 1) :: us, []⟩ (Value.ref (s.heap.objs.size + 1) :: (us ++ ds)) _ _ E (hr.make C us [])
    (I2.env0.make C us []) (hb _ (Value.ref (s.heap.objs.size + 1) :: us) I2.kIn hl) r2 hq) fun r s' hq' => ?_))
  cases r with
  | error e => exact hx pins σ _ _ e s' I2 hq'
  | ok fl =>
    cases fl with
    | ret u =>
      obtain ⟨v, H', I3, rv, ev, q3⟩ := I2.after hq'
      subst ev
      exact ⟨rv, ⟨V.ref (s.heap.objs.size + 1), H', I3, rfl, q3⟩⟩
    | next => exact False.elim hq'
    | brk => exact False.elim hq'
    | cont => exact False.elim hq'
theorem pe_make (M : Mk X.K C f) (F : FnOk X.prog X.w X.K X.mg X.base CX k f fd ps sp) (hr : Room (k + 1) X.A) (hg : Gl X x) (hm : X.mg x = some (.ref C)) (hb : Binds X.K fd ps ds) (hd : Vals dvs ds) (hx : Passes CX X E)
    (ha : PA X (e :: es) t) (hdb : (x == ("__debug__" : Str)) = false := by decide) (he : starEach (e :: es) X.env = (false, eval e X.env) :: starEach es X.env := by rfl) (hpl : (backTo pos (starEach es X.env)).any (·.1) = false := by rfl) :
    PE X (.Call (.Name x p) (e :: es) [] pos) (tMake C sp dvs E t) := by
  intro pins s σ H Q I h
  refine wpAny_Call_Name_kw (ld_glob I hg hm ?_ hdb)
  refine PySem.W.callWith_K (h₀ := X.base) I.ok.mod.kin M.kp (thn (ha pos pins s σ H _ I h) fun us s1 ⟨vs, H1, I1, r, q⟩ => ⟨I1.kIn, ?_⟩) he hpl
  exact run_make M F hr hb hd hx I1 r q
end
def PK (X : Cx) (kws : List Keyword) (t : TA) : Prop :=
  ∀ (pos : Pos) (pins : List (Addr × Obj)) (s : Shared) (σ : St) (H : Hp) (Q : List V → Hp → Prop), Inv X pins σ H s → t σ H Q → wpAny (model X.prog X.w) X.A (evalAll ((backToKw pos (keywordEach kws X.env)).map (·.2))) (AP X pins σ Q) X.xe s
section
variable {X : Cx} {CX : CXT} {k : Nat} {f C : Addr} {fd : FuncData} {ps ks : List Str} {sp : Sp} {E : XK} {x m : Str} {p pos apos kpos : Pos} {e o : Expr} {es : List Expr} {kws : List Keyword} {te ta : TE} {t tk : TA} {nm : Option Str}
structure KBinds (K : PySem.W.Frag) (fd : FuncData) (ps ks : List Str) (g : List Value → List Value → List Value) (gV : List V → List V → List V) : Prop where
  to : ∀ (s : Shared) (us ws : List Value), K.In s.heap → (g us ws).length = ps.length → BindsTo s fd ⟨us, ks.zip ws⟩ (ps.zip (g us ws))
  rel : ∀ {vs : List V} {us : List Value} {zs : List V} {ws : List Value}, Vals vs us → Vals zs ws → Vals (gV vs zs) (g us ws)
def tCallK (sp : Sp) (gV : List V → List V → List V) (E : XK) (t tk : TA) : TE := fun σ H Q => t σ H fun vs H1 => tk σ H1 fun zs H2 => sp (gV vs zs) H2 Q E
variable {g : List Value → List Value → List Value} {gV : List V → List V → List V}
end
structure FnScope (N P : List Str) (sc : Scope) : Prop where
  kind : sc.kind = .function
  co : sc.isCoroutine = false
  gen : sc.isGenerator = false
  nd : N.Nodup
  pre : N.take P.length = P
  par : ∀ x ∈ P, sc.names.lookup x = some .local ∨ sc.names.lookup x = some .cell
  nofree : ∀ y ∈ sc.names, y.2 ≠ .free
theorem bindL_out {kindOf : Str → Option NameKind} {x : Str} : ∀ {binds : List (Str × Value)} {m : Str → Option Value}, (∀ v, (x, v) ∉ binds) → bindL kindOf binds m x = m x
  | [], _, _ => rfl
  | (n, v) :: r, m, h => by
    unfold bindL
    rw [bindL_out fun w hw => h w (List.mem_cons_of_mem _ hw)]
    split
    · have : x ≠ n := by rintro rfl; exact h v List.mem_cons_self
      simp [this]
    · rfl
theorem bindC_out {kindOf : Str → Option NameKind} {x : Str} : ∀ {binds : List (Str × Value)} {m : Str → Option Value}, (∀ v, (x, v) ∉ binds) → bindC kindOf binds m x = m x
  | [], _, _ => rfl
  | (n, v) :: r, m, h => by
    unfold bindC
    rw [bindC_out fun w hw => h w (List.mem_cons_of_mem _ hw)]
    split
    · rfl
    · have : x ≠ n := by rintro rfl; exact h v List.mem_cons_self
      simp [this]
theorem bindL_get {kindOf : Str → Option NameKind} {x : Str} {v : Value} : ∀ {P : List Str} {vs : List Value} {i : Nat} {m : Str → Option Value}, P.Nodup → P[i]? = some x → vs[i]? = some v → kindOf x = some .local →
    bindL kindOf (P.zip vs) m x = some v
  | [], _, _, _, _, h, _, _ => by simp at h
  | _ :: _, [], _, _, _, _, h, _ => by simp at h
  | p :: P, w :: vs, 0, m, nd, h1, h2, hk => by
    simp at h1 h2; subst h1; subst h2
    show bindL kindOf ((p, w) :: P.zip vs) m p = _
    unfold bindL
    rw [bindL_out fun v hv => (List.nodup_cons.mp nd).1 (List.of_mem_zip hv).1, if_pos hk]
    simp
  | p :: P, w :: vs, i + 1, m, nd, h1, h2, hk => by
    show bindL kindOf ((p, w) :: P.zip vs) m x = _
    unfold bindL
    exact bindL_get (i := i) (List.nodup_cons.mp nd).2 (by simpa using h1) (by simpa using h2) hk
theorem bindC_get {kindOf : Str → Option NameKind} {x : Str} {v : Value} : ∀ {P : List Str} {vs : List Value} {i : Nat} {m : Str → Option Value}, P.Nodup → P[i]? = some x → vs[i]? = some v → kindOf x ≠ some .local →
    bindC kindOf (P.zip vs) m x = some v
  | [], _, _, _, _, h, _, _ => by simp at h
  | _ :: _, [], _, _, _, _, h, _ => by simp at h
  | p :: P, w :: vs, 0, m, nd, h1, h2, hk => by
    simp at h1 h2; subst h1; subst h2
    show bindC kindOf ((p, w) :: P.zip vs) m p = _
    unfold bindC
    rw [bindC_out fun v hv => (List.nodup_cons.mp nd).1 (List.of_mem_zip hv).1, if_neg hk]
    simp
  | p :: P, w :: vs, i + 1, m, nd, h1, h2, hk => by
    show bindC kindOf ((p, w) :: P.zip vs) m x = _
    unfold bindC
    exact bindC_get (i := i) (List.nodup_cons.mp nd).2 (by simpa using h1) (by simpa using h2) hk
def start (N : List Str) (vs : List V) : St := vs.map some ++ List.replicate (N.length - vs.length) none
def cxOf (CX : CXT) (P : Program) (w : World) (K : PySem.W.Frag) (mg : Str → Option Value) (base : Heap) (N : List Str) (qual : Str) (scope : Scope) (f : Addr) (cd : Value) (A : Around) (outer : List Env) (s : Shared) (H : Hp) (E : XK) : Cx where
  prog := P
  w := w
  K := K
  mg := mg
  base := base
  A := A.deeper (envOfC qual scope s.heap.objs.size f cd)
  N := N
  s₀ := s
  H₀ := H
  env := envOfC qual scope s.heap.objs.size f cd
  outer := outer
  stack := envOfC qual scope s.heap.objs.size f cd :: outer
  ex := []
  calm := true
  fn := fun _ => true
  pn := []
  xe := fun e s' => wpAny (model P w) (A.deeper (envOfC qual scope s.heap.objs.size f cd)) (leaving (envOfC qual scope s.heap.objs.size f cd) e) (fun _ s'' => CX outer H s E e s'') (fun e' s'' => CX outer H s E e' s'') s'
theorem cell_has {sc : Scope} {n : Nat} {x : Str} (h : sc.names.lookup x = some .cell) : ∃ c, (cellsFrom n sc.names []).lookup x = some c := by
  have q := PySem.W.cellsFrom_some sc.names n [] (.inl h)
  exact Option.isSome_iff_exists.mp q
theorem inv_start {CX : CXT} {P : Program} {w : World} {K : PySem.W.Frag} {mg : Str → Option Value} {base : Heap} {N ps : List Str} {qual : Str} {scope : Scope} {f : Addr} {cd : Value} {A : Around} {outer : List Env} {s s1 : Shared} {H : Hp} {E : XK} {us : List Value} {vs : List V}
    (S : FnScope N ps scope) (hd : A.handled = none) (e0 : Env0 P w K mg base A outer s H) (hl : vs.length = ps.length) (r : Vals vs us)
    (x : InCallC s s.heap.objs.size (bindL (envOfC qual scope s.heap.objs.size f cd).kindOf (ps.zip us) fun _ => none) (cellsFrom (s.heap.objs.size + 1) scope.names []) (bindC (envOfC qual scope s.heap.objs.size f cd).kindOf (ps.zip us) fun _ => none) s1) :
    Inv (cxOf CX P w K mg base N qual scope f cd A outer s H E) [] (start N vs) H s1 := by
  have hpl : ps.length ≤ N.length := by have := congrArg List.length S.pre; rw [List.length_take] at this; omega
  obtain ⟨h1, tk, rfl, hk⟩ := x.done
  have noA : ∀ b : Addr, b ∉ (cxOf CX P w K mg base N qual scope f cd A outer s H E).ex := fun b z => absurd (show b ∈ ([] : List Addr) from z) (by simp)
  refine ⟨⟨e0.mod, S.kind, rfl, rfl, Nat.le_refl _, fun y z c h1 h2 => ?_, fun y hy => ?_, fun y c _ h => ?_, fun _ => hd, Around.frames_deeper e0.frames, .inr ⟨rfl, rfl⟩, fun b z => absurd z (noA b), e0.bs, e0.bsz, fun b _ _ => noA b, fun b z => absurd z (noA b), e0.funs, e0.frf⟩,
    rfl, e0.bare, Un.kept hk, ⟨_, x.toInCall.ns, fun i y v h1 h2 h3 => ?_⟩, fun y c h => ⟨_, x.cell y c h⟩, e0.hok.fresh (Nat.le_refl _), fun y c h => ?_, fun p hp => absurd (show p ∈ ([] : List (Addr × Obj)) from hp) (by simp), e0.hok.kept hk, ?_⟩
  · exact name_of_addr x.apart (PySem.mem_of_lookup h1) (PySem.mem_of_lookup h2)
  · have hy : scope.names.lookup y = some .cell ∨ scope.names.lookup y = some .free := hy
    rcases hy with hy | hy
    · exact cell_has hy
    · exact absurd rfl (S.nofree _ (PySem.mem_of_lookup hy))
  · exact Nat.le_of_lt (x.above y c (PySem.mem_of_lookup h))
  · have hi : i < vs.length := by
      unfold start at h2
      by_cases hi : i < vs.length
      · exact hi
      · rw [List.getElem?_append_right (by simpa using hi)] at h2
        rw [List.getElem?_replicate] at h2
        split at h2 <;> cases h2
    have ha : vs[i]? = some v := by
      unfold start at h2
      rw [List.getElem?_append_left (by simpa using hi), List.getElem?_map] at h2
      cases e : vs[i]? with
      | none => rw [e] at h2; cases h2
      | some a => rw [e] at h2; cases h2; rfl
    obtain ⟨u, hu, rv⟩ := r.get ha
    have hp : ps[i]? = some y := by
      rw [← S.pre, List.getElem?_take_of_lt (by omega)]; exact h1
    have ndP : ps.Nodup := by rw [← S.pre]; exact S.nd.sublist (List.take_sublist _ _)
    refine ⟨u, rv, ?_⟩
    rcases S.par y (List.mem_of_getElem? hp) with k | k
    · exact .inl ⟨k, bindL_get ndP hp hu k⟩
    · obtain ⟨c, e⟩ := cell_has (n := s.heap.objs.size + 1) k
      refine .inr ⟨.inl k, c, e, ?_⟩
      have q := x.cell y c e
      rw [bindC_get ndP hp hu (by show scope.names.lookup y ≠ _; rw [k]; decide)] at q
      exact q
  · exact e0.hok.fresh (Nat.le_of_lt (x.above y c (PySem.mem_of_lookup h)))
  · unfold start
    show _ = N.length
    rw [List.length_append, List.length_map, List.length_replicate]
    omega
theorem fn_of {CX : CXT} {P : Program} {w : World} {K : PySem.W.Frag} {mg : Str → Option Value} {base : Heap} {k : Nat} {f : Addr} {name qual : Str} {params : Arguments} {body : List Stmt} {scope : Scope} {dV kV doc pm cdv ct oc : Value} {an od : Option Addr}
    {osl : Array (Option Value)} {N ps : List Str} {sp : Sp} (lk : K.lookup f = some ⟨oc, od, .func (PySem.W.fnOf name qual params body scope dV kV doc pm an cdv ct), osl⟩) (hcd : PySem.W.codeIn K cdv qual = true) (S : FnScope N ps scope)
    (len : ∀ vs H Q E, sp vs H Q E → vs.length = ps.length)
    (hbody : ∀ (A : Around) (outer : List Env) (s : Shared) (H : Hp) (vs : List V) (Q : VK) (E : XK), Room k (A.deeper (envOfC qual scope s.heap.objs.size f cdv)) → sp vs H Q E →
      ∃ t, PSs (cxOf CX P w K mg base N qual scope f cdv A outer s H E) body t ∧ t { nx := fun _ H' => Q .non H', rt := Q } (start N vs) H) :
    FnOk P w K mg base CX (k + 1) f (PySem.W.fnOf name qual params body scope dV kV doc pm an cdv ct) ps sp := by
  refine ⟨len, fun A outer s H args us vs Q E hr e0 hb r hsp => ?_⟩
  have hl := len _ _ _ _ hsp
  have KX : K.In s.heap := e0.mod.kin.keeps fun b o e => (e0.bs b o e).1
  have lim : s.heap.NoLimit := e0.mod.nolimit.keeps fun b o e => (e0.bs b o e).1
  have hkind : ∀ y ∈ ps.zip us, scope.names.lookup y.1 = some .local ∨ (scope.names.lookup y.1 = some .cell ∧ ((cellsFrom (s.heap.objs.size + 1) scope.names []).lookup y.1).isSome = true) := fun ⟨n, v⟩ hy => by
    rcases S.par n (List.of_mem_zip hy).1 with q | q
    · exact .inl q
    · exact .inr ⟨q, PySem.W.cellsFrom_some _ _ _ (.inl q)⟩
  refine codeAny_call_function hr.depth (KX _ _ lk) rfl S.co S.gen rfl (PySem.W.codeRec_of KX hcd) (hb _ _ _ _ ?_)
  refine wpAny_newFunctionEnv_cells S.kind hkind fun env he s1 x => ?_
  subst he
  refine ⟨lim.keeps x.toInCall.keep, codeAny_func ?_⟩
  obtain ⟨t, ht, hq⟩ := hbody A outer s H vs Q E (hr.deeper _) hsp
  have I : Inv (cxOf CX P w K mg base N qual scope f cdv A outer s H E) [] (start N vs) H s1 := inv_start S hr.hd e0 hl r x
  refine wpAny_mono (ht [] s1 (start N vs) H _ I hq) (fun fl s' hs => ?_) fun e s' hs => hs
  have fin : ∀ {σ' : St} {H' : Hp} {v : V} {u : Value}, Inv (cxOf CX P w K mg base N qual scope f cdv A outer s H E) [] σ' H' s' → RelV v u → Q v H' → CE outer P w H s Q u s' :=
    fun {σ' H' v u} J rv q => ⟨v, H', J.os, J.bare, J.base, J.hok, rv, q⟩
  cases fl with
  | ret u =>
    obtain ⟨v, σ', H', J, rv, q⟩ := hs
    exact fin J rv q
  | next =>
    obtain ⟨σ', H', J, q⟩ := hs
    exact fin (v := V.non) (u := Value.none) J rfl q
  | brk =>
    obtain ⟨_, _, _, q⟩ := hs
    exact False.elim q
  | cont =>
    obtain ⟨_, _, _, q⟩ := hs
    exact False.elim q
end L2
namespace L2
open PySem PySem.Spec PyProof.Rows
section
variable {X : Cx} {x : Str} {p pos : Pos} {e : Expr} {es : List Expr} {t : TA} {id T : String} {r : List V → Hp → VK → Prop}
def tCB (r : List V → Hp → VK → Prop) (t : TA) : TE := fun σ H Q => t σ H fun vs H1 => r vs H1 Q
theorem pe_callB (hc : CallR X (.builtin id) r) (hg : Gl X x) (hm : X.mg x = none) (hv : bootBuiltins x = some (.builtin id)) (ha : PA X (e :: es) t) (hn : x ≠ "__name__" := by decide) (hdb : (x == ("__debug__" : Str)) = false := by decide)
    (he : starEach (e :: es) X.env = (false, eval e X.env) :: starEach es X.env := by rfl) (hpl : (backTo pos (starEach es X.env)).any (·.1) = false := by rfl) : PE X (.Call (.Name x p) (e :: es) [] pos) (tCB r t) := by
  intro pins s σ H Q I h
  refine wpAny_Call_Name_kw (ld_blt I hg hm hv ?_ hn hdb)
  exact PyProof.Rows.callWith_builtin1 (thn (ha pos pins s σ H _ I h) fun us s1 ⟨vs, H1, I1, r1, q1⟩ => hc pins s1 σ H1 vs us Q I1 r1 q1) he hpl
theorem pe_callTy (hc : CallR X (.type T) r) (hg : Gl X x) (hm : X.mg x = none) (hv : bootBuiltins x = some (.type T)) (ha : PA X (e :: es) t) (hn : x ≠ "__name__" := by decide) (hdb : (x == ("__debug__" : Str)) = false := by decide)
    (he : starEach (e :: es) X.env = (false, eval e X.env) :: starEach es X.env := by rfl) (hpl : (backTo pos (starEach es X.env)).any (·.1) = false := by rfl) : PE X (.Call (.Name x p) (e :: es) [] pos) (tCB r t) := by
  intro pins s σ H Q I h
  refine wpAny_Call_Name_kw (ld_blt I hg hm hv ?_ hn hdb)
  exact PyProof.Rows.callWith_type1 (thn (ha pos pins s σ H _ I h) fun us s1 ⟨vs, H1, I1, r1, q1⟩ => hc pins s1 σ H1 vs us Q I1 r1 q1) he hpl
end
end L2
namespace HT
open PySem PyProof.Rows
def lexLt : List Int → List Int → Bool
  | [], [] => false
  | [], _ :: _ => true
  | _ :: _, [] => false
  | x :: xs, y :: ys => if x = y then lexLt xs ys else decide (x < y)
section
open PySem.SeqAt
open PySem.AutoSeq1 (wpAny_loadPart')
open PySem.MeetsSeq PySem.MeetsSeq2 PySem.MeetsSeq3
end
section
variable {prog : Program} {w : World} {A : Around} {E : Value → Shared → Prop} {s : Shared}
def sIx (n d : Nat) : Option Int → Nat
  | none => d
  | some v => if v < 0 then (v + (n : Int)).toNat else min v.toNat n
end
end HT
namespace L2
open PySem PySem.Spec PyProof.Rows
abbrev TO := St → Hp → (Option Int → Hp → Prop) → Prop
def PO (X : Cx) (e : Option Expr) (t : TO) : Prop :=
  ∀ (pins : List (Addr × Obj)) (s : Shared) (σ : St) (H : Hp) (Q : Option Int → Hp → Prop), Inv X pins σ H s → t σ H Q →
    wpAny (model X.prog X.w) X.A (evalPart e X.env) (fun u s' => ∃ o H', Inv X pins σ H' s' ∧ IsPart u o ∧ Q o H') X.xe s
def tNoPart : TO := fun _ H Q => Q none H
def tPart (t : TE) : TO := fun σ H Q => t σ H fun x H1 => ∃ i, x = .int i ∧ Q (some i) H1
section
variable {X : Cx} {e : Expr} {te : TE} {lo hi : Option Expr} {tl th : TO} {pos p2 : Pos}
theorem po_none : PO X none tNoPart := by
  intro pins s σ H Q I h
  rw [evalPart_none]
  exact wpAny_pure ⟨none, H, I, .none, h⟩
theorem po_some (h : PE X e te) : PO X (some e) (tPart te) := by
  intro pins s σ H Q I hw
  rw [evalPart_some]
  refine thn (h pins s σ H _ I hw) fun u s1 ⟨x, H1, I1, r1, q1⟩ => ?_
  obtain ⟨i, rfl, q⟩ := q1
  obtain ⟨t, rfl⟩ := r1
  exact ⟨some i, H1, I1, .int i t, q⟩
def SlR (X : Cx) (r : V → Option Int → Option Int → Hp → VK → Prop) : Prop :=
  ∀ (pins : List (Addr × Obj)) (s : Shared) (σ : St) (H : Hp) (x : V) (v vl vu : Value) (lo hi : Option Int) (sl : Addr) (Q : VK), Inv X pins σ H s → RelV x v → s.heap.IsSliceOf sl vl vu .none → IsPart vl lo → IsPart vu hi → r x lo hi H Q →
    ∃ T id, typeLookup (.type T) "__getitem__" = pure (some (.builtin id)) ∧ s.TypeIs v T ∧ wpAny (model X.prog X.w) X.A (getItem v (.ref sl)) (EP X pins σ Q) X.xe s
def tSl (r : V → Option Int → Option Int → Hp → VK → Prop) (te : TE) (tl th : TO) : TE := fun σ H Q => te σ H fun x H1 => tl σ H1 fun l H2 => th σ H2 fun u H3 => r x l u H3 Q
theorem pe_slice {r : V → Option Int → Option Int → Hp → VK → Prop} (hr : SlR X r) (he : PE X e te) (hl : PO X lo tl) (hu : PO X hi th) : PE X (.Subscript e (.Slice lo hi none p2) pos) (tSl r te tl th) := by
  intro pins s σ H Q I h
  refine Subscript_ (thn (he pins s σ H _ I h) fun v s1 ⟨x, H1, I1, r1, q1⟩ => ?_)
  refine wpAny_Slice (thn (hl pins s1 σ H1 _ I1 q1) fun vl s2 ⟨l, H2, I2, pl, q2⟩ => thn (hu pins s2 σ H2 _ I2 q2) fun vu s3 ⟨u, H3, I3, pu, q3⟩ => ?_)
  rw [evalPart_none]
  refine wpAny_pure ?_
  have I4 : Inv X pins σ H3 { s3 with heap := s3.heap.push { cls := .type "slice", data := .fields #[vl, vu, .none] } } := I3.kept (t' := s3.toks) fun b ob q => Heap.get?_push_of_some _ q
  obtain ⟨T, id, hT, ht, hg⟩ := hr pins { s3 with heap := s3.heap.push { cls := .type "slice", data := .fields #[vl, vu, .none] } } σ H3 x v vl vu l u s3.heap.objs.size Q I4 r1 (Heap.IsSliceOf.new ..) pl pu q3
  show wpAny (model X.prog X.w) X.A (subscriptTail e (.Slice lo hi none p2) v (.ref s3.heap.objs.size)) (EP X pins σ Q) X.xe { s3 with heap := s3.heap.push { cls := .type "slice", data := .fields #[vl, vu, .none] } }
  exact tail_any (ops := [.ref s3.heap.objs.size, v]) ht hT hg (by with_unfolding_all rfl)
def cutV (xs : List V) (lo hi : Option Int) : List V := (xs.drop (HT.sIx xs.length 0 lo)).take (HT.sIx xs.length xs.length hi - HT.sIx xs.length 0 lo)
theorem cutV_length (xs : List V) (lo hi : Option Int) : (cutV xs lo hi).length ≤ xs.length := by
  unfold cutV
  rw [List.length_take, List.length_drop]
  omega
def rSlT (K : PySem.W.Frag) : V → Option Int → Option Int → Hp → VK → Prop := fun x lo hi H Q => ∃ a xs, x = .ref a ∧ SqT K H a xs ∧
  ¬ (HT.sIx xs.length 0 lo = 0 ∧ HT.sIx xs.length xs.length hi = xs.length) ∧ ∀ p, H p = none → Q (.ref p) (upd H p (.tup (cutV xs lo hi)))
def rLtT (K : PySem.W.Frag) : R2 := fun x y H Q => ∃ a b ns ms, x = .ref a ∧ y = .ref b ∧ SqT K H a (ns.map V.int) ∧ SqT K H b (ms.map V.int) ∧ Q (.bl (HT.lexLt ns ms)) H
def rCatT (K : PySem.W.Frag) : R2 := fun x y H Q => ∃ a b xs ys, x = .ref a ∧ y = .ref b ∧ SqT K H a xs ∧ SqT K H b ys ∧ xs ≠ [] ∧ xs.length + ys.length ≤ sizeLine ∧
  (ys = [] → Q (.ref a) H) ∧ (ys ≠ [] → ∀ p, H p = none → Q (.ref p) (upd H p (.tup (xs ++ ys))))
end
end L2
namespace L2
open PySem PySem.Spec PyProof.Rows
def ixN (n : Nat) (i : Int) : Option Nat := if 0 ≤ i then (if i < n then some i.toNat else none) else if -(n : Int) ≤ i then some (i + n).toNat else none
def atI {α : Type} (xs : List α) (i : Int) : Option α := (ixN xs.length i).bind fun j => xs[j]?
theorem ixN_seq {n : Nat} {i : Int} {j : Nat} (h : ixN n i = some j) : seqIndex? i n = some j ∧ j < n ∧ -(n : Int) ≤ i ∧ i < n := by
  unfold ixN at h
  by_cases h0 : 0 ≤ i
  · rw [if_pos h0] at h
    by_cases h1 : i < n
    · rw [if_pos h1] at h
      have e : i.toNat = j := Option.some.inj h
      exact ⟨by rw [seqIndex_of h0 h1, e], by omega, by omega, h1⟩
    · rw [if_neg h1] at h; cases h
  · rw [if_neg h0] at h
    by_cases h1 : -(n : Int) ≤ i
    · rw [if_pos h1] at h
      have e : (i + n).toNat = j := Option.some.inj h
      exact ⟨by rw [seqIndex_neg (by omega) h1, e], by omega, h1, by omega⟩
    · rw [if_neg h1] at h; cases h
theorem atI_get {α : Type} {xs : List α} {i : Int} {v : α} (h : atI xs i = some v) : ∃ j, seqIndex? i xs.length = some j ∧ xs[j]? = some v ∧ j < xs.length ∧ -(xs.length : Int) ≤ i ∧ i < xs.length := by
  unfold atI at h
  cases e : ixN xs.length i with
  | none => rw [e] at h; cases h
  | some j =>
    rw [e] at h
    obtain ⟨h1, h2, h3, h4⟩ := ixN_seq e
    exact ⟨j, h1, h, h2, h3, h4⟩
theorem atI_nat {α : Type} {xs : List α} {j : Nat} {v : α} (h : xs[j]? = some v) : atI xs (j : Int) = some v := by
  have hj : j < xs.length := (List.getElem?_eq_some_iff.mp h).1
  have e : ixN xs.length (j : Int) = some j := by
    unfold ixN
    rw [if_pos (by omega), if_pos (by omega)]; simp
  unfold atI; rw [e]; exact h
def PlainIx (b : Expr) : Prop := ∀ o i, subscripted b false o i = operate [o, i] (getItem o i)
def IxR (X : Cx) (r : R2) : Prop :=
  ∀ (value slice : Expr) (pins : List (Addr × Obj)) (s : Shared) (σ : St) (H : Hp) (x y : V) (v u : Value) (Q : VK), Inv X pins σ H s → RelV x v → RelV y u → r x y H Q →
    subscripted slice false v u = operate [v, u] (getItem v u) → wpAny (model X.prog X.w) X.A (subscriptTail value slice v u) (EP X pins σ Q) X.xe s
def MtR (X : Cx) (id : String) (r : V → List V → Hp → VK → Prop) : Prop :=
  ∀ (pins : List (Addr × Obj)) (s : Shared) (σ : St) (H : Hp) (x : V) (xs : List V) (v : Value) (us : List Value) (Q : VK), Inv X pins σ H s → RelV x v → Vals xs us → r x xs H Q →
    wpAny (model X.prog X.w) X.A (call (.builtin id) (v :: us)) (EP X pins σ Q) X.xe s
section
variable {X : Cx} {a b : Expr} {ta tb : TE} {pos : Pos}
theorem pe_ix {r : R2} (hr : IxR X r) (ha : PE X a ta) (hb : PE X b tb) (hs : PlainIx b) : PE X (.Subscript a b pos) (tOp r ta tb) := by
  intro pins s σ H Q I h
  exact Subscript_ (binT ha hb I h fun v u s2 x y H2 I2 rx ry q => hr a b pins s2 σ H2 x y v u Q I2 rx ry q (hs _ _))
def rIxL (K : PySem.W.Frag) : R2 := fun x y H Q => ∃ p xs i v, x = .ref p ∧ y = .int i ∧ SqL K H p xs ∧ atI xs i = some v ∧ Q v H
def rIxT (K : PySem.W.Frag) : R2 := fun x y H Q => ∃ p xs i v, x = .ref p ∧ y = .int i ∧ SqT K H p xs ∧ atI xs i = some v ∧ Q v H
def rIxS : R2 := fun x y H Q => ∃ z i c, x = .str z ∧ y = .int i ∧ z.length ≤ sizeLine ∧ atI z.cps.toList i = some c ∧ Q (.str ⟨#[c]⟩) H
theorem ix_list : IxR X (rIxL X.K) := by
  intro value slice pins s σ H x y v u Q I rx ry h hs
  obtain ⟨p, xs, i, z, rfl, rfl, hq, he, q⟩ := h
  cases rx
  obtain ⟨t, rfl⟩ := ry
  obtain ⟨its, r, pl, hz⟩ := I.list hq
  obtain ⟨j, h1, h2, h3, h4, h5⟩ := atI_get he
  obtain ⟨w, ew, rw'⟩ := r.get h2
  have hl := r.length
  have hn := line63
  have fin : EP X pins σ Q w s := ⟨z, H, I, rw', q⟩
  by_cases h0 : 0 ≤ i
  · have hj : i.toNat = j := by
      rw [seqIndex_of h0 h5] at h1
      exact Option.some.inj h1
    exact item_listR pl.isList h0 (by omega) (by rw [hj]; simpa using ew) fin hs
  · have hj : (i + (its.toArray.size : Int)).toNat = j := by
      rw [seqIndex_neg (by omega) h4] at h1
      rw [List.size_toArray, ← hl]
      exact Option.some.inj h1
    exact subscriptTail_builtinR (x := w) pl.isList.typeIs slot_list_getitem.lookup
      (wpAny_getItem_list_neg (Q := fun r s' => r = w ∧ EP X pins σ Q r s') pl.isList (by omega) (by rw [List.size_toArray] <;> omega) (by omega) (by rw [hj]; simpa using ew) ⟨rfl, fin⟩) hs
theorem ix_tup : IxR X (rIxT X.K) := by
  intro value slice pins s σ H x y v u Q I rx ry h hs
  obtain ⟨p, xs, i, z, rfl, rfl, hq, he, q⟩ := h
  cases rx
  obtain ⟨t, rfl⟩ := ry
  obtain ⟨its, r, pl, hz⟩ := I.tuple hq
  obtain ⟨j, h1, h2, h3, h4, h5⟩ := atI_get he
  obtain ⟨w, ew, rw'⟩ := r.get h2
  have hl := r.length
  have hn := line63
  have fin : EP X pins σ Q w s := ⟨z, H, I, rw', q⟩
  exact subscriptTail_builtinR (x := w) pl.typeIs slot_tuple_getitem.lookup
    (getItem_tuple (j := j) (Q := fun r s' => r = w ∧ EP X pins σ Q r s') pl (by omega) (by omega) (by rw [List.size_toArray, ← hl]; exact h1) (by simpa using ew) ⟨rfl, fin⟩) hs
def rIx (K : PySem.W.Frag) : R2 := fun x y H Q => rIxL K x y H Q ∨ rIxT K x y H Q ∨ rIxS x y H Q
theorem mapSeq_set (its : List Value) (n j : Nat) (u : Value) : Obj.mapSeq (·.setIfInBounds j u) { cls := .type "list", data := .seq its.toArray n } = { cls := .type "list", data := .seq (its.set j u).toArray n } := by
  simp [Obj.mapSeq]
theorem Inv.lst {pins : List (Addr × Obj)} {σ : St} {H : Hp} {s : Shared} {p : Addr} {xs : List V} (I : Inv X pins σ H s) (h : H p = some (.lst xs)) :
    ∃ (its : List Value) (n : Nat), Vals xs its ∧ s.heap.get? p = some { cls := .type "list", data := .seq its.toArray n } ∧ xs.length ≤ sizeLine := by
  obtain ⟨z, its, n, r, e⟩ := I.hok p _ h
  exact ⟨its, n, r, e, z⟩
theorem Inv.lstUpd {pins : List (Addr × Obj)} {σ : St} {H : Hp} {s : Shared} {p : Addr} {xs ys : List V} {its its' : List Value} {n n' : Nat} {f : Obj → Obj} (I : Inv X pins σ H s) (h : H p = some (.lst xs))
    (ho : s.heap.get? p = some { cls := .type "list", data := .seq its.toArray n }) (hf : f { cls := .type "list", data := .seq its.toArray n } = { cls := .type "list", data := .seq its'.toArray n' }) (r : Vals ys its') (hz : ys.length ≤ sizeLine) (t : Nat) :
    Inv X pins σ (upd H p (.lst ys)) { s with heap := s.heap.update p f, toks := t } := by
  have e : (s.heap.update p f).get? p = some { cls := .type "list", data := .seq its'.toArray n' } := by
    rw [Heap.get?_update_self f ho (by rw [hf] <;> rfl), hf]
  refine I.write (x := p) (e := p) (by rw [h]; trivial) (.inl rfl) (fun b u hb q => (Heap.get?_update_other _ _ (Ne.symm hb)).trans q) ⟨_, e⟩ ?_
  exact ⟨hz, its', n', r, e⟩
def rSetL : V → V → V → Hp → (Hp → Prop) → Prop := fun o i v H Q => ∃ p xs k j, o = .ref p ∧ i = .int k ∧ H p = some (.lst xs) ∧ ixN xs.length k = some j ∧ Q (upd H p (.lst (xs.set j v)))
theorem set_list : PSet X rSetL := by
  intro pins s σ H o i v ov iv u Q I ro ri rv h
  obtain ⟨p, xs, k, j, rfl, rfl, hp, hj, q⟩ := h
  cases ro
  obtain ⟨t, rfl⟩ := ri
  obtain ⟨its, n, r, ho, hz⟩ := I.lst hp
  obtain ⟨h1, h2, h3, h4⟩ := ixN_seq hj
  have hl := r.length
  have hn := line63
  have I' : Inv X pins σ (upd H p (.lst (xs.set j v))) { s with heap := s.heap.update p (Obj.mapSeq (·.setIfInBounds j u)) } :=
    I.lstUpd hp ho (mapSeq_set its n j u) (r.set rv j) (by rw [List.length_set]; exact hz) s.toks
  by_cases h0 : 0 ≤ k
  · have hk : k.toNat = j := by
      rw [seqIndex_of h0 h4] at h1
      exact Option.some.inj h1
    exact PySem.W.ki_setAt ho h0 (by omega) (by rw [List.size_toArray, ← hl]; exact h4) (by rw [hk]; exact ⟨_, I', q⟩)
  · have hk : (k + (its.toArray.size : Int)).toNat = j := by
      rw [seqIndex_neg (by omega) h3] at h1
      rw [List.size_toArray, ← hl]
      exact Option.some.inj h1
    exact PySem.W.ki_setBack ho (by omega) (by rw [List.size_toArray, ← hl]; exact h3) (by omega) (by rw [hk]; exact ⟨_, I', q⟩)
theorem slice_bounds (lo hi : Option Int) (n : Nat) : (sliceBounds lo hi none n).1 = ((HT.sIx n 0 lo : Nat) : Int) ∧ (sliceBounds lo hi none n).2.1 = ((HT.sIx n n hi : Nat) : Int) ∧ (sliceBounds lo hi none n).2.2 = 1 := by
  refine ⟨?_, ?_, rfl⟩
  · cases lo with
    | none => simp [sliceBounds, HT.sIx]
    | some i =>
      simp only [sliceBounds, HT.sIx, Option.getD_none, show (1 : Int) > 0 by decide, if_true]
      by_cases h : i < 0
      · simp only [h, if_true] <;> omega
      · simp only [h, if_false] <;> omega
  · cases hi with
    | none => simp [sliceBounds, HT.sIx]
    | some i =>
      simp only [sliceBounds, HT.sIx, Option.getD_none, show (1 : Int) > 0 by decide, if_true]
      by_cases h : i < 0
      · simp only [h, if_true] <;> omega
      · simp only [h, if_false] <;> omega
theorem slicePick_cut (its : List Value) (lo hi : Option Int) : slicePick its.toArray lo hi none = ((its.drop (HT.sIx its.length 0 lo)).take (HT.sIx its.length its.length hi - HT.sIx its.length 0 lo)).toArray := by
  obtain ⟨h1, h2, h3⟩ := slice_bounds lo hi its.toArray.size
  unfold slicePick
  rw [h1, h2, h3]
  simp only [sliceRange_one, pick_run, List.size_toArray] <;> rfl
def rSlL (K : PySem.W.Frag) : V → Option Int → Option Int → Hp → VK → Prop := fun x lo hi H Q => ∃ a xs, x = .ref a ∧ SqL K H a xs ∧ ∀ p, H p = none → Q (.ref p) (upd H p (.lst (cutV xs lo hi)))
theorem sl_list : SlR X (rSlL X.K) := by
  intro pins s σ H x v vl vu lo hi sl Q I rx hs pl pu h
  obtain ⟨a, xs, rfl, hx, q⟩ := h
  cases rx
  obtain ⟨its, r, ht, hz⟩ := I.list hx
  have hlen := r.length
  refine ⟨"list", _, slot_list_getitem.lookup, ht.isList.typeIs, ?_⟩
  refine wpAny_getItem_list_slice ht.isList hs pl pu .none (by simp) ?_ (by rw [List.size_toArray] <;> omega)
  rw [slicePick_cut, ← hlen]
  refine ⟨.ref s.heap.objs.size, _, I.laid (t' := s.toks) (o := .lst (cutV xs lo hi)) (fun b ob q => Heap.get?_push_of_some _ q) (Nat.le_refl _) ?_, rfl, q _ (I.hok.fresh (Nat.le_refl _))⟩
  exact ⟨Nat.le_trans (cutV_length xs lo hi) hz, _, 0, (r.drop (HT.sIx xs.length 0 lo)).take (HT.sIx xs.length xs.length hi - HT.sIx xs.length 0 lo), Heap.get?_push_size _ rfl⟩
def flatV : V → Bool
  | .non => true
  | .bl _ => true
  | .int _ => true
  | .str _ => true
  | _ => false
def eqV : V → V → Bool
  | .non, .non => true
  | .bl a, .bl b => a == b
  | .bl a, .int b => (if a then 1 else 0) == b
  | .int a, .bl b => a == (if b then 1 else 0)
  | .int a, .int b => a == b
  | .str a, .str b => a == b
  | _, _ => false
theorem eqAt_V {A : Around} {s : Shared} {y x : V} {u v : Value} (ry : RelV y u) (rx : RelV x v) (fy : flatV y = true) (fx : flatV x = true) : SeqAt.EqAt A s u v (eqV y x) := by
  cases y with
  | non =>
    cases ry
    cases x with
    | non => cases rx; exact SeqAt.EqAt.same _
    | bl b => cases rx; exact SeqAt.EqAt.none_bool b
    | int b => obtain ⟨t, rfl⟩ := rx; exact SeqAt.EqAt.none_int b t
    | str b => obtain ⟨t, rfl⟩ := rx; exact SeqAt.EqAt.none_str b t
    | _ => exact absurd (show false = true from fx) Bool.false_ne_true
  | bl a =>
    cases ry
    cases x with
    | non => cases rx; exact SeqAt.EqAt.bool_none a
    | bl b => cases rx; exact SeqAt.EqAt.bool_bool a b
    | int b => obtain ⟨t, rfl⟩ := rx; exact SeqAt.EqAt.bool_int a b t
    | str b => obtain ⟨t, rfl⟩ := rx; exact SeqAt.EqAt.bool_str a b t
    | _ => exact absurd (show false = true from fx) Bool.false_ne_true
  | int a =>
    obtain ⟨t', rfl⟩ := ry
    cases x with
    | non => cases rx; exact SeqAt.EqAt.int_none a t'
    | bl b => cases rx; exact SeqAt.EqAt.int_bool a t' b
    | int b => obtain ⟨t, rfl⟩ := rx; exact SeqAt.EqAt.int_int a t' b t
    | str b => obtain ⟨t, rfl⟩ := rx; exact SeqAt.EqAt.int_str a t' b t
    | _ => exact absurd (show false = true from fx) Bool.false_ne_true
  | str a =>
    obtain ⟨t', rfl⟩ := ry
    cases x with
    | non => cases rx; exact SeqAt.EqAt.str_none a t'
    | bl b => cases rx; exact SeqAt.EqAt.str_bool a t' b
    | int b => obtain ⟨t, rfl⟩ := rx; exact SeqAt.EqAt.str_int a t' b t
    | str b => obtain ⟨t, rfl⟩ := rx; exact SeqAt.EqAt.str_str a t' b t
    | _ => exact absurd (show false = true from fx) Bool.false_ne_true
  | _ => exact absurd (show false = true from fy) Bool.false_ne_true
def eqU (x : V) (u : Value) : Bool := match u with
  | .none => eqV .non x
  | .bool b => eqV (.bl b) x
  | .int i _ => eqV (.int i) x
  | .str z _ => eqV (.str z) x
  | _ => false
def inV (x : V) (xs : List V) : Bool := xs.any fun y => eqV y x
def rIn (K : PySem.W.Frag) (neg : Bool) : R2 := fun x y H Q => ∃ p xs, y = .ref p ∧ (SqL K H p xs ∨ SqT K H p xs) ∧ flatV x = true ∧ xs.all flatV = true ∧ Q (.bl (if neg then !inV x xs else inV x xs)) H
theorem call_len_seq : CallR X (.builtin "len") (fun xs H Q => ∃ p ys, xs = [.ref p] ∧ (SqL X.K H p ys ∨ SqT X.K H p ys) ∧ Q (.int ys.length) H) := by
  intro pins s σ H xs us Q I r h
  obtain ⟨p, ys, rfl, hq, q⟩ := h
  obtain ⟨u, rfl, rx⟩ := vals1 r
  cases rx
  have hn := line63
  rcases hq with hq | hq
  · obtain ⟨its, r', pl, hz⟩ := I.list hq
    have hlen := r'.length
    exact Calls.call_len_list pl.isList (by simp only [List.size_toArray] <;> omega) ⟨.int ys.length, H, I.tok _, ⟨s.toks + 1, by rw [List.size_toArray, hlen]⟩, q⟩
  · obtain ⟨its, r', pl, hz⟩ := I.tuple hq
    have hlen := r'.length
    exact len_tuple pl (by simp only [List.size_toArray] <;> omega) ⟨.int ys.length, H, I.tok _, ⟨s.toks + 1, by rw [List.size_toArray, hlen]⟩, q⟩
theorem call_list_of : CallR X (.type "list") (fun xs H Q => ∃ p ys, xs = [.ref p] ∧ (SqL X.K H p ys ∨ SqT X.K H p ys) ∧ ∀ l, H l = none → Q (.ref l) (upd H l (.lst ys))) := by
  intro pins s σ H xs us Q I r h
  obtain ⟨p, ys, rfl, hq, q⟩ := h
  obtain ⟨u, rfl, rx⟩ := vals1 r
  cases rx
  have fin : ∀ (its : List Value), Vals ys its → ys.length ≤ sizeLine → ∀ (h' : Heap) (c' : Nat), (∀ b o', s.heap.get? b = some o' → h'.get? b = some o') →
      h'.get? s.heap.objs.size = some { cls := .type "list", dict := none, data := .seq its.toArray c', slots := #[] } → EP X pins σ Q (.ref s.heap.objs.size) { s with heap := h' } := fun its r' hz h' c' kp e =>
    ⟨.ref s.heap.objs.size, _, I.laid (t' := s.toks) kp (Nat.le_refl _) (show ObjOk X.prog X.w _ h' _ (.lst ys) from ⟨hz, its, c', r', e⟩), rfl, q _ (I.hok.fresh (Nat.le_refl _))⟩
  rcases hq with hq | hq
  · obtain ⟨its, r', pl, hz⟩ := I.list hq
    have hlen := r'.length
    obtain ⟨o, ho, hc, n, hd⟩ := pl.isList
    exact call_list_seq p (.inl rfl) ho hc hd (fun h' c' kp e => fin its r' hz h' c' kp e) (by simp only [List.size_toArray] <;> omega)
  · obtain ⟨its, r', pl, hz⟩ := I.tuple hq
    have hlen := r'.length
    obtain ⟨o, ho, hc, n, hd⟩ := pl
    exact call_list_seq p (.inr rfl) ho hc hd (fun h' c' kp e => fin its r' hz h' c' kp e) (by simp only [List.size_toArray] <;> omega)
def tyV (K : PySem.W.Frag) (T : String) (x : V) (H : Hp) : Prop := match x with
  | .str _ => T = "str"
  | .int _ => T = "int"
  | .ref p => (T = "list" ∧ ∃ xs, SqL K H p xs) ∨ (T = "tuple" ∧ ∃ o, K.lookup p = some o ∧ o.cls = .type "tuple" ∧ o.dict = none) ∨
      (T = "dict" ∧ ((∃ kvs, H p = some (.dK kvs)) ∨ ∃ kvs, H p = some (.dT kvs))) ∨ (T = "set" ∧ ∃ S n, H p = some (.set S n))
  | _ => False
theorem tyV_is {pins : List (Addr × Obj)} {σ : St} {H : Hp} {s : Shared} {T : String} {x : V} {v : Value} (I : Inv X pins σ H s) (r : RelV x v) (ty : tyV X.K T x H) :
    s.TypeIs v T ∧ ∀ a, v = .ref a → ∃ ob, s.heap.get? a = some ob ∧ ob.dict = none := by
  cases x with
  | str z =>
    obtain ⟨t, rfl⟩ := r
    cases (show T = "str" from ty)
    exact ⟨typeIs_str s z t, fun _ e => nomatch e⟩
  | int i =>
    obtain ⟨t, rfl⟩ := r
    cases (show T = "int" from ty)
    exact ⟨typeIs_int s i t, fun _ e => nomatch e⟩
  | ref p =>
    cases r
    rcases ty with ⟨rfl, xs, hq⟩ | ⟨rfl, o, hk, hc, hd⟩ | ⟨rfl, hk⟩ | ⟨rfl, S, n, hk⟩
    · obtain ⟨its, _, pl, _⟩ := I.list hq
      refine ⟨pl.isList.typeIs, fun a e => ?_⟩
      cases e
      obtain ⟨o, n, e, c, hd, _⟩ := pl
      exact ⟨o, e, hd⟩
    · refine ⟨⟨o, I.kIn p o hk, hc⟩, fun a e => ?_⟩
      cases e
      exact ⟨o, I.kIn _ o hk, hd⟩
    · have z : ∃ o, s.heap.get? p = some o ∧ o.ExactDict := by
        rcases hk with ⟨kvs, hk⟩ | ⟨kvs, hk⟩
        · obtain ⟨_, _, _, _, o, _, _, e, ex, _⟩ := I.hok p _ hk
          exact ⟨o, e, ex⟩
        · obtain ⟨_, _, _, _, o, _, _, e, ex, _⟩ := I.hok p _ hk
          exact ⟨o, e, ex⟩
      obtain ⟨o, e, ex⟩ := z
      refine ⟨⟨o, e, ex.1⟩, fun a e2 => ?_⟩
      cases e2
      exact ⟨o, e, ex.2.1⟩
    · obtain ⟨o, _, _, _, e, ex, _⟩ := I.hok p _ hk
      refine ⟨⟨o, e, ex.1⟩, fun a e2 => ?_⟩
      cases e2
      exact ⟨o, e, ex.2.1⟩
  | _ => exact False.elim ty
def tBM0 (K : PySem.W.Frag) (T : String) (r : V → List V → Hp → VK → Prop) (to : TE) : TE := fun σ H Q => to σ H fun x H1 => tyV K T x H1 ∧ r x [] H1 Q
def tBM (K : PySem.W.Frag) (T : String) (r : V → List V → Hp → VK → Prop) (to : TE) (t : TA) : TE := fun σ H Q => to σ H fun x H1 => tyV K T x H1 ∧ t σ H1 fun xs H2 => r x xs H2 Q
variable {o e : Expr} {es : List Expr} {to : TE} {t : TA} {name : Str} {apos cpos : Pos} {T id : String} {r : V → List V → Hp → VK → Prop}
theorem pe_bm0 (pa : PlainAttrs T) (slot : Slot T name id) (hty : typeOf (.builtin id) = pure (.type "method_descriptor")) (hm : MtR X id r) (ho : PE X o to)
    (hbase : attributeBase o name X.env (eval o X.env) = eval o X.env := by rfl) (hline : (apos.endLine == cpos.line) = true := by rfl) : PE X (.Call (.Attribute o name apos) [] [] cpos) (tBM0 X.K T r to) := by
  intro pins s σ H Q I h
  refine wpAny_Call_method0_late hbase hline (thn (ho pins s σ H _ I h) fun v s1 ⟨x, H1, I1, r1, ty, q1⟩ => ?_)
  obtain ⟨h1, h2⟩ := tyV_is I1 r1 ty
  exact ⟨T, id, pa, slot, hty, h1, h2, Calls.callWith_builtin rfl (PySem.evalArgs_none (hm pins s1 σ H1 x [] v [] Q I1 r1 .nil q1))⟩
theorem pe_bm (pa : PlainAttrs T) (slot : Slot T name id) (hty : typeOf (.builtin id) = pure (.type "method_descriptor")) (hm : MtR X id r) (ho : PE X o to) (ha : PA X (e :: es) t)
    (hbase : attributeBase o name X.env (eval o X.env) = eval o X.env := by rfl)
    (hfew : ((backTo cpos (starEach (e :: es) X.env)).all (fun x => !x.1) && (backToKw cpos (keywordEach [] X.env)).all (fun x => x.1.isSome)
      && decide ((e :: es).length + ([] : List Keyword).length + (if ([] : List Keyword).isEmpty then 0 else 1) < 30)) = true := by rfl)
    (hline : (apos.endLine == cpos.line) = true := by rfl) (hs : starEach (e :: es) X.env = (false, eval e X.env) :: starEach es X.env := by rfl) (hplain : (backTo cpos (starEach es X.env)).any (·.1) = false := by rfl) :
    PE X (.Call (.Attribute o name apos) (e :: es) [] cpos) (tBM X.K T r to t) := by
  intro pins s σ H Q I h
  refine wpAny_Call_method_late hbase hfew hline rfl (thn (ho pins s σ H _ I h) fun v s1 ⟨x, H1, I1, r1, ty, q1⟩ => ?_)
  obtain ⟨h1, h2⟩ := tyV_is I1 r1 ty
  refine ⟨T, id, pa, slot, hty, h1, h2, ?_⟩
  have hA := ha cpos pins s1 σ H1 _ I1 q1
  rw [hs] at hA ⊢
  refine Calls.callWith_builtin (by show (false || (backTo cpos (starEach es X.env)).any (·.1)) = false; rw [hplain] <;> rfl) (Calls.evalArgs_plain ?_)
  exact thn hA fun us s2 ⟨vs, H2, I2, r2, q2⟩ => hm pins s2 σ H2 x vs v us Q I2 r1 r2 q2
end
end L2
namespace L2
open PySem PySem.Spec PyProof.Rows
def MtM (X : Cx) (id : String) (r : V → List V → Hp → VK → Prop) : Prop :=
  ∀ (pins : List (Addr × Obj)) (s : Shared) (σ : St) (H : Hp) (x : V) (xs : List V) (v : Value) (us : List Value) (Q : VK), Inv X pins σ H s → RelV x v → Vals xs us → r x xs H Q →
    wpAny (model X.prog X.w) X.A (call (.builtin id) (v :: us)) (EP X pins σ Q) X.xe s
theorem Vals.one : ∀ {x : V} {us : List Value}, Vals [x] us → ∃ u, us = [u] ∧ RelV x u
  | _, _, .cons r .nil => ⟨_, rfl, r⟩
theorem Vals.two : ∀ {x y : V} {us : List Value}, Vals [x, y] us → ∃ u v, us = [u, v] ∧ RelV x u ∧ RelV y v
  | _, _, _, .cons r (.cons q .nil) => ⟨_, _, rfl, r, q⟩
theorem Vals.zero : ∀ {us : List Value}, Vals [] us → us = []
  | _, .nil => rfl
theorem Vals.eraseIdx : ∀ {xs : List V} {us : List Value} (i : Nat), Vals xs us → Vals (xs.eraseIdx i) (us.eraseIdx i)
  | _, _, _, .nil => .nil
  | _, _, 0, .cons _ t => t
  | _, _, i + 1, .cons r t => .cons r (Vals.eraseIdx i t)
theorem Vals.reverse {xs : List V} {us : List Value} (h : Vals xs us) : Vals xs.reverse us.reverse := by
  induction h with
  | nil => exact .nil
  | cons r t ih => rw [List.reverse_cons, List.reverse_cons]; exact Vals.append ih (.cons r .nil)
theorem Vals.rep {xs : List V} {us : List Value} (h : Vals xs us) : ∀ k : Nat, Vals (List.replicate k xs).flatten (List.replicate k us).flatten
  | 0 => .nil
  | k + 1 => by
    rw [List.replicate_succ, List.replicate_succ, List.flatten_cons, List.flatten_cons]
    exact Vals.append h (Vals.rep h k)
theorem len_erase {α : Type} : ∀ (l : List α) (i : Nat), (l.eraseIdx i).length ≤ l.length
  | [], _ => Nat.le_refl _
  | _ :: _, 0 => Nat.le_succ _
  | _ :: r, i + 1 => Nat.succ_le_succ (len_erase r i)
theorem foldl_rep (its : List Value) : ∀ (k : Nat) (acc : List Value),
    List.foldl (fun x1 x2 => x1 ++ x2) acc.toArray (List.replicate k its.toArray) = (acc ++ (List.replicate k its).flatten).toArray
  | 0, acc => by simp
  | k + 1, acc => by
    have e : acc.toArray ++ its.toArray = (acc ++ its).toArray := by simp
    have e2 : (acc ++ its) ++ (List.replicate k its).flatten = acc ++ (List.replicate (k + 1) its).flatten := by
      rw [List.replicate_succ, List.flatten_cons, List.append_assoc]
    rw [← e2, ← foldl_rep its k (acc ++ its), ← e, List.replicate_succ, List.foldl_cons]
section
variable {X : Cx} {pins : List (Addr × Obj)} {σ : St} {H : Hp} {s : Shared} {l b : Addr} {xs ys zs : List V}
theorem Inv.lset {its its' : List Value} {n : Nat} {f : Array Value → Array Value} {t' : Nat} (I : Inv X pins σ H s) (hH : H l = some (.lst xs))
    (e : s.heap.get? l = some { cls := .type "list", data := .seq its.toArray n }) (hf : f its.toArray = its'.toArray) (hv : Vals ys its') (hz : ys.length ≤ sizeLine) :
    Inv X pins σ (upd H l (.lst ys)) { s with heap := s.heap.update l (Obj.mapSeq f), toks := t' } := by
  have q := PySem.IsL.update e f
  rw [hf] at q
  refine I.write (x := l) (e := l) (by rw [hH]; exact trivial) (.inl rfl) (fun b' u hb hu => (Heap.get?_update_other s.heap (Obj.mapSeq f) (Ne.symm hb)).trans hu) ⟨_, q⟩ ?_
  exact ⟨hz, its', _, hv, q⟩
theorem Inv.lnew {its : List Value} {t' : Nat} (I : Inv X pins σ H s) (hv : Vals ys its) (hz : ys.length ≤ sizeLine) :
    Inv X pins σ (upd H s.heap.objs.size (.lst ys)) { s with heap := s.heap.push { cls := .type "list", data := .seq its.toArray }, toks := t' } :=
  I.laid (fun _ _ q => Heap.get?_push_of_some _ q) (Nat.le_refl _) ⟨hz, its, 0, hv, Heap.get?_push_size _ rfl⟩
theorem Inv.fresh (I : Inv X pins σ H s) : H s.heap.objs.size = none := I.hok.fresh (Nat.le_refl _)
theorem Inv.lstM (I : Inv X pins σ H s) (hH : H l = some (.lst xs)) : xs.length ≤ sizeLine ∧ ∃ (its : List Value) (n : Nat), Vals xs its ∧ xs.length = its.length ∧ s.heap.get? l = some { cls := .type "list", data := .seq its.toArray n } := by
  obtain ⟨z, its, n, r, e⟩ := I.hok l _ hH
  exact ⟨z, its, n, r, r.length, e⟩
theorem notLongL {n : Nat} (h : n ≤ sizeLine) : Builtin.List.listTooLong n = false := by
  unfold Builtin.List.listTooLong
  exact decide_eq_false (by omega)
end
section
variable {X : Cx}
def rAppend : V → List V → Hp → VK → Prop := fun x vs H Q => ∃ l xs y, x = .ref l ∧ vs = [y] ∧ H l = some (.lst xs) ∧ xs.length < sizeLine ∧ Q .non (upd H l (.lst (xs ++ [y])))
theorem mt_append : MtM X "list.append" rAppend := by
  intro pins s σ H x vs v us Q I rx rv h
  obtain ⟨l, xs, y, rfl, rfl, hH, hz, q⟩ := h
  cases rx
  obtain ⟨u, rfl, ru⟩ := rv.one
  obtain ⟨z, its, n, r, hl, e⟩ := I.lstM hH
  refine call_meets F.slot_list_append ⟨_, e, rfl⟩ F.entry_list_append (F.args_list_append_2 _ _) (PySem.list_append l its.toArray n u (by rw [List.size_toArray]; omega)) ⟨e, ?_⟩
  refine ⟨.non, _, I.lset (its' := its ++ [u]) hH e (by simp) (r.append (.cons ru .nil)) ?_, rfl, q⟩
  rw [List.length_append, List.length_singleton]
  omega
def rExtend : V → List V → Hp → VK → Prop := fun x vs H Q => ∃ l b xs zs, x = .ref l ∧ vs = [.ref b] ∧ H l = some (.lst xs) ∧ H b = some (.lst zs) ∧ xs.length + zs.length ≤ sizeLine ∧ Q .non (upd H l (.lst (xs ++ zs)))
def rPop : V → List V → Hp → VK → Prop := fun x vs H Q => ∃ l xs y, x = .ref l ∧ vs = [] ∧ H l = some (.lst xs) ∧ xs[xs.length - 1]? = some y ∧ Q y (upd H l (.lst xs.dropLast))
def rPopAt : V → List V → Hp → VK → Prop := fun x vs H Q => ∃ l xs i k y, x = .ref l ∧ vs = [.int i] ∧ H l = some (.lst xs) ∧ -(2 ^ 63) ≤ i ∧ i < 2 ^ 63 ∧ seqIndex? i xs.length = some k ∧ xs[k]? = some y ∧ Q y (upd H l (.lst (xs.eraseIdx k)))
theorem mt_popAt : MtM X "list.pop" rPopAt := by
  intro pins s σ H x vs v us Q I rx rv h
  obtain ⟨l, xs, i, k, y, rfl, rfl, hH, h1, h2, hk, hy, q⟩ := h
  cases rx
  obtain ⟨u, rfl, ru⟩ := rv.one
  obtain ⟨t, rfl⟩ := ru
  obtain ⟨z, its, n, r, hl, e⟩ := I.lstM hH
  obtain ⟨w, hw, rw'⟩ := r.get hy
  refine call_meets F.slot_list_pop ⟨_, e, rfl⟩ F.entry_list_pop (F.args_list_pop_2 _ _)
    (MeetsSeq.list_pop_at l its.toArray n i t k w (fitsIndex_both h1 h2) (by rw [List.size_toArray, ← hl]; exact hk) (by rw [← Array.getElem?_toList]; exact hw) (by rw [List.size_toArray]; omega)) ⟨e, ?_⟩
  refine ⟨y, _, I.lset (its' := its.eraseIdx k) hH e ?_ (r.eraseIdx k) ?_, rw', q⟩
  · show its.toArray.eraseIdxIfInBounds k = (its.eraseIdx k).toArray
    rw [List.eraseIdxIfInBounds_toArray]
  · have := len_erase xs k
    omega
def rReverse : V → List V → Hp → VK → Prop := fun x vs H Q => ∃ l xs, x = .ref l ∧ vs = [] ∧ H l = some (.lst xs) ∧ Q .non (upd H l (.lst xs.reverse))
theorem mt_reverse : MtM X "list.reverse" rReverse := by
  intro pins s σ H x vs v us Q I rx rv h
  obtain ⟨l, xs, rfl, rfl, hH, q⟩ := h
  cases rx
  have hus := rv.zero
  subst hus
  obtain ⟨z, its, n, r, hl, e⟩ := I.lstM hH
  refine call_meets F.slot_list_reverse ⟨_, e, rfl⟩ F.entry_list_reverse (F.args_list_reverse_1 _) (AutoSeq1.list_reverse_list_0 l its.toArray n (by rw [List.size_toArray]; omega)) ⟨e, ?_⟩
  refine ⟨.non, _, I.lset (its' := its.reverse) hH e (by simp) r.reverse ?_, rfl, q⟩
  rw [List.length_reverse]
  omega
def rClear : V → List V → Hp → VK → Prop := fun x vs H Q => ∃ l xs, x = .ref l ∧ vs = [] ∧ H l = some (.lst xs) ∧ Q .non (upd H l (.lst []))
def rCat : R2 := fun x y H Q => ∃ l b xs zs, x = .ref l ∧ y = .ref b ∧ H l = some (.lst xs) ∧ H b = some (.lst zs) ∧ xs.length + zs.length ≤ sizeLine ∧ ∀ p, H p = none → Q (.ref p) (upd H p (.lst (xs ++ zs)))
theorem op_cat : OpR X (binaryOp .Add) rCat := by
  intro pins s σ H x y v u Q I rx ry h
  obtain ⟨l, b, xs, zs, rfl, rfl, hH, hB, hz, q⟩ := h
  cases rx
  cases ry
  obtain ⟨z, its, n, r, hl, e⟩ := I.lstM hH
  obtain ⟨z2, its2, n2, r2, hl2, e2⟩ := I.lstM hB
  refine PySem.P.add_list e e2 ?_ (by rw [List.size_toArray, List.size_toArray]; omega)
  have ea : its.toArray ++ its2.toArray = (its ++ its2).toArray := by simp
  rw [ea]
  exact ⟨.ref _, _, I.lnew (t' := s.toks) (r.append r2) (by rw [List.length_append]; omega), rfl, q _ I.fresh⟩
def rRep : R2 := fun x y H Q => ∃ l k xs, x = .ref l ∧ y = .int k ∧ H l = some (.lst xs) ∧ -(2 ^ 63) ≤ k ∧ k < 2 ^ 63 ∧ xs.length * k.toNat ≤ sizeLine ∧
  ∀ p, H p = none → Q (.ref p) (upd H p (.lst (List.replicate k.toNat xs).flatten))
theorem len_rep {α : Type} (xs : List α) (k : Nat) : (List.replicate k xs).flatten.length = k * xs.length := by
  induction k with
  | zero => simp
  | succ k ih => rw [List.replicate_succ, List.flatten_cons, List.length_append, ih, Nat.succ_mul, Nat.add_comm]
theorem op_rep : OpR X (binaryOp .Mult) rRep := by
  intro pins s σ H x y v u Q I rx ry h
  obtain ⟨l, k, xs, rfl, rfl, hH, h1, h2, hz, q⟩ := h
  cases rx
  obtain ⟨t, rfl⟩ := ry
  obtain ⟨z, its, n, r, hl, e⟩ := I.lstM hH
  have hlen : its.toArray.size * k.toNat ≤ sizeLine := by rw [List.size_toArray, ← hl]; exact hz
  have hcap : ¬ its.toArray.size * k.toNat > (2 ^ 63 - 1) / 8 := by
    have : (sizeLine : Nat) ≤ (2 ^ 63 - 1) / 8 := by decide
    omega
  have hfit : ¬ (!Builtin.List.listFitsIndex k) = true := by
    rw [fitsIndex_both h1 h2]
    exact Bool.false_ne_true
  have hlong : ¬ Builtin.List.listTooLong (its.toArray.size * k.toNat) = true := by
    rw [notLongL hlen]
    exact Bool.false_ne_true
  have hnew : List.foldl (fun x1 x2 => x1 ++ x2) #[] (List.replicate (if its.toArray.isEmpty = true then 0 else k.toNat) its.toArray) = (List.replicate k.toNat its).flatten.toArray := by
    have f0 : ∀ m : Nat, List.foldl (fun x1 x2 => x1 ++ x2) #[] (List.replicate m its.toArray) = (List.replicate m its).flatten.toArray := fun m => by
      have := foldl_rep its m []
      rw [List.nil_append] at this
      exact this
    rw [f0]
    cases its with
    | nil => simp
    | cons a r' => rw [if_neg (by simp)]
  refine wpAny_binaryOp_repeat_ref (T := "list") (U := "int") (by decide) ⟨_, e, rfl⟩ (fun s' => typeIs_int s' k t) noFill_list_mul F.fills_int_mul F.slot_int_rmul repeat_list F.slot_int_index.lookup
    (call_meets F.slot_int_rmul (typeIs_int s k t) F.entry_int_rmul (F.args_int_rmul_2 _ _) (int___rmul___int_list k t l its.toArray n)
      ⟨e, rfl, ⟨_, e, rfl⟩, call_meets F.slot_list_mul ⟨_, e, rfl⟩ F.entry_list_mul (F.args_list_mul_2 _ _) (AutoListH.list___mul___list_int_3 l its.toArray n k t hfit hcap hlong) ⟨e, ?_⟩⟩)
  rw [hnew]
  exact ⟨.ref _, _, I.lnew (t' := s.toks) (r.rep k.toNat) (by rw [len_rep, Nat.mul_comm]; exact hz), rfl, q _ I.fresh⟩
end
section
variable {prog : Program} {w : World} {A : Around} {E : Value → Shared → Prop} {s : Shared}
end
section
variable {X : Cx}
end
end L2
namespace Att
open PySem PySem.W PySem.Calls PyProof.Rows
theorem ints_of_wellAll {P : Params} {h : Heap} : ∀ (ns : List Int) (vs : List Value), WellAll P h vs (ns.map WData.int) → IntsAre vs ns := by
  intro ns
  induction ns with
  | nil =>
    intro vs w
    rw [List.map_nil] at w
    cases w
    exact .nil
  | cons n ns ih =>
    intro vs w
    rw [List.map_cons] at w
    cases w with
    | cons a b =>
      cases a
      exact .cons _ _ (ih _ b)
theorem script_of {l : OpenLaw} {n : Nat} (hn : l.most = some n) {P : Params} {h : Heap} {args : List WData} {vals : List Value}
    (hpre : l.row.toRowW.claim.pre args = true) (hwl : WellAll P h vals args) :
    ∃ a vs ns, vals = [Value.ref a] ∧ args = [WData.list (ns.map WData.int)] ∧ h.get? a = some { cls := .type "list", data := .seq vs.toArray } ∧ IntsAre vs ns ∧ ns.length ≤ n := by
  have hsh : WShape.hasAll [] args [.list .int] = true := (pre_splitW hpre).1
  have hc : l.pre.holds [] { args := args } = true := (pre_splitW hpre).2
  obtain ⟨d, r, rfl, h1, h2⟩ := hasAllW_cons hsh
  obtain rfl := hasAllW_nil h2
  obtain ⟨xs, rfl, h3⟩ := hasW_list h1
  obtain ⟨ns, rfl⟩ := items_int h3
  have hlen : ns.length ≤ n := by
    unfold OpenLaw.pre at hc
    have h4 : (WTm.not (.lt (.lit (.int (n : Int))) (.len (.arg 0)))).holds [] { args := [.list (ns.map .int)] } = true := by
      have h4 := (holds_andW hc).1
      rw [hn] at h4
      exact h4
    have h5 := condW_of h4 (w_not (w_lt w_lit (w_len_list (w_arg rfl))))
    rw [List.length_map] at h5
    refine Nat.le_of_not_lt fun q => ?_
    have q' : (n : Int) < ((ns.length : Nat) : Int) := by omega
    first
      | (rw [decide_eq_true q'] at h5; exact absurd h5 (by decide))
      | (simp at h5; omega)
  cases hwl with
  | cons w1 w2 =>
    cases w2
    cases w1 with
    | list ho hall => exact ⟨_, _, ns, rfl, rfl, ho, ints_of_wellAll ns _ hall, hlen⟩
theorem post_true (l : OpenLaw) (args : List WData) : l.row.toRowW.claim.post args (.bool true) args = true :=
  postW_of (r := l.row.toRowW) (X := (true == true))
    (show WShape.has [] (.bool true) .bool = true by first | rfl | decide | simp [WShape.has, WShape.arms, WShape.armsAll])
    (show (WTm.eq .res (.lit (.bool true))).value [] { args := args, res := some (.bool true), after := args } = some (.bool (true == true)) from w_eq_bool (w_res rfl) w_lit) rfl
theorem attach_call {l : OpenLaw} {n : Nat} {q : Program} {loose : List Str} {XP : (Str → Option Value) → Heap → Prop} {YP : World → Heap → Prop} {d : DefRec}
    (hn : l.most = some n) (hdf : d.params.defaults = [])
    (call : ∀ (w : World) (s₀ s₁ : Shared) (mg mb : Str → Option Value) (fa : Addr) (o : Obj) (pm cd doc : Value) (a : Addr) (vs : List Value) (ns : List Int),
      Ground q loose [] XP w s₀ mg mb s₁.heap → YP w s₁.heap →
      s₁.heap.get? fa = some o → o.data = .func (docDef d.name d.params d.body d.scope pm cd doc) → s₁.heap.CodeRec cd d.name → mg d.name = some (.ref fa) →
      s₁.heap.get? a = some { cls := .type "list", data := .seq vs.toArray } → IntsAre vs ns → ns.length ≤ n → s₁.gens = #[] →
      codeAny (model l.prog w) callerA (.call (.ref fa) ⟨[.ref a], []⟩) (fun r s' => r = .ok (.ret (.bool true)) ∧ OldK s₁.heap s'.heap ∧ s'.os = s₁.os ∧ AllBare s'.gens) s₁) :
    WalkO q loose XP YP l.row.toRowW d [] (fun f vs => PySem.call f vs) := by
  intro w s₀ s₁ mg mb G Y fa o pm cd doc dV kV ho hd hcd hD hmg hg args vals as hpre hlay hrd hwl hlo
  obtain rfl : dV = .none := Dflts.none hD hdf
  obtain rfl : kV = .none := Dflts.noKw hD
  obtain ⟨a, vs, ns, rfl, rfl, hobj, hints, hlen⟩ := script_of hn hpre hwl
  refine enter_call (codeAny_mono (call w s₀ s₁ mg mb fa o pm cd doc a vs ns G Y ho (fd_plain hd) hcd hmg hobj hints hlen hg) fun r s' hq => ?_)
  obtain ⟨rfl, h2, h3, h4⟩ := hq
  exact ⟨.inl ⟨.bool true, .bool true, [], rfl, fun _ => rfl, .bool true, post_true l _, fun _ => ⟨List.Pairwise.nil, fun _ hm => (nomatch hm)⟩⟩, h2, h3, h4⟩
section
variable {prog : Program} {w : World} {A : Around} {E : Value → Shared → Prop} {s : Shared} {K : Frag}
def noObjs (h : Heap) : Heap := { h with objs := #[] }
def ledger (h : Heap) (L d : Addr) : List (Addr × Obj) := (List.range h.objs.size).filterMap fun a => if a = L ∨ a = d then none else (h.get? a).map fun o => (a, o)
end
end Att
namespace L2
open PySem PySem.Spec PyProof.Rows
theorem vals_ints : ∀ {vs : List Value} {ns : List Int}, IntsAre vs ns → Vals (ns.map V.int) vs
  | _, _, .nil => .nil
  | _, _, .cons n t h => .cons ⟨t, rfl⟩ (vals_ints h)
def Only (H : Hp) : Prop := ∀ b, H b = none ∨ ∃ o xs, H b = some (.frz o (.lst xs))
theorem law_call {P : Program} {w : World} {K : PySem.W.Frag} {mg mb : Str → Option Value} {CX : CXT} {k : Nat} {fa a : Addr} {fd : FuncData} {x : Str} {sp : Sp} {s₁ : Shared} {vs : List Value} {ns : List Int}
    (KX : K.In s₁.heap) (hns : s₁.heap.Ns mainGlobals mg) (hb : s₁.heap.Ns builtinsNs mb) (hbb : ∀ x : Str, x ≠ "__name__" → mb x = bootBuiltins x) (hlim : s₁.heap.NoLimit) (hg : s₁.gens = #[])
    (ha : s₁.heap.get? a = some { cls := .type "list", data := .seq vs.toArray }) (hi : IntsAre vs ns) (hl : ns.length ≤ sizeLine) (hr : Room k callerA)
    (F : ∀ base : Heap, K.In base → base.Ns mainGlobals mg → FnOk P w K mg base CX k fa fd [x] sp) (hbind : ∀ (s : Shared) (u : Value), BindsTo s fd ⟨[u], []⟩ [(x, u)])
    (hsp : ∀ H : Hp, Only H → SqL K H a (ns.map V.int) → sp [.ref a] H (fun v _ => v = .bl true) fun _ _ _ => False)
    (hCX : ∀ H e s', CX [] H s₁ (fun _ _ _ => False) e s' → False) :
    codeAny (model P w) callerA (.call (.ref fa) ⟨[.ref a], []⟩) (fun r s' => r = .ok (.ret (.bool true)) ∧ OldK s₁.heap s'.heap ∧ s'.os = s₁.os ∧ AllBare s'.gens) s₁ := by
  have rv := vals_ints hi
  have lenV := hi.length
  have core : ∀ H : Hp, Only H → SqL K H a (ns.map V.int) → HOk P w H s₁.heap → (∀ b, H b ≠ none → b = a) → (H a ≠ none → K.lookup a = none) →
      codeAny (model P w) callerA (.call (.ref fa) ⟨[.ref a], []⟩) (fun r s' => r = .ok (.ret (.bool true)) ∧ OldK s₁.heap s'.heap ∧ s'.os = s₁.os ∧ AllBare s'.gens) s₁ := by
    intro H hO hS hok hA hK
    have base_of : ∀ {b : Addr} {o : Obj}, s₁.heap.get? b = some o → H b = none → (hidT s₁.heap H).get? b = some o := fun e n => hidT_get e n
    have noA : ∀ {b : Addr} {o : Obj} {es : Array DictEntry} {ep : Nat}, s₁.heap.get? b = some o → o.data = .dict es ep → H b = none := fun {b o es ep} e d => by
      cases q : H b with
      | none => rfl
      | some u =>
        have e' : b = a := hA b (by rw [q]; simp)
        subst e'
        rw [ha] at e; cases e
        have d' : Data.seq vs.toArray _ = Data.dict es ep := d
        cases d'
    have nsK : ∀ {b : Addr} {m : Str → Option Value}, s₁.heap.Ns b m → (hidT s₁.heap H).Ns b m := fun {b m} ⟨o, es, ep, e, d, r⟩ => ⟨o, es, ep, base_of e (noA e d), d, r⟩
    have hKb : K.In (hidT s₁.heap H) := fun b o e => base_of (KX b o e) (by
      cases q : H b with
      | none => rfl
      | some u =>
        have e' : b = a := hA b (by rw [q]; simp)
        subst e'
        rw [hK (by rw [q]; simp)] at e; cases e)
    have hM : Mod K mg (hidT s₁.heap H) := ⟨hKb, nsK hns, ⟨mb, nsK hb, hbb⟩, let ⟨mc, h1, h2⟩ := hlim; ⟨mc, nsK h1, h2⟩⟩
    have e0 : Env0 P w K mg (hidT s₁.heap H) callerA [] s₁ H := ⟨rfl, hM, fun b o e => of_hidT e, Nat.le_of_eq (hidT_size _ _), trivial, fun b hb => absurd (show b ∈ ([] : List Addr) from hb) (by simp), hok, .of_eq hg⟩
    refine codeAny_mono ((F _ hKb (nsK hns)).run callerA [] s₁ H ⟨[.ref a], []⟩ [.ref a] [.ref a] _ _ hr e0 (hbind s₁ (.ref a)) (.cons rfl .nil) (hsp H hO hS)) fun r s' h => ?_
    cases r with
    | error e => exact (hCX H e s' h).elim
    | ok fl =>
      cases fl with
      | next => exact False.elim h
      | brk => exact False.elim h
      | cont => exact False.elim h
      | ret u =>
        obtain ⟨v, H', os, bare, un, hok', r', q⟩ := h
        have q' : v = .bl true := q
        subst q'
        obtain rfl : u = Value.bool true := r'
        refine ⟨rfl, OldK.of_keep fun b o e => ?_, os, bare⟩
        cases q : H b with
        | none => exact un.keep b o e q (by intro z; exact absurd (show b ∈ ([] : List Addr) from z) (by simp)) (by simp)
        | some u =>
          rcases hO b with z | ⟨ob, xs, z⟩
          · rw [q] at z; cases z
          · have z2 := un.frzs b ob _ z
            obtain ⟨e1, _⟩ := hok b _ z
            obtain ⟨e2, _⟩ := hok' b _ z2
            rw [e] at e1; cases e1
            exact e2
  cases hk : K.lookup a with
  | some o =>
    have e := KX a o hk
    rw [ha] at e
    cases e
    refine core (fun _ => none) (fun _ => .inl rfl) (.inr ⟨_, vs.toArray, _, hk, rfl, rfl, rfl, by rw [List.size_toArray, lenV]; exact hl, by simpa using rv⟩) (fun b u z => by have z' : (none : Option HO) = some u := z; cases z') (fun b z => absurd rfl z) fun z => absurd rfl z
  | none =>
    refine core (fun b => if b = a then some (.frz { cls := .type "list", data := .seq vs.toArray } (.lst (ns.map V.int))) else none) (fun b => ?_) (.inl (.inr ⟨{ cls := .type "list", data := .seq vs.toArray }, if_pos rfl⟩)) (fun b u z => ?_) (fun b z => ?_) fun _ => hk
    · by_cases hb : b = a
      · exact .inr ⟨_, _, if_pos hb⟩
      · exact .inl (if_neg hb)
    · by_cases hb : b = a
      · have z' := (if_pos hb).symm.trans z
        cases z'
        subst hb
        exact ⟨ha, by rw [List.length_map]; exact hl, vs, _, rv, ha⟩
      · have z' := (if_neg hb).symm.trans z
        cases z'
    · by_cases hb : b = a
      · exact hb
      · exact absurd (if_neg hb) z
end L2
namespace L2
open PySem PySem.Spec PyProof.Rows
abbrev KOf {K : PySem.W.Frag} {h : Heap} (_ : K.In h) : PySem.W.Frag := K
theorem walk_of {l : PySem.W.OpenLaw} {n k : Nat} {q : Program} {loose : List Str} {XP : (Str → Option Value) → Heap → Prop} {YP : World → Heap → Prop} {d : DefRec} {K : Params → PySem.W.Frag} {CX : World → CXT} {sp : World → Sp} {x : Str}
    (hn : l.most = some n) (hn2 : n ≤ sizeLine) (hdf : d.params.defaults = []) (hr : Room k callerA)
    (hY : ∀ (w : World) (h : Heap), YP w h → (K w.params).In h)
    (F : ∀ (w : World) (mg : Str → Option Value) (fa : Addr) (h : Heap), (K w.params).In h → h.Ns mainGlobals mg → mg d.name = some (.ref fa) →
      ∃ fd : FuncData, (∀ (s : Shared) (u : Value), BindsTo s fd ⟨[u], []⟩ [(x, u)]) ∧
        ∀ base : Heap, (K w.params).In base → base.Ns mainGlobals mg → FnOk l.prog w (K w.params) mg base (CX w) k fa fd [x] (sp w))
    (hsp : ∀ (w : World) (H : Hp) (a : Addr) (ns : List Int), ns.length ≤ n → Only H → SqL (K w.params) H a (ns.map V.int) → sp w [.ref a] H (fun v _ => v = .bl true) fun _ _ _ => False)
    (hCX : ∀ (w : World) (H : Hp) (s : Shared) (e : Value) (s' : Shared), CX w [] H s (fun _ _ _ => False) e s' → False) :
    PySem.W.WalkO q loose XP YP l.row.toRowW d [] (fun f vs => PySem.call f vs) := by
  refine Att.attach_call hn hdf fun w s₀ s₁ mg mb fa o pm cd doc a vs ns G Y ho hd hcd hmg hobj hints hlen hg => ?_
  have KX := hY w _ Y
  obtain ⟨fd, hb, hF⟩ := F w mg fa _ KX G.T.g hmg
  exact law_call KX G.T.g G.T.b G.T.builtins G.T.nolimit hg hobj hints (Nat.le_trans hlen hn2) hr hF hb (fun H hO hS => hsp w H a ns hlen hO hS) fun H e s' => hCX w H s₁ e s'
end L2
namespace L2
open PySem PySem.Spec PyProof.Rows
def inClass (s : Stmt) (j : Nat) : Stmt := match s with
  | .ClassDef _ _ _ body _ _ _ _ _ _ _ => body.getD j (.Pass ⟨0, 0, 0, 0⟩)
  | _ => .Pass ⟨0, 0, 0, 0⟩
def defArgs (s : Stmt) : Arguments := match s with
  | .FunctionDef _ a _ _ _ _ _ _ _ _ => a
  | _ => { posonlyargs := [], args := [], vararg := none, kwonlyargs := [], kw_defaults := [], kwarg := none, defaults := [] }
def defBody (s : Stmt) : List Stmt := match s with
  | .FunctionDef _ _ b _ _ _ _ _ _ _ => b
  | _ => []
def defScope (s : Stmt) : Scope := match s with
  | .FunctionDef _ _ _ _ _ _ sc _ _ _ => sc
  | _ => { kind := .function, names := [], isGenerator := false, isCoroutine := false }
abbrev CX0 : CXT := fun _ _ _ _ _ _ => False
abbrev E0 : XK := fun _ _ _ => False
theorem pass0 {X : Cx} : Passes CX0 X E0 := fun _ _ _ _ _ _ _ h => h.elim
structure Fun (K : PySem.W.Frag) (x qual : Str) (st : Stmt) (f : Addr) (fd : FuncData) : Prop where
  ex : ∃ (oc : Value) (od : Option Addr) (kV doc pm : Value) (an : Option Addr) (cdv ct : Value) (osl : Array (Option Value)),
    fd = PySem.W.fnOf x qual (defArgs st) (defBody st) (defScope st) .none kV doc pm an cdv ct ∧ K.lookup f = some ⟨oc, od, .func fd, osl⟩ ∧ PySem.W.codeIn K cdv qual = true
  kp : PySem.W.keepIn K (.ref f) = true
section
variable {P : Program} {w : World} {K : PySem.W.Frag} {mg : Str → Option Value} {base : Heap}
theorem Fun.ok {x qual : Str} {st : Stmt} {f : Addr} {fd : FuncData} {N ps : List Str} {k : Nat} {sp : Sp} (F : Fun K x qual st f fd) (S : FnScope N ps (defScope st)) (len : ∀ vs H Q E, sp vs H Q E → vs.length = ps.length)
    (hbody : ∀ (cdv : Value) (A : Around) (outer : List Env) (s : Shared) (H : Hp) (vs : List V) (Q : VK) (E : XK), Room k (A.deeper (envOfC qual (defScope st) s.heap.objs.size f cdv)) → sp vs H Q E →
      ∃ t, PSs (cxOf CX0 P w K mg base N qual (defScope st) f cdv A outer s H E).nox (defBody st) t ∧ t { nx := fun _ H' => Q .non H', rt := Q } (start N vs) H) : FnOk P w K mg base CX0 (k + 1) f fd ps sp := by
  obtain ⟨oc, od, kV, doc, pm, an, cdv, ct, osl, rfl, lk, hcd⟩ := F.ex
  refine fn_of lk hcd S len fun A outer s H vs Q E hr hsp => ?_
  obtain ⟨t, h, q⟩ := hbody cdv A outer s H vs Q E hr hsp
  exact ⟨t, h.nox, q⟩
theorem Fun.binds {x qual : Str} {st : Stmt} {f : Addr} {fd : FuncData} {ps : List Str} (F : Fun K x qual st f fd)
    (h : ∀ (kV doc pm : Value) (an : Option Addr) (cdv ct : Value) (us : List Value), us.length = ps.length → bindArgs (PySem.W.fnOf x qual (defArgs st) (defBody st) (defScope st) .none kV doc pm an cdv ct) ⟨us, []⟩ = pure (ps.zip us)) : Binds K fd ps [] := by
  obtain ⟨oc, od, kV, doc, pm, an, cdv, ct, osl, rfl, lk, hcd⟩ := F.ex
  exact .all (h kV doc pm an cdv ct)
theorem fun_mk {x qual : Str} {st : Stmt} {f : Addr} {oc : Value} {od an : Option Addr} {osl : Array (Option Value)} {kV doc pm cdv ct : Value} (l : K.lookup f = some ⟨oc, od, .func (PySem.W.fnOf x qual (defArgs st) (defBody st) (defScope st) .none kV doc pm an cdv ct), osl⟩)
    (c : PySem.W.codeIn K cdv qual = true) (k : PySem.W.keepIn K (.ref f) = true) : Fun K x qual st f (PySem.W.fnOf x qual (defArgs st) (defBody st) (defScope st) .none kV doc pm an cdv ct) := ⟨⟨oc, od, kV, doc, pm, an, cdv, ct, osl, rfl, l, c⟩, k⟩
end
section
variable {X : Cx}
theorem pv (i : Nat) {x : Str} {pos : Pos} (hN : X.N[i]? = some x := by rfl) (hv : Vis X.env.scope x := by first | exact Or.inl rfl | exact Or.inr (Or.inl rfl) | exact Or.inr (Or.inr rfl)) (hd : (x == ("__debug__" : Str)) = false := by decide)
    (hcd : (x == ("__classdict__" : Str)) = false := by decide) : PE X (.Name x pos) (tVar i) := pe_var hN hv hd hcd
end
def Same (H H' : Hp) : Prop := ∀ b o, H b = some o → H' b = some o
theorem Same.refl (H : Hp) : Same H H := fun _ _ h => h
theorem Same.trans {H H1 H2 : Hp} (a : Same H H1) (b : Same H1 H2) : Same H H2 := fun c o h => b c o (a c o h)
theorem Same.free {H H' : Hp} (e : Same H H') {l : Addr} (h : H' l = Option.none) : H l = Option.none := by
  cases q : H l with
  | none => rfl
  | some o =>
    rw [e l o q] at h
    cases h
theorem Same.seq {K : PySem.W.Frag} {H H' : Hp} {a : Addr} {xs : List V} (e : Same H H') (h : SqL K H a xs) : SqL K H' a xs := by
  rcases h with (h | ⟨o, h⟩) | h
  · exact .inl (.inl (e _ _ h))
  · exact .inl (.inr ⟨o, e _ _ h⟩)
  · exact .inr h
end L2
namespace L2
open PySem PySem.Spec PyProof.Rows
section
variable {X : Cx}
def Fits (i : Int) : Prop := i.natAbs.log2 < 9000
theorem Fits.of_le {i j : Int} (h : i.natAbs ≤ j.natAbs) (f : Fits j) : Fits i := by
  unfold Fits at *
  by_cases z : i.natAbs = 0
  · rw [z]; decide
  · have h2 : j.natAbs ≠ 0 := by omega
    exact (Nat.log2_lt z).mpr (Nat.lt_of_le_of_lt h ((Nat.log2_lt h2).mp f))
theorem Fits.of_lt {i : Int} {k : Nat} (hk : k ≤ 9000) (h : i.natAbs < 2 ^ k) : Fits i := by
  unfold Fits
  by_cases z : i.natAbs = 0
  · rw [z]; decide
  · exact Nat.lt_of_lt_of_le ((Nat.log2_lt z).mpr h) hk
theorem Fits.small {i : Int} (h0 : -1000000000000000000 ≤ i) (h1 : i ≤ 1000000000000000000) : Fits i := Fits.of_lt (k := 64) (by decide) (by omega)
theorem Fits.bits {i : Int} (h : Fits i) : Builtin.Int.intBits i ≤ 9000 := by
  unfold Builtin.Int.intBits
  split
  · exact Nat.zero_le _
  · unfold Fits at h
    omega
theorem mulOk {i j : Int} (h1 : Fits i) (h2 : Fits j) : IntMulOk i j := by
  have b1 := h1.bits
  have b2 := h2.bits
  unfold IntMulOk Builtin.Int.intTooBig
  have e : bitsLine = 134217728 := rfl
  intro h
  simp only [Bool.and_eq_true, decide_eq_true_eq, e] at h
  omega
theorem op_mulB : OpR X (binaryOp .Mult) (rI (fun i j => Fits i ∧ Fits j) fun i j => .int (i * j)) := opI fun _ _ _ _ _ _ _ hc q => mul_int q (mulOk hc.1 hc.2)
theorem op_fdivB : OpR X (binaryOp .FloorDiv) (rI (fun _ j => 0 < j ∧ Fits j) fun i j => .int (i / j)) := opI fun i j _ _ _ _ _ hc q => by
  have h1 : (0 : Int) < j := hc.1
  exact floordiv_int (by omega) (by rw [Int.fdiv_eq_ediv_of_nonneg i (by omega)]; exact q) (.inl (PyProof.noPylong_of_log2 hc.2))
theorem eqVs_get {ns ms : List Int} {us ws : List Value} {A : Around} {s : Shared} (r1 : Vals (ns.map V.int) us) (r2 : Vals (ms.map V.int) ws) (j : Nat) (h1 : j < us.toArray.size) (h2 : j < ws.toArray.size) :
    SeqAt.EqAt A s us.toArray[j] ws.toArray[j] (decide (ns[j]? = ms[j]?)) := by
  have l1 := r1.length
  have l2 := r2.length
  rw [List.length_map] at l1 l2
  rw [List.size_toArray] at h1 h2
  have e1 : ns[j]? = some ns[j] := List.getElem?_eq_getElem (by omega)
  have e2 : ms[j]? = some ms[j] := List.getElem?_eq_getElem (by omega)
  obtain ⟨u, hu, ru⟩ := r1.get (i := j) (x := V.int ns[j]) (by rw [List.getElem?_map, e1]; rfl)
  obtain ⟨w, hw, rw'⟩ := r2.get (i := j) (x := V.int ms[j]) (by rw [List.getElem?_map, e2]; rfl)
  have eu : us.toArray[j] = u := by
    rw [List.getElem?_eq_getElem h1] at hu
    simpa using Option.some.inj hu
  have ew : ws.toArray[j] = w := by
    rw [List.getElem?_eq_getElem h2] at hw
    simpa using Option.some.inj hw
  rw [eu, ew]
  have q := eqAt_V (A := A) (s := s) ru rw' rfl rfl
  have e : decide (ns[j]? = ms[j]?) = eqV (V.int ns[j]) (V.int ms[j]) := by
    rw [e1, e2]
    show _ = (ns[j] == ms[j])
    rw [Bool.eq_iff_iff]
    simp
  rw [e]
  exact q
theorem all_eq {ns ms : List Int} (h : ns.length = ms.length) : (List.range ns.length).all (fun j => decide (ns[j]? = ms[j]?)) = decide (ns = ms) := by
  rw [Bool.eq_iff_iff, List.all_eq_true, decide_eq_true_eq]
  constructor
  · intro q
    apply List.ext_getElem? 
    intro j
    by_cases hj : j < ns.length
    · simpa using q j (List.mem_range.mpr hj)
    · rw [List.getElem?_eq_none (by omega), List.getElem?_eq_none (by omega)]
  · intro e j _
    rw [e]
    simp
def rEqI (K : PySem.W.Frag) : R2 := fun x y H Q => ∃ p q, ∃ ns ms : List Int, x = .ref p ∧ y = .ref q ∧ SqL K H p (ns.map V.int) ∧ SqL K H q (ms.map V.int) ∧ Q (.bl (decide (ns = ms))) H
def rNeI (K : PySem.W.Frag) : R2 := fun x y H Q => ∃ p q, ∃ ns ms : List Int, x = .ref p ∧ y = .ref q ∧ SqL K H p (ns.map V.int) ∧ SqL K H q (ms.map V.int) ∧ Q (.bl (!decide (ns = ms))) H
end
end L2
namespace L2
open PySem PySem.Spec PyProof.Rows
def clsOf (env : Env) : List (Str × NameKind) → List (Str × Addr) → List (Str × Addr)
  | [], acc => acc
  | (n, k) :: r, acc => clsOf env r (if k == .free then (n, (env.cells.lookup n).getD 0) :: acc else acc)
theorem clsOf_mem {env : Env} {y : Str} {c : Addr} : ∀ {names : List (Str × NameKind)} {acc : List (Str × Addr)}, (∀ n, (n, NameKind.free) ∈ names → ∃ c, env.cells.lookup n = some c) → (clsOf env names acc).lookup y = some c →
    acc.lookup y = some c ∨ env.cells.lookup y = some c
  | [], acc, _, h => .inl h
  | (n, k) :: r, acc, hf, h => by
    have hr : ∀ n, (n, NameKind.free) ∈ r → ∃ c, env.cells.lookup n = some c := fun n hn => hf n (List.mem_cons_of_mem _ hn)
    rcases clsOf_mem hr h with q | q
    · by_cases hk : (k == NameKind.free) = true
      · rw [if_pos hk] at q
        have ek : k = .free := by simpa using hk
        subst ek
        obtain ⟨c', hc'⟩ := hf n List.mem_cons_self
        rw [hc'] at q
        rw [List.lookup_cons] at q
        split at q
        · rename_i e
          have e' : y = n := by simpa using e
          right
          rw [e', hc']
          exact q
        · exact .inl q
      · rw [if_neg hk] at q
        exact .inl q
    · exact .inr q
theorem clsOf_has {env : Env} {y : Str} : ∀ {names : List (Str × NameKind)} {acc : List (Str × Addr)}, ((y, NameKind.free) ∈ names ∨ ∃ c, acc.lookup y = some c) → ∃ c, (clsOf env names acc).lookup y = some c
  | [], acc, h => by
    rcases h with h | h
    · cases h
    · exact h
  | (n, k) :: r, acc, h => by
    show ∃ c, (clsOf env r (if k == .free then (n, (env.cells.lookup n).getD 0) :: acc else acc)).lookup y = some c
    refine clsOf_has (names := r) ?_
    by_cases hk : (k == NameKind.free) = true
    · rw [if_pos hk]
      by_cases e : y = n
      · refine .inr ⟨(env.cells.lookup n).getD 0, ?_⟩
        rw [List.lookup_cons]
        have : (y == n) = true := by simpa using e
        rw [this]
      · rcases h with h | ⟨c, h⟩
        · rcases List.mem_cons.mp h with q | q
          · exact absurd (congrArg Prod.fst q) e
          · exact .inl q
        · refine .inr ⟨c, ?_⟩
          rw [List.lookup_cons]
          have : (y == n) = false := by simpa using e
          rw [this]
          exact h
    · rw [if_neg hk]
      rcases h with h | h
      · rcases List.mem_cons.mp h with q | q
        · have : k = .free := (congrArg Prod.snd q).symm
          exact absurd (by simpa using this) hk
        · exact .inl q
      · exact .inr h
theorem closure_cls {scope : Scope} {env : Env} (hf : ∀ n, (n, NameKind.free) ∈ scope.names → ∃ c, env.cells.lookup n = some c) : closureFor scope env = pure (clsOf env scope.names []) := by
  unfold closureFor
  have gen : ∀ (names : List (Str × NameKind)) (acc : List (Str × Addr)), (∀ n, (n, NameKind.free) ∈ names → ∃ c, env.cells.lookup n = some c) →
      (forIn names acc fun x cs => (match x with | (name, kind) => if (kind == NameKind.free) = true then do let a ← cellOf env name; pure (ForInStep.yield ((name, a) :: cs)) else pure (ForInStep.yield cs) : Sem (ForInStep (List (Str × Addr))))) = pure (clsOf env names acc) := by
    intro names
    induction names with
    | nil => intro acc _; rfl
    | cons x r ih =>
      intro acc h
      obtain ⟨n, k⟩ := x
      rw [List.forIn_cons]
      by_cases hk : (k == NameKind.free) = true
      · have ek : k = .free := by simpa using hk
        subst ek
        obtain ⟨c, hc⟩ := h n List.mem_cons_self
        have e : cellOf env n = pure c := by unfold cellOf; rw [hc]
        simp only [beq_self_eq_true, if_true, e, pure_bind]
        rw [ih _ fun n hn => h n (List.mem_cons_of_mem _ hn)]
        simp only [clsOf, beq_self_eq_true, if_true, hc, Option.getD_some]
      · have hk' : (k == NameKind.free) = false := by simpa using hk
        simp only [hk', Bool.false_eq_true, if_false, pure_bind]
        have q := ih acc fun n hn => h n (List.mem_cons_of_mem _ hn)
        refine Eq.trans q ?_
        simp only [clsOf, hk', Bool.false_eq_true, if_false]
  have q := gen scope.names [] hf
  show (forIn scope.names ([] : List (Str × Addr)) _ >>= fun cs => pure cs) = _
  rw [bind_pure]
  exact q
theorem lookup_map_kind {g : Str → NameKind → NameKind} {y : Str} : ∀ names : List (Str × NameKind), (names.map fun p => (p.1, g p.1 p.2)).lookup y = (names.lookup y).map (g y)
  | [] => rfl
  | (n, k) :: r => by
    rw [List.map_cons, List.lookup_cons, List.lookup_cons, lookup_map_kind r]
    by_cases e : y = n
    · subst e
      simp
    · have : (y == n) = false := by simpa using e
      rw [this]
theorem relabel_lookup {scope : Scope} {env : Env} {y : Str} : (relabel scope env).names.lookup y = (scope.names.lookup y).map fun k => if (k == .free && env.scope.kind == .function && env.kindOf y == some .cell) then .cell else k := by
  have e : (relabel scope env).names = scope.names.map fun p => (p.1, if (p.2 == .free && env.scope.kind == .function && env.kindOf p.1 == some .cell) then .cell else p.2) := by
    show scope.names.map _ = _
    refine List.map_congr_left fun p _ => ?_
    obtain ⟨n, k⟩ := p
    show (if (k == NameKind.free && env.scope.kind == .function && env.kindOf n == some .cell) = true then (n, NameKind.cell) else (n, k)) = _
    split <;> rfl
  rw [e]
  exact lookup_map_kind (g := fun n k => if (k == .free && env.scope.kind == .function && env.kindOf n == some .cell) then .cell else k) scope.names
section
variable {prog : Program} {w : World} {A : Around} {R : Result → Shared → Prop} {s : Shared}
theorem compLoop_go {elt target iter : Expr} {ifs : List Expr} {scope : Scope} {pos : Pos} {it acc : Value} {env : Env} (I : Nat → Shared → Prop)
    (turn : ∀ n s, I n s → wpAny (model prog w) A (pyNext it) (fun r s₁ => match r with
      | none => R (.ok .next) s₁
      | some v => wpAny (model prog w) A (letOwnedTupleGo target it v) (fun _ s₁' => wpAny (model prog w) A (assign target env v) (fun _ s₂ =>
          wpAny (model prog w) A (forIn ifs true fun c r => if r = true then do let ok ← isTrue c env (eval c env); pure (ForInStep.yield ok) else pure (ForInStep.yield r)) (fun ok s₃ =>
            if ok = true then wpAny (model prog w) A (eval elt env) (fun x s₄ =>
              wpAny (model prog w) A (call (.builtin "list.append") [acc, x]) (fun _ s₅ => ∃ m, m < n ∧ I m s₅) (fun _ _ => False) s₄) (fun _ _ => False) s₃
            else ∃ m, m < n ∧ I m s₃) (fun _ _ => False) s₂) (fun _ _ => False) s₁') (fun _ _ => False) s₁) (fun _ _ => False) s)
    (n : Nat) (h : I n s) :
    codeAny (model prog w) A (.compLoop (.ListComp elt [⟨target, iter, ifs, 0⟩] scope pos) 0 it acc env) R s := by
  refine codeAny_loop rfl I (fun n s hI => ?_) n h
  show wpAny _ A ((compTurn (.ListComp elt [⟨target, iter, ifs, 0⟩] scope pos) 0 it acc env).onRaise (fun x => do noteFrame x env; theTreesLotGoes x)) _ _ s
  refine wpAny_noted ?_
  rw [compTurn_list]
  refine wpAny_bind (wpAny_standAt (wpAny_bind (wpAny_mono (turn n s hI) (fun r s₁ h₁ => ?_) fun _ _ h' => h'.elim)))
  cases r with
  | none => exact wpAny_pure h₁
  | some v =>
    refine wpAny_bind (wpAny_mono h₁ (fun _ s₁' h₁' => ?_) fun _ _ h' => h'.elim)
    refine wpAny_bind (wpAny_mono h₁' (fun _ s₂ h₂ => wpAny_bind (wpAny_mono h₂ (fun ok s₃ h₃ => ?_) fun _ _ h' => h'.elim)) fun _ _ h' => h'.elim)
    cases ok with
    | false => exact wpAny_pure ⟨rfl, h₃⟩
    | true =>
      exact wpAny_bind (wpAny_bind (wpAny_mono h₃ (fun x s₄ h₄ => wpAny_bind (wpAny_mono h₄ (fun _ s₅ h₅ => wpAny_pure (wpAny_pure ⟨rfl, h₅⟩)) fun _ _ h' => h'.elim)) fun _ _ h' => h'.elim))
end
end L2
namespace L2
open PySem PySem.Spec PyProof.Rows
def cxComp (X : Cx) (scope : Scope) (C : Addr) (N : List Str) (s : Shared) (H : Hp) (fp : List Addr) : Cx :=
  { X with N := N, s₀ := s, H₀ := H, env := compEnvC scope (clsOf X.env scope.names []) C X.env, outer := X.stack, ex := fp, fn := fun _ => false, pn := [], xe := fun _ _ => False }
def PIfs (X : Cx) (ifs : List Expr) (t : TT) : Prop :=
  ∀ (pins : List (Addr × Obj)) (s : Shared) (σ : St) (H : Hp) (Q : Bool → Hp → Prop), Inv X pins σ H s → t σ H Q →
    wpAny (model X.prog X.w) X.A (forIn ifs true fun c r => if r = true then do let ok ← isTrue c X.env (eval c X.env); pure (ForInStep.yield ok) else pure (ForInStep.yield r)) (TP X pins σ Q) X.xe s
def tYes : TT := fun _ H Q => Q true H
theorem pifs_nil {X : Cx} : PIfs X [] tYes := fun pins s σ H Q I h => wpAny_tests_nil ⟨H, I, h⟩
theorem pifs_one {X : Cx} {c : Expr} {t : TT} (h : PT X c t) : PIfs X [c] t := fun pins s σ H Q I hq => wpAny_tests_one (h pins s σ H Q I hq)
def capt (is : List Nat) (σ : St) : St := is.map fun i => (σ[i]?).getD none
structure CompScope (X : Cx) (scope : Scope) (x : Str) (ns : List Str) (is : List Nat) : Prop where
  kind : scope.kind = .function
  nocell : ∀ y ∈ scope.names, y.2 ≠ .cell
  names : ∀ y ∈ scope.names, y.2 = .local → scope.names.lookup y.1 = some .local
  own : scope.names.lookup x = some .local
  nd : (x :: ns).Nodup
  free : ∀ n, (n, NameKind.free) ∈ scope.names → X.env.kindOf n = some .cell ∨ X.env.kindOf n = some .free
  slots : ∀ (j : Nat) (y : Str), ns[j]? = some y → ∃ i, is[j]? = some i ∧ X.N[i]? = some y ∧ (X.env.kindOf y = some .cell ∨ X.env.kindOf y = some .free) ∧ scope.names.lookup y = some .free
  len : ns.length = is.length
section
variable {X : Cx} {pins : List (Addr × Obj)} {σ : St} {H : Hp} {s : Shared} {scope : Scope} {x : Str} {ns : List Str} {is : List Nat}
theorem CompScope.closes (S : CompScope X scope x ns is) (ok : X.Ok) : ∀ n, (n, NameKind.free) ∈ scope.names → ∃ c, X.env.cells.lookup n = some c := fun n hn => ok.has n (S.free n hn)
theorem CompScope.cell (S : CompScope X scope x ns is) (ok : X.Ok) {y : Str} {c : Addr} (h : (clsOf X.env scope.names []).lookup y = some c) : X.env.cells.lookup y = some c := by
  rcases clsOf_mem (S.closes ok) h with q | q
  · cases q
  · exact q
theorem CompScope.kindOf (S : CompScope X scope x ns is) {y : Str} (h : (relabel scope X.env).names.lookup y = some .cell ∨ (relabel scope X.env).names.lookup y = some .free) : scope.names.lookup y = some .free := by
  rw [relabel_lookup] at h
  cases e : scope.names.lookup y with
  | none => rw [e] at h; rcases h with h | h <;> cases h
  | some k =>
    rw [e] at h
    have nc : k ≠ .cell := S.nocell (y, k) (PySem.mem_of_lookup e)
    by_cases hk : k = .free
    · rw [hk]
    · have hb : (k == NameKind.free) = false := by simpa using hk
      simp only [hb, Bool.false_and, Option.map_some] at h
      rcases h with h | h
      · exact absurd (Option.some.inj h) nc
      · exact absurd (Option.some.inj h) hk
theorem comp_ok (S : CompScope X scope x ns is) (I : Inv X pins σ H s) {C : Addr} {fp : List Addr} (hC : s.heap.objs.size ≤ C) (hf : ∀ b ∈ fp, FpOk X pins H b) (ho : ∀ b ∈ fp, ∃ o, s.heap.get? b = some o) (N : List Str) : (cxComp X scope C N s H fp).Ok where
  mod := I.ok.mod
  kind := S.kind
  glob := I.ok.glob
  blt := I.ok.blt
  above := hC
  inj := fun y z c h1 h2 => I.ok.inj y z c (S.cell I.ok h1) (S.cell I.ok h2)
  has := fun y hy => clsOf_has (.inl (PySem.mem_of_lookup (S.kindOf hy)))
  cab := fun y c h _ => by cases h
  hd := I.ok.hd
  frames := I.ok.frames
  stk := .inl rfl
  exf := fun b hb => ⟨by obtain ⟨o, e⟩ := ho b hb; exact Nat.ne_of_lt (Nat.lt_of_lt_of_le (Heap.lt_size e) hC), fun y c h => (hf b hb).2.2.2.2.1 y c (S.cell I.ok h)⟩
  bs := I.bs
  bsz := Nat.le_trans I.ok.bsz I.sz
  noex := fun b o e hb => by
    rcases (hf b hb).2.2.2.1 with z | z
    · exact I.ok.noex b o e z
    · exact absurd (Nat.lt_of_lt_of_le (Nat.lt_of_lt_of_le (Heap.lt_size e) I.ok.bsz) z) (Nat.lt_irrefl _)
  exfs := fun b hb z => by
    rcases List.mem_cons.mp (I.stkSub b z) with q | q
    · exact (hf b hb).2.1 q
    · exact (hf b hb).2.2.1 q
  funs := I.stack
  frf := I.stkFree
def lobj (us : List Value) (n : Nat) : Obj := { cls := .type "list", data := .seq us.toArray n }
theorem comp_start (S : CompScope X scope x ns is) (I : Inv X pins σ H s) {C D : Addr} {fp : List Addr} {h1 : Heap} {t' : Nat} (hC : s.heap.objs.size ≤ C) (hD : s.heap.objs.size ≤ D) (hCD : D ≠ C) (hf : ∀ b ∈ fp, FpOk X pins H b)
    (ho : ∀ b ∈ fp, ∃ o, s.heap.get? b = some o) (keep : ∀ b o, s.heap.get? b = some o → h1.get? b = some o) (hns : h1.Ns C fun _ => none) (hacc : h1.get? D = some (lobj [] 0)) :
    Inv (cxComp X scope C (x :: ns) s H fp) [(D, lobj [] 0)] (none :: capt is σ) H { s with heap := h1, toks := t' } := by
  refine ⟨comp_ok S I hC hf ho _, rfl, I.bare, Un.kept keep, ⟨_, hns, ?_⟩, fun y c h => ?_, I.hok.fresh hC, fun y c h => I.freeC y c (S.cell I.ok h), ?_, I.hok.kept keep, ?_⟩
  · intro j y v h1' h2 h3
    cases j with
    | zero => rw [List.getElem?_cons_zero] at h2; cases h2
    | succ j =>
      have h1' : ns[j]? = some y := h1'
      obtain ⟨i, hi, hN, hk, hfree⟩ := S.slots j y h1'
      have h2 : (capt is σ)[j]? = some (some v) := h2
      unfold capt at h2
      rw [List.getElem?_map, hi] at h2
      have h2 : (σ[i]?).getD none = some v := Option.some.inj h2
      have h2' : σ[i]? = some (some v) := by
        cases e : σ[i]? with
        | none => rw [e] at h2; cases h2
        | some o => rw [e] at h2; exact congrArg some h2
      obtain ⟨m, hn, hl⟩ := I.loc
      have vis : Vis X.env.scope y := .inr hk
      obtain ⟨u, r, l⟩ := hl i y v hN h2' vis
      refine ⟨u, r, .inr ⟨?_, ?_⟩⟩
      · show (relabel scope X.env).names.lookup y = some .cell ∨ (relabel scope X.env).names.lookup y = some .free
        rw [relabel_lookup, hfree]
        by_cases q : (X.env.scope.kind == .function && X.env.kindOf y == some .cell) = true
        · left; simp only [Option.map_some, beq_self_eq_true, Bool.true_and, q, if_true]
        · right; simp only [Option.map_some, beq_self_eq_true, Bool.true_and, q, if_false]; simp
      · rcases l with ⟨k, _⟩ | ⟨_, c, e, z⟩
        · rcases hk with q | q
          · rw [k] at q; cases q
          · rw [k] at q; cases q
        · obtain ⟨c', e'⟩ := clsOf_has (env := X.env) (y := y) (names := scope.names) (acc := []) (.inl (PySem.mem_of_lookup hfree))
          have q := S.cell I.ok e'
          rw [e] at q
          cases q
          obtain ⟨o, eo, d⟩ := z
          exact ⟨c, e', o, keep _ _ eo, d⟩
  · obtain ⟨v, o, eo, d⟩ := I.cell y c (S.cell I.ok h)
    exact ⟨v, o, keep _ _ eo, d⟩
  · intro p hp
    have e : p = (D, lobj [] 0) := by simpa using (show p ∈ [(D, lobj [] 0)] from hp)
    subst e
    refine ⟨hacc, I.hok.fresh hD, hCD, fun z => ?_, fun v z => by cases z⟩
    obtain ⟨_, o, eo, _⟩ := I.stack.mem z
    exact absurd (Nat.lt_of_lt_of_le (Heap.lt_size eo) hD) (Nat.lt_irrefl _)
  · show ((none : Option V) :: capt is σ).length = (x :: ns).length
    unfold capt
    simp [S.len]
theorem comp_append {Y : Cx} {τ : St} {G : Hp} {s1 : Shared} {D : Addr} {us : List Value} {n : Nat} {u : Value} {pl : List (Addr × Obj)} {Q : Value → Shared → Prop} {E : Value → Shared → Prop} (J : Inv Y ((D, lobj us n) :: pl) τ G s1) (hz : us.length < sizeLine)
    (hD : Y.s₀.heap.objs.size ≤ D) (hpl : ∀ p ∈ Y.pn ++ pl, p.1 ≠ D) (hQ : ∀ s2 n2, Inv Y ((D, lobj (us ++ [u]) n2) :: pl) τ G s2 → Q .none s2) : wpAny (model Y.prog Y.w) Y.A (call (.builtin "list.append") [.ref D, u]) Q E s1 := by
  obtain ⟨e, hn, hL, hfs, _⟩ := J.pin (D, lobj us n) (List.mem_append_right _ List.mem_cons_self)
  have e : s1.heap.get? D = some { cls := .type "list", data := .seq us.toArray n } := e
  refine call_meets F.slot_list_append ⟨_, e, rfl⟩ F.entry_list_append (F.args_list_append_2 _ _) (PySem.list_append D us.toArray n u (by rw [List.size_toArray]; omega)) ⟨e, ?_⟩
  have q := PySem.IsL.update e (·.push u)
  have ep : us.toArray.push u = (us ++ [u]).toArray := by simp
  rw [ep] at q
  have J0 : Inv Y pl τ G s1 := J.pins_of fun p hp => J.pin p (List.mem_append_right _ (List.mem_cons_of_mem _ hp))
  have J1 := J0.turned (it := D) (t' := s1.toks) (h' := s1.heap.update D (Obj.mapSeq (·.push u))) (fun b o hb eb => (Heap.get?_update_other s1.heap _ (Ne.symm hb)).trans eb) hn hL (.inr hD)
    (fun y c hc z => by
      obtain ⟨v, o, eo, d⟩ := J.cell y c hc
      rw [z, e] at eo
      cases eo
      cases d) (fun p hp => hpl p hp)
  refine hQ _ (if ((us ++ [u]).toArray.size == us.toArray.size) = true then n else n + 1) (J1.pins_of fun p hp => ?_)
  rcases List.mem_cons.mp hp with rfl | hp
  · exact ⟨q, hn, hL, hfs, fun v z => by cases z⟩
  · exact J1.pin p (List.mem_append_right _ hp)
end
end L2
namespace L2
open PySem PySem.Spec PyProof.Rows
theorem Un.track {fs ex : List Addr} {H G : Hp} {h h' : Heap} {D : Addr} {o : HO} (u : Un fs ex H G h h') (hG : G D = none) (hD : h.get? D = none) : Un fs ex H (upd G D o) h h' where
  keep := u.keep
  slot := u.slot
  free := fun b ob e n hx => by
    rw [upd_ne (fun z => by rw [z, hD] at e; cases e)]
    exact u.free b ob e n hx
  there := u.there
  tups := fun b xs e => by
    have q := u.tups b xs e
    rw [upd_ne (ne_of_none q hG)]
    exact q
  frzs := fun b ob w e => by
    have q := u.frzs b ob w e
    rw [upd_ne (ne_of_none q hG)]
    exact q
  tbls := fun b ps e => by
    obtain ⟨more, q⟩ := u.tbls b ps e
    exact ⟨more, by rw [upd_ne (ne_of_none q hG)]; exact q⟩
theorem HOk.track {P : Program} {w : World} {G : Hp} {h : Heap} {D : Addr} {o : HO} (ok : HOk P w G h) (hG : G D = none) (new : ObjOk P w (upd G D o) h D o) : HOk P w (upd G D o) h := fun b u e => by
  by_cases hb : b = D
  · subst hb
    rw [upd_same] at e
    cases e
    exact new
  · rw [upd_ne hb] at e
    exact (ok b u e).stay (fun _ _ _ q => q) (fun c q => by rw [upd_ne (ne_of_none q hG)]; exact q) fun c xs q => by rw [upd_ne (ne_of_none q hG)]; exact q
section
variable {X : Cx} {pins : List (Addr × Obj)} {σ : St} {H : Hp} {s : Shared} {scope : Scope} {x : Str} {ns : List Str} {is : List Nat} {elt iter : Expr} {ifs : List Expr} {px pos : Pos} {tt : TT} {te : TE} {J : It} {fp : List Addr} {it : Addr} {tn : Nat → Heap → Prop}
theorem comp_block (S : CompScope X scope x ns is) (hc : X.calm = true) (I : Inv X pins σ H s) (T : Turn X.prog X.w X.K (.Name x px) J fp it tn) (st : tn 0 s.heap) (hf : ∀ b ∈ fp, FpOk X pins H b)
    (hb1 : ∀ C s H fp, PIfs (cxComp X scope C (x :: ns) s H fp) ifs tt) (hb2 : ∀ C s H fp, PE (cxComp X scope C (x :: ns) s H fp) elt te)
    (W : Nat → Nat → List V → Hp → Prop) (Fin : List V → Hp → Prop) {m0 : Nat} (w0 : W 0 m0 [] H)
    (turn : ∀ i m ys G, W i m ys G → ys.length < sizeLine ∧ ((J.stop i G ∧ Fin ys G) ∨ (J.go i G ∧ ∃ N : List V → Hp → Prop, (∀ ys' H', N ys' H' → ∃ m', m' < m ∧ W (i + 1) m' ys' H') ∧ ∀ v H3, J.yld i G v H3 → tt (some v :: capt is σ) H3 fun b H4 =>
      if b = true then te (some v :: capt is σ) H4 fun y H5 => N (ys ++ [y]) H5 else N ys H4)))
    {E : Value → Shared → Prop} {RR : Value → Addr → Result → Shared → Prop}
    (hRR : ∀ (D C : Addr) (s' : Shared) (G : Hp) (ys : List V), G D = none → Inv X pins σ (upd G D (.lst ys)) s' → (∃ m, s'.heap.Ns C m) → (upd G D (.lst ys)) C = none → C ≠ X.env.locals → X.s₀.heap.objs.size ≤ C →
      (∀ y c, X.env.cells.lookup y = some c → c ≠ C) → (∀ p ∈ X.pn ++ pins, p.1 ≠ C) → Fin ys G → RR (.ref D) C (.ok .next) s') :
    wpAny (model X.prog X.w) X.A (newList []) (fun acc s₃ => wpAny (model X.prog X.w) X.A (newFunctionEnv scope X.env.globals (clsOf X.env scope.names []) [] X.env.qual none .none (some X.env)) (fun cenv s₄ =>
      codeAny (model X.prog X.w) X.A (.compStart (.ListComp elt [⟨.Name x px, iter, ifs, 0⟩] scope pos) 0 (.ref it) acc { cenv with scope := relabel scope X.env }) (RR acc cenv.locals) s₄) E s₃) E s := by
  refine wpAny_newObj_type (wpAny_newFunctionEnv S.nocell (by intro y hy; simp at hy) (fun h₁ hns₁ hsb₁ => ?_) S.kind)
  dsimp only at hns₁ hsb₁ ⊢
  generalize hH2 : s.heap.push { cls := .type "list", dict := none, data := .seq ([] : List Value).toArray } = H2 at hns₁ hsb₁ ⊢
  have hC : H2.objs.size = s.heap.objs.size + 1 := by rw [← hH2, Heap.size_push]
  have hDC : s.heap.objs.size ≠ H2.objs.size := by rw [hC]; exact Nat.ne_of_lt (Nat.lt_succ_self _)
  have hCle : s.heap.objs.size ≤ H2.objs.size := by rw [hC]; exact Nat.le_succ _
  have below : ∀ b, b < s.heap.objs.size → b ≠ H2.objs.size := fun b hb => by rw [hC]; exact Nat.ne_of_lt (Nat.lt_succ_of_lt hb)
  have old : ∀ b o, s.heap.get? b = some o → h₁.get? b = some o := fun b o e => hsb₁.extBut b o (below b (Heap.lt_size e)) (Heap.get?_push_of_some _ (hH2 ▸ Heap.get?_push_of_some _ e))
  have hacc : h₁.get? s.heap.objs.size = some (lobj [] 0) := hsb₁.extBut _ _ hDC (Heap.get?_push_of_some _ (hH2 ▸ Heap.get?_push_size _ rfl))
  have hns₁' : h₁.Ns H2.objs.size fun _ => none := hns₁
  have ho : ∀ b ∈ fp, ∃ o, s.heap.get? b = some o := fun b hb => by obtain ⟨o, e, _⟩ := T.obj 0 _ st b hb; exact ⟨o, e⟩
  have hlt : ∀ b ∈ fp, b < s.heap.objs.size := fun b hb => by obtain ⟨o, e⟩ := ho b hb; exact Heap.lt_size e
  have freshD : s.heap.get? s.heap.objs.size = none := Heap.get?_none_of_le (Nat.le_refl _)
  have st₁ : tn 0 h₁ := T.keep 0 _ _ st fun b _ o e => old b o e
  have loop : ∀ s₃ : Shared, s₃ = { s with heap := h₁, toks := s.toks + ([] : List (Str × Value)).length } →
      codeAny (model X.prog X.w) X.A (.compLoop (.ListComp elt [⟨.Name x px, iter, ifs, 0⟩] scope pos) 0 (.ref it) (.ref s.heap.objs.size) (compEnvC scope (clsOf X.env scope.names []) H2.objs.size X.env))
        (RR (.ref s.heap.objs.size) H2.objs.size) s₃ := by
    rintro s₃ rfl
    let Y := cxComp X scope H2.objs.size (x :: ns) s H fp
    have J0 : Inv Y [(s.heap.objs.size, lobj [] 0)] (none :: capt is σ) H { s with heap := h₁, toks := s.toks + ([] : List (Str × Value)).length } := comp_start S I hCle (Nat.le_refl _) hDC hf ho old hns₁' hacc
    have fpY : ∀ {G : Hp} {us : List Value} {k : Nat}, (∀ b ∈ fp, G b = none) → ∀ b ∈ fp, FpOk Y [(s.heap.objs.size, lobj us k)] G b := fun {G us k} hn b hb => by
      refine ⟨hn b hb, below b (hlt b hb), (comp_ok S I hCle hf ho (x :: ns)).exfs b hb, .inl hb, fun y c h => (hf b hb).2.2.2.2.1 y c (S.cell I.ok h), fun p hp => ?_⟩
      have e : p = (s.heap.objs.size, lobj us k) := by simpa using (show p ∈ [(s.heap.objs.size, lobj us k)] from hp)
      rw [e]
      exact Nat.ne_of_gt (hlt b hb)
    refine compLoop_go (fun n s' => ∃ (i : Nat) (ys : List V) (us : List Value) (k : Nat) (G : Hp) (v0 : Option V), Inv Y [(s.heap.objs.size, lobj us k)] (v0 :: capt is σ) G s' ∧ Vals ys us ∧ tn i s'.heap ∧ (∀ b ∈ fp, G b = none) ∧ W i n ys G) ?_ m0
      ⟨0, [], [], 0, H, none, J0, .nil, st₁, fun b hb => (hf b hb).1, w0⟩
    rintro n s' ⟨i, ys, us, k, G, v0, J1, rv, st1, fr1, w1⟩
    obtain ⟨hz, hcase⟩ := turn i n ys G w1
    rcases hcase with ⟨stop, fin⟩ | ⟨go, N, hN, step⟩
    · refine wpAny_mono (T.done Y rfl rfl rfl hc i _ s' _ G (fun _ _ => False) J1 (fpY fr1) st1 stop) (fun r s1 h1 => ?_) fun _ _ z => z
      obtain ⟨hr, J2⟩ := h1
      subst hr
      obtain ⟨eD, hGD, _⟩ := J2.pin (s.heap.objs.size, lobj us k) (List.mem_append_right _ List.mem_cons_self)
      have hok : HOk X.prog X.w (upd G s.heap.objs.size (.lst ys)) s1.heap := HOk.track J2.hok hGD ⟨Nat.le_of_lt hz, us, k, rv, eD⟩
      have un : Un (frs X.stack) fp H (upd G s.heap.objs.size (.lst ys)) s.heap s1.heap := Un.track (show Un (frs X.stack) fp H G s.heap s1.heap from J2.base) hGD freshD
      have IX : Inv X pins σ (upd G s.heap.objs.size (.lst ys)) s1 := I.call' (ch := fp) J2.os un hok J2.bare fun b hb => ⟨(hf b hb).2.2.2.1, (hf b hb).2.1, (hf b hb).2.2.2.2.1, (hf b hb).2.2.2.2.2⟩
      obtain ⟨m, hm, _⟩ := J2.loc
      refine hRR _ _ s1 G ys hGD IX ⟨m, hm⟩ ?_ (Nat.ne_of_gt (Nat.lt_of_lt_of_le I.lt hCle)) (Nat.le_trans I.sz hCle) (fun y c h z => ?_) (fun p hp z => ?_) fin
      · rw [upd_ne (Ne.symm hDC)]
        exact J2.free
      · obtain ⟨v, q⟩ := I.cell y c h
        exact absurd (Nat.lt_of_lt_of_le q.lt (by rw [z]; exact hCle)) (Nat.lt_irrefl _)
      · exact absurd (Nat.lt_of_lt_of_le (Heap.lt_size (I.pin p hp).1) (by rw [z]; exact hCle)) (Nat.lt_irrefl _)
    · refine wpAny_mono (T.item Y rfl rfl rfl hc i _ s' _ G (fun _ _ => False) J1 (fpY fr1) st1 go) (fun r s1 h1 => ?_) fun _ _ z => z
      obtain ⟨u, hr, h4⟩ := h1
      subst hr
      refine wpAny_mono h4 (fun _ s5 h5 => ?_) fun _ _ z => z
      obtain ⟨v, H5, J5, r5, y5, st5, fr5⟩ := h5
      have J5' := J5.pinned (fpY fr5) (T.obj _ _ st5)
      have own : Y.env.scope.names.lookup x = some .local := lookup_relabel_local S.own
      refine wpAny_mono (pg_name (X := Y) (i := 0) (pos := px) S.nd rfl (.inl own) (.inr own) _ s5 _ H5 v u (fun σ6 H6 => σ6 = some v :: capt is σ ∧ H6 = H5) J5' r5 ⟨rfl, rfl⟩) (fun _ s6 h6 => ?_) fun _ _ z => z
      obtain ⟨σ6, H6, J6, rfl, rfl⟩ := h6
      refine wpAny_mono (hb1 H2.objs.size s H fp _ s6 _ _ _ J6 (step v _ y5)) (fun ok s7 h7 => ?_) fun _ _ z => z
      obtain ⟨H7, J7, q7⟩ := h7
      have again : ∀ {G9 : Hp} {s9 : Shared} {us9 : List Value} {k9 : Nat} {τ : Option V}, Inv Y ((s.heap.objs.size, lobj us9 k9) :: pinsAt fp s5.heap) (τ :: capt is σ) G9 s9 →
          Inv Y [(s.heap.objs.size, lobj us9 k9)] (τ :: capt is σ) G9 s9 ∧ tn (i + 1) s9.heap ∧ ∀ b ∈ fp, G9 b = none := fun {G9 s9 us9 k9 τ} J9 => by
        refine ⟨J9.pins_of fun p hp => J9.pin p (List.mem_append_right _ (by rcases List.mem_cons.mp hp with e | e; exact e ▸ List.mem_cons_self; cases e)), T.keep _ _ _ st5 fun b hb o e => (J9.pin (b, o) (List.mem_append_right _ (List.mem_cons_of_mem _ (mem_pinsAt hb e)))).1, fun b hb => ?_⟩
        obtain ⟨o, e, d⟩ := T.obj _ _ st5 b hb
        exact (J9.pin (b, o) (List.mem_append_right _ (List.mem_cons_of_mem _ (mem_pinsAt hb e)))).2.1
      cases ok with
      | false =>
        rw [if_neg Bool.false_ne_true] at q7
        obtain ⟨m', hm, w7⟩ := hN _ _ q7
        obtain ⟨J8, t8, f8⟩ := again J7
        exact ⟨m', hm, i + 1, ys, us, k, H7, some v, J8, rv, t8, f8, w7⟩
      | true =>
        rw [if_pos rfl] at q7
        refine wpAny_mono (hb2 H2.objs.size s H fp _ s7 _ _ _ J7 q7) (fun z s8 h8 => ?_) fun _ _ z => z
        obtain ⟨y, H8, J8, r8, q8⟩ := h8
        obtain ⟨m', hm, w8⟩ := hN _ _ q8
        refine comp_append (Y := Y) (pl := pinsAt fp s5.heap) J8 (by have := rv.length; omega) (Nat.le_refl _) (fun p hp => ?_) fun s9 n9 J9 => ?_
        · obtain ⟨hb, _⟩ := of_pinsAt (show p ∈ pinsAt fp s5.heap from hp)
          exact Nat.ne_of_lt (hlt p.1 hb)
        · obtain ⟨J9', t9, f9⟩ := again J9
          exact ⟨m', hm, i + 1, ys ++ [y], us ++ [z], n9, H8, some v, J9', rv.append (.cons r8 .nil), t9, f9, w8⟩
  exact codeAny_compStart_list (loop _ rfl) (T.self X.A 0 _ _ _ st₁ (loop _ rfl))
def tComp (wi : TI) (tt : TT) (te : TE) (is : List Nat) : TE := fun σ H Q => wi σ H fun J H1 => ∃ W : Nat → Nat → List V → Hp → Prop, (∃ m, W 0 m [] H1) ∧ ∀ i m ys G, W i m ys G → ys.length < sizeLine ∧
  ((J.stop i G ∧ ∀ l, G l = none → Q (.ref l) (upd G l (.lst ys))) ∨
   (J.go i G ∧ ∃ N : List V → Hp → Prop, (∀ ys' H', N ys' H' → ∃ m', m' < m ∧ W (i + 1) m' ys' H') ∧ ∀ v H3, J.yld i G v H3 → tt (some v :: capt is σ) H3 fun b H4 => if b = true then te (some v :: capt is σ) H4 fun y H5 => N (ys ++ [y]) H5 else N ys H4))
theorem pe_comp {wi : TI} (S : CompScope X scope x ns is) (hc : X.calm = true) (hi : PI X (.Name x px) iter wi) (hb1 : ∀ C s H fp, PIfs (cxComp X scope C (x :: ns) s H fp) ifs tt) (hb2 : ∀ C s H fp, PE (cxComp X scope C (x :: ns) s H fp) elt te)
    (hs : ∀ x, foldedSetIterable iter X.env x = pure x := by intro _; rfl) : PE X (.ListComp elt [⟨.Name x px, iter, ifs, 0⟩] scope pos) (tComp wi tt te is) := by
  intro pins s σ H Q I h
  rw [eval_ListComp]
  refine wpAny_comprehension_free (use := none) rfl hs (closure_cls (S.closes I.ok)) S.kind S.names (thn (hi pins s σ H _ I h) fun v s1 h1 => thn h1 fun itv s2 h2 => ?_)
  obtain ⟨it, fp, tn, J, H2, e, I2, T, st2, f2, W, ⟨m0, w0⟩, turn⟩ := h2
  subst e
  refine comp_block S hc I2 T st2 f2 hb1 hb2 W (fun ys G => ∀ l, G l = none → Q (.ref l) (upd G l (.lst ys))) w0 turn (RR := fun acc C => compPost (model X.prog X.w) X.A X.xe none (EP X pins σ Q) acc C) ?_
  intro D C s' G ys hD I' hn hCn hL h0 hcl hp fin
  obtain ⟨m, hm⟩ := hn
  exact ⟨m, hm, fun h' sb => ⟨.ref D, _, I'.turned (it := C) (t' := s'.toks) (fun b o hb e => (sb.2 b hb).trans e) hCn hL (.inr h0) hcl hp, rfl, fin D hD⟩⟩
theorem ps_setComp {wi : TI} {y : Str} {py spos : Pos} {j : Nat} (hN : X.N.Nodup) (hj : X.N[j]? = some y) (hy : Loc X.env.scope y) (S : CompScope X scope x ns is) (hc : X.calm = true) (hi : PI X (.Name x px) iter wi) (hb1 : ∀ C s H fp, PIfs (cxComp X scope C (x :: ns) s H fp) ifs tt) (hb2 : ∀ C s H fp, PE (cxComp X scope C (x :: ns) s H fp) elt te)
    (hsw : swapsWith (.ListComp elt [⟨.Name x px, iter, ifs, 0⟩] scope pos) (some (.Name y py)) spos.line X.env = pure true := by rfl)
    (hs : ∀ x, foldedSetIterable iter X.env x = pure x := by intro _; rfl) (hfn : X.fn y = true ∨ X.env.scope.names.lookup y = some .local := by first | exact .inl rfl | exact .inr rfl | assumption) :
    PS X (.Assign [.Name y py] (.ListComp elt [⟨.Name x px, iter, ifs, 0⟩] scope pos) spos) (tAsg (tComp wi tt te is) (gName j)) := by
  intro pins s σ H D I h
  rw [exec_Assign_Name_used _ _ _ _ hsw]
  refine wpAny_bind (wpAny_standAt (wpAny_bind ?_))
  show wpAny _ X.A (do let _ ← comprehension (.ListComp elt [⟨.Name x px, iter, ifs, 0⟩] scope pos) scope X.env _ (newList []) false (eval iter X.env) (some (assign (.Name y py) X.env))) _ _ s
  refine wpAny_bind (wpAny_mono (wpAny_comprehension_free (use := some (assign (.Name y py) X.env)) (Q := fun _ s' => SP X pins D .next s') rfl hs (closure_cls (S.closes I.ok)) S.kind S.names
    (thn (hi pins s σ H _ I h) fun v s1 h1 => thn h1 fun itv s2 h2 => ?_)) (fun _ s' hq => wpAny_pure (wpAny_pure hq)) fun _ _ e => e)
  obtain ⟨it, fp, tn, J, H2, e, I2, T, st2, f2, W, ⟨m0, w0⟩, turn⟩ := h2
  subst e
  refine comp_block S hc I2 T st2 f2 hb1 hb2 W (fun ys G => ∀ l, G l = none → D.nx (σ.set j (some (.ref l))) (upd G l (.lst ys))) w0 turn (RR := fun acc C => compPost (model X.prog X.w) X.A X.xe (some (assign (.Name y py) X.env)) (fun _ s' => SP X pins D .next s') acc C) ?_
  intro L C s' G ys hD I' hn hCn hL h0 hcl hp fin
  obtain ⟨m, hm⟩ := hn
  show wpAny _ X.A (assign (.Name y py) X.env (.ref L)) _ _ _
  refine wpAny_assign_Name (store_ok2 I' hN hj hy (v := .ref L) rfl (fun s3 I3 hsb => ?_) hfn)
  obtain ⟨a, sb, ha⟩ := hsb
  have hCa : C ≠ a := by
    rcases ha with z | z
    · rw [z]; exact hL
    · exact fun q => hcl y a z q.symm
  refine ⟨m, hm.sameBut sb hCa, fun h' sb' => ⟨_, _, I3.turned (it := C) (t' := s3.toks) (fun b o hb e => (sb'.2 b hb).trans e) hCn hL (.inr h0) hcl hp, fin L hD⟩⟩
end
end L2
namespace L2
open PySem PySem.Spec PyProof.Rows
section
variable {X : Cx}
theorem ints_of_vals : ∀ {ns : List Int} {us : List Value}, Vals (ns.map V.int) us → ∃ xs : Array (Int × Tok), us.toArray = intItems xs ∧ xs.toList.map (·.1) = ns
  | [], _, .nil => ⟨#[], by simp [intItems], rfl⟩
  | n :: ns, _, .cons r t => by
    obtain ⟨tk, rfl⟩ := r
    obtain ⟨xs, e1, e2⟩ := ints_of_vals t
    refine ⟨#[(n, tk)] ++ xs, ?_, ?_⟩
    · unfold intItems at *
      rw [Array.map_append, ← e1]
      simp
    · simp [e2]
theorem preSum_take (ns : List Int) (val : Nat → Int) (h : ∀ i, i < ns.length → val i = ns.getD i 0) : ∀ k, k ≤ ns.length → preSum val k = (ns.take k).sum
  | 0, _ => by simp [preSum]
  | k + 1, hk => by
    rw [preSum, preSum_take ns val h k (by omega), h k (by omega), List.take_add_one, List.sum_append, List.getElem?_eq_getElem (by omega)]
    simp [List.getD, List.getElem?_eq_getElem (show k < ns.length by omega)]
theorem call_sum_int (hc : X.calm = true) : CallR X (.builtin "sum") (fun xs H Q => ∃ p, ∃ ns : List Int, xs = [.ref p] ∧ SqL X.K H p (ns.map V.int) ∧ Q (.int ns.sum) H) := by
  intro pins s σ H xs us Q I r h
  obtain ⟨p, ns, rfl, hq, q⟩ := h
  obtain ⟨u, rfl, rx⟩ := vals1 r
  cases rx
  obtain ⟨its, rv, pl, hz⟩ := I.list hq
  obtain ⟨xs, e1, e2⟩ := ints_of_vals rv
  have hli : s.heap.IsList p (intItems xs) := by rw [← e1]; exact pl.isList
  refine sum_intListG (I.ok.hd hc) hli fun h' tk t' hk => ?_
  refine ⟨.int _, H, I.kept (t' := tk) (h' := h') hk, ⟨t', ?_⟩, q⟩
  congr 1
  have hl : xs.size = ns.length := by rw [← e2]; simp
  rw [hl, preSum_take ns (numAt xs) (fun i hi => ?_) ns.length (Nat.le_refl _), List.take_length]
  unfold numAt
  rw [← e2]
  simp [List.getD]
end
end L2
namespace L2
open PySem PySem.Spec PyProof.Rows
theorem bt_int : bootBuiltins "int" = some (.type "int") := by decide +kernel
theorem bt_list : bootBuiltins "list" = some (.type "list") := by decide +kernel
theorem bt_reversed : bootBuiltins "reversed" = some (.type "reversed") := by decide +kernel
theorem bt_len : bootBuiltins "len" = some (.builtin "len") := by decide +kernel
theorem bt_isinstance : bootBuiltins "isinstance" = some (.builtin "isinstance") := by decide +kernel
theorem bt_max : bootBuiltins "max" = some (.builtin "max") := by decide +kernel
theorem bt_min : bootBuiltins "min" = some (.builtin "min") := by decide +kernel
theorem bt_sum : bootBuiltins "sum" = some (.builtin "sum") := by decide +kernel
section
variable {σ : St} {H : Hp} {Q : VK} {ta tb te : TE} {i j : Int} {v x y : V} {D : Ends}
theorem rd_var {k : Nat} (h : σ[k]? = some (some v)) (q : Q v H) : tVar k σ H Q := ⟨v, h, q⟩
theorem rd_C (q : Q v H) : tC v σ H Q := q
theorem rd_op {r : R2} (q : ta σ H fun x H1 => tb σ H1 fun y H2 => r x y H2 Q) : tOp r ta tb σ H Q := q
theorem rd_I0 {g : Int → Int → V} (q : Q (g i j) H) : rI0 g (.int i) (.int j) H Q := ⟨i, j, rfl, rfl, q⟩
theorem rd_I {C : Int → Int → Prop} {g : Int → Int → V} (c : C i j) (q : Q (g i j) H) : rI C g (.int i) (.int j) H Q := ⟨i, j, rfl, rfl, c, q⟩
theorem rd_un {r : V → Hp → VK → Prop} (q : ta σ H fun x H1 => r x H1 Q) : tUn r ta σ H Q := q
theorem rd_U {g : Int → V} (q : Q (g i) H) : rU g (.int i) H Q := ⟨i, rfl, q⟩
theorem rd_test {R : Bool → Hp → Prop} (q : ta σ H fun x H' => ∃ k, x = .bl k ∧ R k H') : tTest ta σ H R := q
theorem rd_tB {R : Bool → Hp → Prop} (q : ta σ H fun x H' => ∃ k, x = .bl k ∧ R k H') : tB ta σ H R := q
theorem rd_bl {k : Bool} {R : Bool → Prop} (q : R k) : ∃ k', V.bl k = .bl k' ∧ R k' := ⟨k, rfl, q⟩
theorem rd_eqI (q : Q (.bl (decide (i = j))) H) : rEq (.int i) (.int j) H Q := by
  refine ⟨rfl, ?_⟩
  have e : decide (V.int i = V.int j) = decide (i = j) := by
    rw [Bool.eq_iff_iff]
    simp
  rw [e]
  exact q
theorem rd_neI (q : Q (.bl (!decide (i = j))) H) : rNe (.int i) (.int j) H Q := by
  refine ⟨rfl, ?_⟩
  have e : decide (V.int i = V.int j) = decide (i = j) := by
    rw [Bool.eq_iff_iff]
    simp
  rw [e]
  exact q
theorem rd_and {t u : TT} {R : Bool → Hp → Prop} (q : t σ H fun c H1 => if c = true then u σ H1 R else R false H1) : tAnd t u σ H R := q
theorem rd_or {t u : TT} {R : Bool → Hp → Prop} (q : t σ H fun c H1 => if c = true then R true H1 else u σ H1 R) : tOr t u σ H R := q
theorem rd_not {t : TT} {R : Bool → Hp → Prop} (q : t σ H fun c H1 => R (!c) H1) : tNot t σ H R := q
theorem rd_andV (q : ta σ H fun x H1 => ∃ c, x = .bl c ∧ if c = true then tb σ H1 Q else Q (.bl false) H1) : tAndV ta tb σ H Q := q
theorem rd_seq {t u : TS} (q : t { D with nx := u D } σ H) : tSeq t u D σ H := q
theorem rd_ret (q : te σ H D.rt) : tRet te D σ H := q
theorem rd_drop (q : te σ H fun _ H1 => D.nx σ H1) : tDrop te D σ H := q
theorem rd_ifS {c : TT} {t u : TS} (q : c σ H fun b H1 => if b = true then t D σ H1 else u D σ H1) : tIfS c t u D σ H := q
theorem rd_next (q : D.nx σ H) : tNext D σ H := q
theorem rd_asg {g : TG} (q : te σ H fun x H1 => g x σ H1 D.nx) : tAsg te g D σ H := q
theorem rd_gName {k : Nat} {R : St → Hp → Prop} (q : R (σ.set k (some v)) H) : gName k v σ H R := q
theorem rd_call {sp : Sp} {dvs : List V} {E : XK} {t : TA} (q : t σ H fun vs H1 => sp (vs ++ dvs) H1 Q E) : tCall sp dvs E t σ H Q := q
theorem rd_cons {tr : TA} {R : List V → Hp → Prop} (q : ta σ H fun x H1 => tr σ H1 fun xs H2 => R (x :: xs) H2) : tCons ta tr σ H R := q
theorem rd_nil {R : List V → Hp → Prop} (q : R [] H) : tNil σ H R := q
theorem rd_CB {r : List V → Hp → VK → Prop} {t : TA} (q : t σ H fun vs H1 => r vs H1 Q) : tCB r t σ H Q := q
theorem rd_fld {K : PySem.W.Frag} {f : Str} (q : ta σ H fun x H1 => ∃ a C dx fs v, x = .ref a ∧ H1 a = some (.ins C dx fs) ∧ Cls K C ∧ NoAttr K C f ∧ fs.lookup f = some v ∧ Q v H1) : tFld K ta f σ H Q := q
theorem rd_tif {t : TT} (q : t σ H fun c H1 => if c = true then ta σ H1 Q else tb σ H1 Q) : tIf t ta tb σ H Q := q
theorem rd_for {wi : TI} {g : TG} {tb : TS} (q : wi σ H fun J H1 => ∃ W : Nat → Nat → St → Hp → Prop, (∃ m, W 0 m σ H1) ∧ ∀ i m σ H, W i m σ H →
  (J.stop i H ∧ D.nx σ H) ∨ (J.go i H ∧ ∃ N : St → Hp → Prop, (∀ σ' H', N σ' H' → ∃ m', m' < m ∧ W (i + 1) m' σ' H') ∧ ∀ x H', J.yld i H x H' → g x σ H' fun σ2 H2 => tb { D with nx := N, ct := N, bk := D.nx } σ2 H2)) : tFor wi g tb D σ H := q
theorem rd_rng1 {t : TA} {R : It → Hp → Prop} (q : t σ H fun vs H1 => ∃ j : Int, vs = [.int j] ∧ -(2 ^ 62) ≤ j ∧ j < 2 ^ 62 ∧ R (Itr 0 j.toNat) H1) : iRng1 t σ H R := q
theorem rd_rng2 {t : TA} {R : It → Hp → Prop} (q : t σ H fun vs H1 => ∃ i j : Int, vs = [.int i, .int j] ∧ (-(2 ^ 62) ≤ i ∧ i < 2 ^ 62 ∧ -(2 ^ 62) ≤ j ∧ j < 2 ^ 62) ∧ R (Itr i (j - i).toNat) H1) : iRng2 t σ H R := q
theorem rd_iList {K : PySem.W.Frag} {R : It → Hp → Prop} (q : te σ H fun x H1 => ∃ a, x = .ref a ∧ (∃ xs, SqL K H1 a xs) ∧ R (Itl K a) H1) : iList K te σ H R := q
theorem for_rng {lo : Int} {n : Nat} {g : TG} {tb : TS} {nx : St → Hp → Prop} {rt : VK} (Pv : Nat → St → Hp → Prop) (h0 : Pv 0 σ H)
    (hs : ∀ i σ H, i < n → Pv i σ H → g (.int (lo + i)) σ H fun σ2 H2 => tb { nx := Pv (i + 1), rt := rt, bk := nx, ct := Pv (i + 1) } σ2 H2) (hd : ∀ σ H, Pv n σ H → nx σ H) :
    ∃ W : Nat → Nat → St → Hp → Prop, (∃ m, W 0 m σ H) ∧ ∀ i m σ H, W i m σ H →
      ((Itr lo n).stop i H ∧ nx σ H) ∨ ((Itr lo n).go i H ∧ ∃ N : St → Hp → Prop, (∀ σ' H', N σ' H' → ∃ m', m' < m ∧ W (i + 1) m' σ' H') ∧ ∀ x H', (Itr lo n).yld i H x H' → g x σ H' fun σ2 H2 => tb { nx := N, rt := rt, bk := nx, ct := N } σ2 H2) :=
  for_range (D := { nx := nx, rt := rt }) Pv h0 hs hd
theorem for_lst {K : PySem.W.Frag} {a : Addr} {xs : List V} {g : TG} {tb : TS} {nx : St → Hp → Prop} {rt : VK} (Pv : Nat → St → Hp → Prop) (h0 : Pv 0 σ H) (hl : ∀ i σ H, i ≤ xs.length → Pv i σ H → SqL K H a xs)
    (hs : ∀ i x σ H, xs[i]? = some x → Pv i σ H → g x σ H fun σ2 H2 => tb { nx := Pv (i + 1), rt := rt, bk := nx, ct := Pv (i + 1) } σ2 H2) (hd : ∀ σ H, Pv xs.length σ H → nx σ H) :
    ∃ W : Nat → Nat → St → Hp → Prop, (∃ m, W 0 m σ H) ∧ ∀ i m σ H, W i m σ H →
      ((Itl K a).stop i H ∧ nx σ H) ∨ ((Itl K a).go i H ∧ ∃ N : St → Hp → Prop, (∀ σ' H', N σ' H' → ∃ m', m' < m ∧ W (i + 1) m' σ' H') ∧ ∀ x H', (Itl K a).yld i H x H' → g x σ H' fun σ2 H2 => tb { nx := N, rt := rt, bk := nx, ct := N } σ2 H2) :=
  for_list (D := { nx := nx, rt := rt }) Pv h0 hl hs hd
theorem rd_T {A B : Prop} {b : Bool} (h : b = true) (q : A) : if b = true then A else B := by rw [if_pos h]; exact q
theorem rd_F {A B : Prop} {b : Bool} (h : b = false) (q : B) : if b = true then A else B := by rw [if_neg (by rw [h]; exact Bool.false_ne_true)]; exact q
theorem rd_D {A B : Prop} {c : Prop} [Decidable c] (h1 : c → A) (h2 : ¬ c → B) : if decide c = true then A else B := by
  by_cases h : c
  · rw [if_pos (decide_eq_true h)]; exact h1 h
  · rw [if_neg (by simpa using h)]; exact h2 h
theorem rd_ND {A B : Prop} {c : Prop} [Decidable c] (h1 : ¬ c → A) (h2 : c → B) : if (!decide c) = true then A else B := by
  by_cases h : c
  · rw [if_neg (by simpa using h)]; exact h2 h
  · rw [if_pos (by simpa using h)]; exact h1 h
end
end L2
namespace L2
open PySem PySem.Spec PyProof.Rows
structure TB (mg : Str → Option Value) : Prop where
  n_len : mg "len" = none
  n_range : mg "range" = none
  n_isinstance : mg "isinstance" = none
  n_int : mg "int" = none
  n_bool : mg "bool" = none
  n_str : mg "str" = none
  n_list : mg "list" = none
  n_tuple : mg "tuple" = none
  n_all : mg "all" = none
  n_sum : mg "sum" = none
  n_max : mg "max" = none
  n_min : mg "min" = none
  n_reversed : mg "reversed" = none
section
variable (P : Program) (w : World) (K : PySem.W.Frag) (mg : Str → Option Value) (base : Heap)
structure Fn (k : Nat) (x : Str) (ps : List Str) (sp : Sp) : Prop where
  ex : ∃ (f : Addr) (fd : FuncData), mg x = some (.ref f) ∧ PySem.W.keepIn K (.ref f) = true ∧ FnOk P w K mg base CX0 k f fd ps sp ∧ Binds K fd ps []
structure Mt (C : Addr) (k : Nat) (m : Str) (ds : List V) (sp : Sp) : Prop where
  cl : Cls K C
  ex : ∃ (ps : List Str) (f : Addr) (fd : FuncData) (dv : List Value), Meth K C m f ∧ FnOk P w K mg base CX0 k f fd ps sp ∧ Binds K fd ps dv ∧ Vals ds dv
structure Mkr (C : Addr) (k : Nat) (x : Str) (sp : Sp) : Prop where
  ex : ∃ (ps : List Str) (f : Addr) (fd : FuncData), Mk K C f ∧ mg x = some (.ref C) ∧ FnOk P w K mg base CX0 k f fd ps sp ∧ Binds K fd ps []
end
section
variable {X : Cx} {C : Addr} {k : Nat} {x m : Str} {ps : List Str} {sp : Sp} {ds : List V} {e o : Expr} {es : List Expr} {ta : TE} {t : TA} {p pos apos : Pos}
theorem pe_fn (F : Fn X.prog X.w X.K X.mg X.base k x ps sp) (hr : Room k X.A) (hg : Gl X x) (ha : PA X (e :: es) t) (hdb : (x == ("__debug__" : Str)) = false := by decide)
    (he : starEach (e :: es) X.env = (false, eval e X.env) :: starEach es X.env := by rfl) (hpl : (backTo pos (starEach es X.env)).any (·.1) = false := by rfl) : PE X (.Call (.Name x p) (e :: es) [] pos) (tCall sp [] E0 t) := by
  obtain ⟨f, fd, h1, h2, h3, h4⟩ := F.ex
  exact pe_call h3 hr hg h1 h2 h4 .nil pass0 ha hdb he hpl
theorem pe_mt {pl : Sem Bool} (he : PE X o ta) (M : Mt X.prog X.w X.K X.mg X.base C k m ds sp) (hr : Room k X.A) (ha : PA X (e :: es) t)
    (hst : starEach (e :: es) X.env = (false, eval e X.env) :: starEach es X.env := by rfl) (hpl : (backTo pos (starEach es X.env)).any (·.1) = false := by rfl)
    (ht : eval (.Call (.Attribute o m apos) (e :: es) [] pos) X.env = (do
      let ov ← eval o X.env
      standAt apos.atName
      let (f, first) ← holding [ov] (getMethod ov m pl)
      callWith pos f first (backTo pos (starEach (e :: es) X.env)) (backToKw pos (keywordEach [] X.env))) := by rfl) : PE X (.Call (.Attribute o m apos) (e :: es) [] pos) (tMeth C m sp ds E0 ta t) := by
  obtain ⟨ps, f, fd, dv, h1, h2, h3, h4⟩ := M.ex
  exact pe_meth he M.cl h1 h2 hr h3 h4 pass0 ha hst hpl ht
theorem pe_mt0 {pl : Sem Bool} (he : PE X o ta) (M : Mt X.prog X.w X.K X.mg X.base C k m ds sp) (hr : Room k X.A)
    (ht : eval (.Call (.Attribute o m apos) [] [] pos) X.env = (do
      let ov ← eval o X.env
      standAt apos.atName
      let (f, first) ← holding [ov] (getMethod ov m pl)
      callWith pos f first (backTo pos (starEach [] X.env)) (backToKw pos (keywordEach [] X.env))) := by rfl) : PE X (.Call (.Attribute o m apos) [] [] pos) (tMeth C m sp ds E0 ta tNil) := by
  obtain ⟨ps, f, fd, dv, h1, h2, h3, h4⟩ := M.ex
  exact pe_meth0 he M.cl h1 h2 hr h3 h4 pass0 ht
theorem pe_mk (M : Mkr X.prog X.w X.K X.mg X.base C k x sp) (hr : Room (k + 1) X.A) (hg : Gl X x) (ha : PA X (e :: es) t) (hdb : (x == ("__debug__" : Str)) = false := by decide)
    (he : starEach (e :: es) X.env = (false, eval e X.env) :: starEach es X.env := by rfl) (hpl : (backTo pos (starEach es X.env)).any (·.1) = false := by rfl) : PE X (.Call (.Name x p) (e :: es) [] pos) (tMake C sp [] E0 t) := by
  obtain ⟨ps, f, fd, h1, h2, h3, h4⟩ := M.ex
  exact pe_make h1 h3 hr hg h2 h4 .nil pass0 ha hdb he hpl
theorem rd_meth {σ : St} {H : Hp} {Q : VK} {E : XK} (q : ta σ H fun x H1 => ∃ a dx fs, x = .ref a ∧ H1 a = some (.ins C dx fs) ∧ fs.lookup m = none ∧ t σ H1 fun vs H2 => sp (x :: (vs ++ ds)) H2 Q E) : tMeth C m sp ds E ta t σ H Q := q
theorem rd_lst {σ : St} {H : Hp} {Q : VK} (q : t σ H fun xs H1 => xs.length ≤ sizeLine ∧ ∀ p, H1 p = none → Q (.ref p) (upd H1 p (.lst xs))) : tLst t σ H Q := q
theorem rd_tup {σ : St} {H : Hp} {Q : VK} (q : t σ H fun xs H1 => xs.length ≤ sizeLine ∧ ∀ p, H1 p = none → Q (.ref p) (upd H1 p (.tup xs))) : tTup t σ H Q := q
theorem rd_BM {σ : St} {H : Hp} {Q : VK} {K : PySem.W.Frag} {T : String} {r : V → List V → Hp → VK → Prop} (q : ta σ H fun x H1 => tyV K T x H1 ∧ t σ H1 fun xs H2 => r x xs H2 Q) : tBM K T r ta t σ H Q := q
theorem rd_app {H : Hp} {Q : VK} {l : Addr} {xs : List V} {y : V} (h : H l = some (.lst xs)) (hz : xs.length < sizeLine) (q : Q .non (upd H l (.lst (xs ++ [y])))) : rAppend (.ref l) [y] H Q := ⟨l, xs, y, rfl, rfl, h, hz, q⟩
theorem ty_lst {K : PySem.W.Frag} {H : Hp} {l : Addr} {xs : List V} (h : H l = some (.lst xs)) : tyV K "list" (.ref l) H := .inl ⟨rfl, xs, SqL.of h⟩
theorem Same.fresh {H H' : Hp} {l : Addr} {o : HO} (S : Same H H') (h : H l = none) : Same H (upd H' l o) := fun b u e => by
  rw [upd_ne (ne_of_none e h)]
  exact S b u e
theorem small' {n : Nat} (h : n ≤ 100000) : n < sizeLine := Nat.lt_of_le_of_lt h (by decide)
theorem rd_sub {σ : St} {H : Hp} {to ti : TE} {ts : TSet} {v : V} {R : St → Hp → Prop} (q : to σ H fun o H1 => ti σ H1 fun i H2 => ts o i v H2 fun H3 => R σ H3) : gSub to ti ts v σ H R := q
theorem rd_make {σ : St} {H : Hp} {Q : VK} {E : XK} {dvs : List V} (q : t σ H fun vs H1 => ∀ x dx, H1 x = none → H1 dx = none → dx ≠ x →
  sp (.ref x :: (vs ++ dvs)) (upd (upd H1 dx (.own x)) x (.ins C dx [])) (fun v H2 => v = .non ∧ Q (.ref x) H2) E) : tMake C sp dvs E t σ H Q := q
end
end L2
namespace L2
open PySem PySem.Spec PyProof.Rows
def compCheck (sc scope : Scope) (N : List Str) (x : Str) (ns : List Str) (is : List Nat) : Bool :=
  decide (scope.kind = .function) && scope.names.all (fun y => decide (y.2 ≠ .cell)) && scope.names.all (fun y => decide (y.2 = .local → scope.names.lookup y.1 = some .local)) && decide (scope.names.lookup x = some .local) && decide ((x :: ns).Nodup)
    && scope.names.all (fun y => decide (y.2 = .free → sc.names.lookup y.1 = some .cell ∨ sc.names.lookup y.1 = some .free)) && decide (ns.length = is.length)
    && (List.range ns.length).all fun j => match ns[j]?, is[j]? with
      | some y, some i => decide (N[i]? = some y) && decide (sc.names.lookup y = some .cell ∨ sc.names.lookup y = some .free) && decide (scope.names.lookup y = some .free)
      | _, _ => false
theorem CompScope.of {X : Cx} {scope sc : Scope} {N : List Str} {x : Str} {ns : List Str} {is : List Nat} (hN : X.N = N) (hsc : X.env.scope = sc) (h : compCheck sc scope N x ns is = true) : CompScope X scope x ns is := by
  unfold compCheck at h
  simp only [Bool.and_eq_true, decide_eq_true_eq, List.all_eq_true] at h
  obtain ⟨⟨⟨⟨⟨⟨⟨h1, h2⟩, h3⟩, h4⟩, h5⟩, h6⟩, h7⟩, h8⟩ := h
  refine ⟨h1, h2, fun y hy e => h3 y hy e, h4, h5, fun n hn => ?_, fun j y hj => ?_, h7⟩
  · have := h6 (n, .free) hn rfl
    show X.env.scope.names.lookup n = _ ∨ X.env.scope.names.lookup n = _
    rw [hsc]
    exact this
  · have hlt : j < ns.length := (List.getElem?_eq_some_iff.mp hj).1
    have q := h8 j (List.mem_range.mpr hlt)
    rw [hj] at q
    cases e : is[j]? with
    | none => rw [e] at q; cases q
    | some i =>
      rw [e] at q
      simp only [Bool.and_eq_true, decide_eq_true_eq] at q
      obtain ⟨⟨q1, q2⟩, q3⟩ := q
      refine ⟨i, rfl, by rw [hN]; exact q1, ?_, q3⟩
      show X.env.scope.names.lookup y = _ ∨ X.env.scope.names.lookup y = _
      rw [hsc]
      exact q2
section
variable {σ : St} {H : Hp} {Q : VK} {tt : TT} {te : TE} {is : List Nat}
theorem rd_comp {wi : TI} (q : wi σ H fun J H1 => ∃ W : Nat → Nat → List V → Hp → Prop, (∃ m, W 0 m [] H1) ∧ ∀ i m ys G, W i m ys G → ys.length < sizeLine ∧
  ((J.stop i G ∧ ∀ l, G l = none → Q (.ref l) (upd G l (.lst ys))) ∨
   (J.go i G ∧ ∃ N : List V → Hp → Prop, (∀ ys' H', N ys' H' → ∃ m', m' < m ∧ W (i + 1) m' ys' H') ∧ ∀ v H3, J.yld i G v H3 → tt (some v :: capt is σ) H3 fun b H4 => if b = true then te (some v :: capt is σ) H4 fun y H5 => N (ys ++ [y]) H5 else N ys H4))) : tComp wi tt te is σ H Q := q
theorem comp_rng {lo : Int} {n : Nat} {cs : St} {Fin : List V → Hp → Prop} (Pv : Nat → List V → Hp → Prop) (h0 : Pv 0 [] H) (hn : n < sizeLine) (hl : ∀ i ys G, Pv i ys G → ys.length ≤ i)
    (hs : ∀ i ys G, i < n → Pv i ys G → tt (some (.int (lo + i)) :: cs) G fun b H4 => if b = true then te (some (.int (lo + i)) :: cs) H4 fun y H5 => Pv (i + 1) (ys ++ [y]) H5 else Pv (i + 1) ys H4) (hd : ∀ ys G, Pv n ys G → Fin ys G) :
    ∃ W : Nat → Nat → List V → Hp → Prop, (∃ m, W 0 m [] H) ∧ ∀ i m ys G, W i m ys G → ys.length < sizeLine ∧ (((Itr lo n).stop i G ∧ Fin ys G) ∨
      ((Itr lo n).go i G ∧ ∃ N : List V → Hp → Prop, (∀ ys' H', N ys' H' → ∃ m', m' < m ∧ W (i + 1) m' ys' H') ∧ ∀ v H3, (Itr lo n).yld i G v H3 → tt (some v :: cs) H3 fun b H4 => if b = true then te (some v :: cs) H4 fun y H5 => N (ys ++ [y]) H5 else N ys H4)) := by
  refine ⟨fun i m ys G => m = n - i ∧ i ≤ n ∧ Pv i ys G, ⟨n, by simp, Nat.zero_le _, h0⟩, ?_⟩
  rintro i m ys G ⟨rfl, hi, p⟩
  refine ⟨Nat.lt_of_le_of_lt (Nat.le_trans (hl i ys G p) hi) hn, ?_⟩
  by_cases hlt : i < n
  · refine .inr ⟨hlt, Pv (i + 1), fun ys' H' p' => ⟨n - (i + 1), by omega, rfl, hlt, p'⟩, fun v H3 y => ?_⟩
    obtain ⟨e, y⟩ := y
    subst e y
    exact hs i ys _ hlt p
  · have e : i = n := by omega
    subst e
    exact .inl ⟨Nat.le_refl _, hd ys G p⟩
theorem comp_lst {K : PySem.W.Frag} {a : Addr} {xs : List V} {cs : St} {Fin : List V → Hp → Prop} (Pv : Nat → List V → Hp → Prop) (h0 : Pv 0 [] H) (hn : xs.length < sizeLine) (hl : ∀ i ys G, Pv i ys G → ys.length ≤ i) (hL : ∀ i ys G, i ≤ xs.length → Pv i ys G → SqL K G a xs)
    (hs : ∀ i x ys G, xs[i]? = some x → Pv i ys G → tt (some x :: cs) G fun b H4 => if b = true then te (some x :: cs) H4 fun y H5 => Pv (i + 1) (ys ++ [y]) H5 else Pv (i + 1) ys H4) (hd : ∀ ys G, Pv xs.length ys G → Fin ys G) :
    ∃ W : Nat → Nat → List V → Hp → Prop, (∃ m, W 0 m [] H) ∧ ∀ i m ys G, W i m ys G → ys.length < sizeLine ∧ (((Itl K a).stop i G ∧ Fin ys G) ∨
      ((Itl K a).go i G ∧ ∃ N : List V → Hp → Prop, (∀ ys' H', N ys' H' → ∃ m', m' < m ∧ W (i + 1) m' ys' H') ∧ ∀ v H3, (Itl K a).yld i G v H3 → tt (some v :: cs) H3 fun b H4 => if b = true then te (some v :: cs) H4 fun y H5 => N (ys ++ [y]) H5 else N ys H4)) := by
  refine ⟨fun i m ys G => m = xs.length - i ∧ i ≤ xs.length ∧ Pv i ys G, ⟨xs.length, by simp, Nat.zero_le _, h0⟩, ?_⟩
  rintro i m ys G ⟨rfl, hi, p⟩
  refine ⟨Nat.lt_of_le_of_lt (Nat.le_trans (hl i ys G p) hi) hn, ?_⟩
  have sq := hL i ys G hi p
  by_cases hlt : i < xs.length
  · refine .inr ⟨⟨xs, xs[i], sq, by simp [hlt]⟩, Pv (i + 1), fun ys' H' p' => ⟨xs.length - (i + 1), by omega, rfl, hlt, p'⟩, fun v H3 y => ?_⟩
    obtain ⟨e, y⟩ := y
    subst e
    exact hs i v ys _ (y xs sq) p
  · have e : i = xs.length := by omega
    subst e
    exact .inl ⟨⟨xs, sq, Nat.le_refl _⟩, hd ys G p⟩
theorem rd_yes {R : Bool → Hp → Prop} (q : R true H) : tYes σ H R := q
end
theorem ix_listK {X : Cx} {K : PySem.W.Frag} (h : X.K = K) : IxR X (rIxL K) := h ▸ ix_list
theorem ix_tupK {X : Cx} {K : PySem.W.Frag} (h : X.K = K) : IxR X (rIxT K) := h ▸ ix_tup
def SameX (l : Addr) (H H' : Hp) : Prop := ∀ b o, H b = some o → b ≠ l → H' b = some o
def rEqT (K : PySem.W.Frag) : R2 := fun x y H Q => ∃ p q xs, x = .ref p ∧ y = .ref q ∧ SqT K H p xs ∧ SqT K H q xs ∧ xs.all flatV = true ∧ Q (.bl true) H
theorem op_neL {X : Cx} (hu : X.A.units < cLine) : OpR X (compareOp .NotEq) (rNeI X.K) := by
  intro pins s σ H x y v u Q I rx ry h
  obtain ⟨p, q, ns, ms, rfl, rfl, hp, hq, k⟩ := h
  cases rx
  cases ry
  obtain ⟨us, r1, p1, z1⟩ := I.list hp
  obtain ⟨ws, r2, p2, z2⟩ := I.list hq
  have l1 := r1.length
  have l2 := r2.length
  rw [List.length_map] at l1 l2
  by_cases hl : ns.length = ms.length
  · refine SeqAt.RcNeAt.lists (e := fun j => decide (ns[j]? = ms[j]?)) p1.isList p2.isList (by rw [List.size_toArray, List.size_toArray]; omega) hu (fun j h1 h2 => eqVs_get r1 r2 j h1 h2) _ _ _ _ ?_
    refine fin_bl I k ?_
    rw [List.size_toArray, ← l1, all_eq hl]
  · refine SeqAt.RcNeAt.lists_lengths p1.isList p2.isList (by rw [List.size_toArray, List.size_toArray]; simp; omega) hu _ _ _ _ ?_
    refine fin_bl I k ?_
    rw [decide_eq_false fun e => hl (by rw [e])]
    rfl
end L2
namespace L2
open PySem PySem.Spec PyProof.Rows
section
variable {prog : Program} {w : World} {A : Around} {E : Value → Shared → Prop} {s : Shared}
end
theorem Inv.track {X : Cx} {pins : List (Addr × Obj)} {σ : St} {H : Hp} {s s1 : Shared} {D : Addr} {o : HO} (I : Inv X pins σ H s) (I1 : Inv X pins σ H s1) (hD : s1.heap.objs.size ≤ D) (hH : H D = none) (new : ObjOk X.prog X.w (upd H D o) s.heap D o) : Inv X pins σ (upd H D o) s := by
  have f := I1.fpOk hD hH
  refine ⟨I.ok, I.os, I.bare, Un.track I.base hH (Heap.get?_none_of_le (Nat.le_trans I1.sz hD)), I.loc, I.cell, ?_, fun y c h => ?_, fun p hp => ?_, HOk.track I.hok hH new, I.len⟩
  · rw [upd_ne (Ne.symm f.2.1)]
    exact I.free
  · rw [upd_ne (f.2.2.2.2.1 y c h)]
    exact I.freeC y c h
  · obtain ⟨e, n, ne, nf, d⟩ := I.pin p hp
    exact ⟨e, by rw [upd_ne (f.2.2.2.2.2 p hp)]; exact n, ne, nf, d⟩
def tLR (K : PySem.W.Frag) (te : TE) : TE := fun σ H Q => te σ H fun x H1 => ∃ a ys, x = .ref a ∧ SqL K H1 a ys ∧ ∀ l, H1 l = none → Q (.ref l) (upd H1 l (.lst ys.reverse))
theorem rd_sl {r : V → Option Int → Option Int → Hp → VK → Prop} {te : TE} {tl th : TO} {σ : St} {H : Hp} {Q : VK} (q : te σ H fun x H1 => tl σ H1 fun l H2 => th σ H2 fun u H3 => r x l u H3 Q) : tSl r te tl th σ H Q := q
theorem rd_part {te : TE} {σ : St} {H : Hp} {R : Option Int → Hp → Prop} (q : te σ H fun x H1 => ∃ i, x = .int i ∧ R (some i) H1) : tPart te σ H R := q
theorem rd_noPart {σ : St} {H : Hp} {R : Option Int → Hp → Prop} (q : R none H) : tNoPart σ H R := q
theorem rd_someI {i : Int} {R : Int → Prop} (q : R i) : ∃ j, V.int i = .int j ∧ R j := ⟨i, rfl, q⟩
theorem rep_one {x : V} (k : Nat) : (List.replicate k [x]).flatten = List.replicate k x := by
  induction k with
  | zero => rfl
  | succ k ih => rw [List.replicate_succ, List.flatten_cons, ih, List.replicate_succ]; rfl
end L2
namespace L2
open PySem PySem.Spec PyProof.Rows
structure Bs (K : PySem.W.Frag) (C : Addr) (m : Str) (f : Addr) (mc : Value) : Prop where
  ga : PySem.W.specialIn K (.ref C) "__getattribute__" = some (some (.builtin "type.__getattribute__"))
  rd : PySem.W.readsIn K C mc = true
  at_ : PySem.W.findCls K (.ref C) mc m = some (.val (.ref f))
  kp : PySem.W.keepIn K (.ref f) = true
structure Base (P : Program) (w : World) (K : PySem.W.Frag) (mg : Str → Option Value) (base : Heap) (k : Nat) (x m : Str) (sp : Sp) : Prop where
  ex : ∃ (C f : Addr) (mc : Value) (fd : FuncData) (ps : List Str), mg x = some (.ref C) ∧ Bs K C m f mc ∧ FnOk P w K mg base CX0 k f fd ps sp ∧ Binds K fd ps []
section
variable {X : Cx} {k : Nat} {x m : Str} {sp : Sp} {e : Expr} {es : List Expr} {t : TA} {p pos apos : Pos}
theorem pe_base {pl : Sem Bool} (B : Base X.prog X.w X.K X.mg X.base k x m sp) (hr : Room k X.A) (hg : Gl X x) (ha : PA X (e :: es) t) (hdb : (x == ("__debug__" : Str)) = false := by decide)
    (hst : starEach (e :: es) X.env = (false, eval e X.env) :: starEach es X.env := by rfl) (hpl : (backTo pos (starEach es X.env)).any (·.1) = false := by rfl)
    (ht : eval (.Call (.Attribute (.Name x p) m apos) (e :: es) [] pos) X.env = (do
      let ov ← eval (.Name x p) X.env
      standAt apos.atName
      let (f, first) ← holding [ov] (getMethod ov m pl)
      callWith pos f first (backTo pos (starEach (e :: es) X.env)) (backToKw pos (keywordEach [] X.env))) := by rfl) :
    PE X (.Call (.Attribute (.Name x p) m apos) (e :: es) [] pos) (tCall sp [] E0 t) := by
  intro pins s σ H Q I h
  obtain ⟨C, f, mc, fd, ps, hm, bs, F, hb⟩ := B.ex
  refine PySem.W.methodCall_KW (pl := pl) (thn (pe_glob (v := .ref C) hg hm rfl hdb pins s σ H (fun y H1 => y = .ref C ∧ H1 = H) I ⟨rfl, rfl⟩) fun u s1 ⟨y, H1, I1, ry, e1, e2⟩ => ?_) ht
  subst e1 e2
  obtain rfl : u = Value.ref C := ry
  refine PySem.W.method_cls I1.kIn bs.ga (PySem.W.cls_value I1.kIn bs.rd bs.at_ rfl ?_)
  refine PySem.W.callWith_K (first := []) (h₀ := X.base) I.ok.mod.kin bs.kp (thn (ha pos pins _ σ _ _ (I1.tok _) h) fun us s2 ⟨vs, H2, I2, r, q2⟩ => ⟨I2.kIn, ?_⟩) hst hpl
  exact run_fn F hr hb .nil pass0 I2 r q2
end
def Itrev (K : PySem.W.Frag) (a : Addr) (xs : List V) : It := ⟨fun i H => SqL K H a xs ∧ i < xs.length, fun i H x H' => H' = H ∧ xs[xs.length - 1 - i]? = some x, fun i _ => xs.length ≤ i⟩
theorem turn_rev {P : Program} {w : World} {K : PySem.W.Frag} {tg : Expr} (a it : Addr) (xs : List V) : Turn P w K tg (Itrev K a xs) [it] it (fun i h => i ≤ xs.length ∧ h.IsRevIter it a ((xs.length : Int) - 1 - (i : Int))) where
  mem := by simp
  obj := fun i h st b hb => by
    have e : b = it := by simpa using hb
    subst e
    obtain ⟨_, o, e, c, d⟩ := st
    exact ⟨o, e, fun v z => by rw [d] at z; cases z⟩
  keep := fun i h h' st k => ⟨st.1, st.2.at fun o e => k it (by simp) o e⟩
  item := by
    intro X hP hw hK hc i pins s σ H E I hf st hg
    subst hP hw hK
    obtain ⟨hq, hi⟩ := hg
    obtain ⟨its, rv, p, hz⟩ := I.list hq
    have hx : xs[xs.length - 1 - i]? = some (xs[xs.length - 1 - i]'(by omega)) := List.getElem?_eq_getElem (by omega)
    obtain ⟨u, hu, ru⟩ := rv.get hx
    obtain ⟨f0, f1, f2, f3, f4, f5⟩ := hf it (by simp)
    have st2 := st.2
    rw [show (xs.length : Int) - 1 - (i : Int) = ((xs.length - 1 - i : Nat) : Int) by omega] at st2
    refine wpAny_pyNext_rev_item st2 p.isList (x := u) (by simpa using hu) fun h' st' sb => ?_
    have I1 : Inv X pins σ H { s with heap := h' } := I.turned (t' := s.toks) (fun b o hb e => (sb.2 b hb).trans e) f0 f1 f3 f4 f5
    rw [show ((xs.length - 1 - i : Nat) : Int) - 1 = (xs.length : Int) - 1 - ((i + 1 : Nat) : Int) by omega] at st'
    obtain ⟨o, e, c, d⟩ := id st'
    exact ⟨u, rfl, go_of (s := { s with heap := h' }) e c d (by decide) ⟨_, H, I1, ru, ⟨rfl, hx⟩, ⟨hi, st'⟩, fun b hb => (hf b hb).1⟩⟩
  done := by
    intro X hP hw hK hc i pins s σ H E I hf st hg
    subst hP hw hK
    have hg : xs.length ≤ i := hg
    obtain ⟨f0, f1, f2, f3, f4, f5⟩ := hf it (by simp)
    have st2 := st.2
    have h1 := st.1
    rw [show (xs.length : Int) - 1 - (i : Int) = -1 by omega] at st2
    exact wpAny_pyNext_rev_end (I.ok.hd hc) st2 fun h' eb => ⟨rfl, I.turned (t' := s.toks) (fun b o hb e => eb b o hb e) f0 f1 f3 f4 f5⟩
  self := fun _ _ _ _ _ st h => wpAny_pyIter_revIter st.2 h
def iRev (K : PySem.W.Frag) (ta : TA) : TI := fun σ H R => ta σ H fun vs H1 => ∃ a xs, vs = [.ref a] ∧ SqL K H1 a xs ∧ R (Itrev K a xs) H1
theorem pi_rev {X : Cx} {tg : Expr} {a : Expr} {ta : TA} {p pos : Pos} (hg : Gl X "reversed") (hm : X.mg "reversed" = none) (ha : PA X [a] ta) (hs : starEach [a] X.env = [(false, eval a X.env)] := by rfl) :
    PI X tg (.Call (.Name "reversed" p) [a] [] pos) (iRev X.K ta) := by
  intro pins s σ H R I h
  refine Call_ (ld_blt I hg hm bt_reversed (PyProof.Rows.callWith_type1 (thn (ha pos pins s σ H _ I h) fun us s1 ⟨vs, H1, I1, r1, q1⟩ => ?_) hs rfl))
  obtain ⟨b, xs, e, hq, q⟩ := q1
  subst e
  cases r1 with
  | cons r rr =>
    cases rr
    cases r
    obtain ⟨its, rv, pl, hz⟩ := I1.list hq
    have hl := rv.length
    refine call_reversed_list pl.isList ?_
    have hit : (s1.heap.push (revObj b ((its.toArray.size : Int) - 1))).IsRevIter s1.heap.objs.size b ((xs.length : Int) - 1 - ((0 : Nat) : Int)) := ⟨_, Heap.get?_push_size _ rfl, rfl, by
      show Data.fields #[.ref b, rawInt ((its.toArray.size : Int) - 1)] = _
      rw [List.size_toArray, ← hl]
      simp⟩
    refine wpAny_pyIter_revIter hit ?_
    refine ⟨s1.heap.objs.size, [s1.heap.objs.size], _, _, H1, rfl, I1.kept (t' := s1.toks) fun b o e => Heap.get?_push_of_some _ e, turn_rev b _ xs, ⟨Nat.zero_le _, hit⟩, fun b hb => ?_, q⟩
    have e : b = s1.heap.objs.size := by simpa using hb
    subst e
    exact I1.fpOk (Nat.le_refl _) (I1.hok.fresh (Nat.le_refl _))
theorem rd_rev {K : PySem.W.Frag} {t : TA} {σ : St} {H : Hp} {R : It → Hp → Prop} (q : t σ H fun vs H1 => ∃ a xs, vs = [.ref a] ∧ SqL K H1 a xs ∧ R (Itrev K a xs) H1) : iRev K t σ H R := q
theorem for_rev {K : PySem.W.Frag} {a : Addr} {xs : List V} {g : TG} {tb : TS} {nx : St → Hp → Prop} {rt : VK} {σ : St} {H : Hp} (Pv : Nat → St → Hp → Prop) (h0 : Pv 0 σ H) (hl : ∀ i σ H, i ≤ xs.length → Pv i σ H → SqL K H a xs)
    (hs : ∀ i x σ H, i < xs.length → xs[xs.length - 1 - i]? = some x → Pv i σ H → g x σ H fun σ2 H2 => tb { nx := Pv (i + 1), rt := rt, bk := nx, ct := Pv (i + 1) } σ2 H2) (hd : ∀ σ H, Pv xs.length σ H → nx σ H) :
    ∃ W : Nat → Nat → St → Hp → Prop, (∃ m, W 0 m σ H) ∧ ∀ i m σ H, W i m σ H →
      ((Itrev K a xs).stop i H ∧ nx σ H) ∨ ((Itrev K a xs).go i H ∧ ∃ N : St → Hp → Prop, (∀ σ' H', N σ' H' → ∃ m', m' < m ∧ W (i + 1) m' σ' H') ∧ ∀ x H', (Itrev K a xs).yld i H x H' → g x σ H' fun σ2 H2 => tb { nx := N, rt := rt, bk := nx, ct := N } σ2 H2) := by
  refine ⟨fun i m σ H => m = xs.length - i ∧ i ≤ xs.length ∧ Pv i σ H, ⟨xs.length, by simp, Nat.zero_le _, h0⟩, ?_⟩
  rintro i m σ H ⟨rfl, hi, p⟩
  by_cases hlt : i < xs.length
  · refine .inr ⟨⟨hl i σ H hi p, hlt⟩, Pv (i + 1), fun σ' H' p' => ⟨xs.length - (i + 1), by omega, rfl, hlt, p'⟩, fun x H' y => ?_⟩
    obtain ⟨e, y⟩ := y
    subst e
    exact hs i x σ _ hlt y p
  · have e : i = xs.length := by omega
    subst e
    exact .inl ⟨Nat.le_refl _, hd σ H p⟩
structure FunD (K : PySem.W.Frag) (x qual : Str) (st : Stmt) (f : Addr) (fd : FuncData) (dV : Value) : Prop where
  ex : ∃ (oc : Value) (od : Option Addr) (kV doc pm : Value) (an : Option Addr) (cdv ct : Value) (osl : Array (Option Value)),
    fd = PySem.W.fnOf x qual (defArgs st) (defBody st) (defScope st) dV kV doc pm an cdv ct ∧ K.lookup f = some ⟨oc, od, .func fd, osl⟩ ∧ PySem.W.codeIn K cdv qual = true
  kp : PySem.W.keepIn K (.ref f) = true
theorem funD_mk {K : PySem.W.Frag} {x qual : Str} {st : Stmt} {f : Addr} {oc dV : Value} {od an : Option Addr} {osl : Array (Option Value)} {kV doc pm cdv ct : Value} (l : K.lookup f = some ⟨oc, od, .func (PySem.W.fnOf x qual (defArgs st) (defBody st) (defScope st) dV kV doc pm an cdv ct), osl⟩)
    (c : PySem.W.codeIn K cdv qual = true) (k : PySem.W.keepIn K (.ref f) = true) : FunD K x qual st f (PySem.W.fnOf x qual (defArgs st) (defBody st) (defScope st) dV kV doc pm an cdv ct) dV := ⟨⟨oc, od, kV, doc, pm, an, cdv, ct, osl, rfl, l, c⟩, k⟩
theorem Mt.mono {P : Program} {w : World} {K : PySem.W.Frag} {mg : Str → Option Value} {base : Heap} {C : Addr} {j k : Nat} {m : Str} {ds : List V} {sp : Sp} (M : Mt P w K mg base C j m ds sp) (h : j ≤ k) : Mt P w K mg base C k m ds sp := by
  obtain ⟨c, ps, f, fd, dv, h1, h2, h3, h4⟩ := M
  exact ⟨c, ps, f, fd, dv, h1, h2.mono h, h3, h4⟩
theorem len_s {α : Type} {us : List α} {n : Nat} (h : us.length = n + 1) : ∃ a r, us = a :: r ∧ r.length = n := by
  cases us with
  | nil => cases h
  | cons a r => exact ⟨a, r, rfl, Nat.succ.inj h⟩
structure TB2 (mg : Str → Option Value) : Prop where
  n_enumerate : mg "enumerate" = none
  n_zip : mg "zip" = none
  longest : ∃ t, mg "LONGEST" = some (.int 200 t)
theorem Same.tpl {K : PySem.W.Frag} {H H' : Hp} {a : Addr} {xs : List V} (S : Same H H') (h : SqT K H a xs) : SqT K H' a xs := by
  rcases h with (h | ⟨o, h⟩) | h
  · exact .inl (.inl (S _ _ h))
  · exact .inl (.inr ⟨o, S _ _ h⟩)
  · exact .inr h
theorem rd_sFld {K : PySem.W.Frag} {ta tv : TE} {f : Str} {D : Ends} {σ : St} {H : Hp} (q : tv σ H fun y H1 => ta σ H1 fun x H2 => ∃ a C dx fs, x = .ref a ∧ H2 a = some (.ins C dx fs) ∧ Cls K C ∧ NoAttr K C f ∧ fs.length < 1000 ∧ D.nx σ (upd H2 a (.ins C dx (putF f y fs)))) : sFld K ta tv f D σ H := q
theorem rd_BM0 {σ : St} {H : Hp} {Q : VK} {K : PySem.W.Frag} {T : String} {r : V → List V → Hp → VK → Prop} {ta : TE} (q : ta σ H fun x H1 => tyV K T x H1 ∧ r x [] H1 Q) : tBM0 K T r ta σ H Q := q
end L2
namespace L2
open PySem PySem.Spec PyProof.Rows
theorem Inv.turnedL {X : Cx} {pins : List (Addr × Obj)} {σ : St} {H : Hp} {s : Shared} {h' : Heap} {t' : Nat} {fp : List Addr} (I : Inv X pins σ H s) (hf : ∀ b ∈ fp, FpOk X pins H b) (k : ∀ b o, b ∉ fp → s.heap.get? b = some o → h'.get? b = some o) :
    Inv X pins σ H { s with heap := h', toks := t' } := by
  have nit : ∀ b u, H b = some u → b ∉ fp := fun b u e z => by rw [(hf b z).1] at e; cases e
  refine I.step (g' := s.gens) (d' := s.drawn) (ch := fp) (fun b hb => ⟨(hf b hb).2.2.2.1, (hf b hb).2.1, (hf b hb).2.2.2.2.1, (hf b hb).2.2.2.2.2⟩) (fun b o _ _ hc e _ => k b o hc e) (fun b o _ _ hc e _ => ⟨o.slots, k b o hc e⟩) (fun _ _ _ _ n => n)
    (fun b o hc e => ⟨o, k b o hc e⟩) (fun _ _ e => e) (fun _ _ _ e => e) (fun b ps e => ⟨#[], by rw [e]; simp⟩) (fun m hm => ?_) (fun b u e => ?_) I.bare
  · obtain ⟨o, es, ep, ho, r⟩ := hm
    exact ⟨o, es, ep, k _ o (fun z => (hf _ z).2.1 rfl) ho, r⟩
  · refine (I.hok b u e).stay (fun c v hc q => k c v ?_ q) (fun _ q => q) fun _ _ q => q
    rcases hc with z | z
    · rw [z]; exact nit b u e
    · exact nit c _ z
def ItrD (lo : Int) (n : Nat) : It := ⟨fun i _ => i < n, fun i H x H' => H' = H ∧ x = .int (lo - i), fun i _ => n ≤ i⟩
theorem turn_rangeD {P : Program} {w : World} {K : PySem.W.Frag} {tg : Expr} (it : Addr) (lo : Int) (n : Nat) : Turn P w K tg (ItrD lo n) [it] it (fun i h => IsRangeIter h it (lo + (i : Nat) * (-1)) ((n : Int) - (i : Nat)) (-1)) where
  mem := by simp
  obj := fun i h st b hb => by
    have e : b = it := by simpa using hb
    subst e
    exact ⟨_, st, fun v z => by
      have z' : Data.fields _ = Data.cell v := z
      cases z'⟩
  keep := fun i h h' st k => k it (by simp) _ st
  item := by
    intro X hP hw hK hc i pins s σ H E I hf st hg
    subst hP hw hK
    obtain ⟨f0, f1, f2, f3, f4, f5⟩ := hf it (by simp)
    have W := Walks.range (prog := X.prog) (w := X.w) (I.ok.hd hc) it lo (-1) n
    refine W.item i s _ _ hg st fun v h' tk hv st' kk => ?_
    obtain ⟨t, rfl⟩ := hv
    have I1 : Inv X pins σ H { s with heap := h', toks := tk } := I.turned (fun b o hb e => kk b o (by simpa using hb) e) f0 f1 f3 f4 f5
    refine ⟨_, rfl, go_of (s := { s with heap := h', toks := tk }) (n := "range_iterator") st' rfl rfl (by decide) ⟨.int (lo - i), H, I1, ⟨t, ?_⟩, ⟨rfl, rfl⟩, st', fun b hb => (hf b hb).1⟩⟩
    rw [show lo + (i : Int) * (-1) = lo - i by omega]
  done := by
    intro X hP hw hK hc i pins s σ H E I hf st hg
    subst hP hw hK
    obtain ⟨f0, f1, f2, f3, f4, f5⟩ := hf it (by simp)
    exact wpAny_pyNext_range_end (I.ok.hd hc) st (by have : n ≤ i := hg; omega) fun h' eb => ⟨rfl, I.turned (t' := s.toks) (fun b o hb e => eb b o hb e) f0 f1 f3 f4 f5⟩
  self := fun _ _ _ _ _ st h => wpAny_pyIter_rangeiter st h
def iRngD (ta : TA) : TI := fun σ H R => ta σ H fun vs H1 => ∃ i j : Int, vs = [.int i, .int j, .int (-1)] ∧ (-(2 ^ 60) ≤ i ∧ i < 2 ^ 60 ∧ -(2 ^ 60) ≤ j ∧ j < 2 ^ 60) ∧ R (ItrD i (i - j).toNat) H1
theorem pi_rangeD {X : Cx} {tg a b c : Expr} {ta : TA} {p pos : Pos} (hg : Gl X "range") (hm : X.mg "range" = none) (ha : PA X [a, b, c] ta) (hs : starEach [a, b, c] X.env = (false, eval a X.env) :: starEach [b, c] X.env := by rfl)
    (hs2 : (backTo pos (starEach [b, c] X.env)).any (·.1) = false := by rfl) : PI X tg (.Call (.Name "range" p) [a, b, c] [] pos) (iRngD ta) := by
  intro pins s σ H R I h
  refine Call_ (ld_blt I hg hm boot_range (PyProof.Rows.callWith_type1 (thn (ha pos pins s σ H _ I h) fun us s1 ⟨vs, H1, I1, r1, q1⟩ => ?_) hs hs2))
  obtain ⟨i, j, e, ⟨q1, q2, q3, q4⟩, q⟩ := q1
  subst e
  cases r1 with
  | cons r rr =>
    cases rr with
    | cons r' rr =>
      cases rr with
      | cons r'' rr =>
        cases rr
        obtain ⟨t, rfl⟩ := r
        obtain ⟨t', rfl⟩ := r'
        obtain ⟨t'', rfl⟩ := r''
        refine call_range_3 (by decide) ?_ (.inl (PyProof.noPylong_small (by decide)))
        refine wpAny_pyIter_range (IsRange.new ..) (PySem.W.small_down (by omega) (by omega) (by omega) (by omega)) ?_
        have I2 : Inv X pins σ H1 { s1 with heap := s1.heap.push { cls := .type "range", data := .fields #[.int i t, .int j t', .int (-1) t''] } } := I1.kept (t' := s1.toks) fun b o e => Heap.get?_push_of_some _ e
        refine ⟨_, [(s1.heap.push { cls := .type "range", data := .fields #[.int i t, .int j t', .int (-1) t''] }).objs.size], _, _, H1, rfl, I2.kept (t' := s1.toks) fun b o e => Heap.get?_push_of_some _ e, turn_rangeD _ i (i - j).toNat, ?_, fun b hb => ?_, q⟩
        · show IsRangeIter _ _ (i + ((0 : Nat) : Int) * (-1)) ((((i - j).toNat : Nat) : Int) - ((0 : Nat) : Int)) (-1)
          rw [show i + ((0 : Nat) : Int) * (-1) = i by simp, show ((((i - j).toNat : Nat)) : Int) - ((0 : Nat) : Int) = Builtin.Range.rangeSize i j (-1) by rw [PySem.W.rangeSize_downNat]; simp]
          exact Heap.get?_push_size _ rfl
        · have e : b = (s1.heap.push { cls := .type "range", data := .fields #[.int i t, .int j t', .int (-1) t''] }).objs.size := by simpa using hb
          subst e
          exact I2.fpOk (Nat.le_refl _) (I2.hok.fresh (Nat.le_refl _))
theorem rd_rngD {t : TA} {σ : St} {H : Hp} {R : It → Hp → Prop} (q : t σ H fun vs H1 => ∃ i j : Int, vs = [.int i, .int j, .int (-1)] ∧ (-(2 ^ 60) ≤ i ∧ i < 2 ^ 60 ∧ -(2 ^ 60) ≤ j ∧ j < 2 ^ 60) ∧ R (ItrD i (i - j).toNat) H1) : iRngD t σ H R := q
theorem for_rngD {lo : Int} {n : Nat} {g : TG} {tb : TS} {nx : St → Hp → Prop} {rt : VK} {σ : St} {H : Hp} (Pv : Nat → St → Hp → Prop) (h0 : Pv 0 σ H)
    (hs : ∀ i σ H, i < n → Pv i σ H → g (.int (lo - i)) σ H fun σ2 H2 => tb { nx := Pv (i + 1), rt := rt, bk := nx, ct := Pv (i + 1) } σ2 H2) (hd : ∀ σ H, Pv n σ H → nx σ H) :
    ∃ W : Nat → Nat → St → Hp → Prop, (∃ m, W 0 m σ H) ∧ ∀ i m σ H, W i m σ H →
      ((ItrD lo n).stop i H ∧ nx σ H) ∨ ((ItrD lo n).go i H ∧ ∃ N : St → Hp → Prop, (∀ σ' H', N σ' H' → ∃ m', m' < m ∧ W (i + 1) m' σ' H') ∧ ∀ x H', (ItrD lo n).yld i H x H' → g x σ H' fun σ2 H2 => tb { nx := N, rt := rt, bk := nx, ct := N } σ2 H2) := by
  refine ⟨fun i m σ H => m = n - i ∧ i ≤ n ∧ Pv i σ H, ⟨n, by simp, Nat.zero_le _, h0⟩, ?_⟩
  rintro i m σ H ⟨rfl, hi, p⟩
  by_cases hlt : i < n
  · refine .inr ⟨hlt, Pv (i + 1), fun σ' H' p' => ⟨n - (i + 1), by omega, rfl, hlt, p'⟩, fun x H' y => ?_⟩
    obtain ⟨e, y⟩ := y
    subst e y
    exact hs i σ _ hlt p
  · have e : i = n := by omega
    subst e
    exact .inl ⟨Nat.le_refl _, hd σ H p⟩
def ItE (K : PySem.W.Frag) (a : Addr) (xs : List V) : It :=
  ⟨fun i H => SqL K H a xs ∧ i < xs.length, fun i H v H' => ∃ t x, xs[i]? = some x ∧ H t = none ∧ v = .ref t ∧ H' = upd H t (.tup [.int ((i : Int) + 1), x]), fun i H => SqL K H a xs ∧ xs.length ≤ i⟩
theorem Draws.from1 {prog : Program} {w : World} {A : Around} (hh : A.handled = none) (it l : Addr) (hne : l ≠ it) (items : Array Value) :
    Draws prog w A it [it, l] (items.size + 1) (fun i v => ∃ j, i = j + 1 ∧ items[j]? = some v) (fun i h => ∃ j, i = j + 1 ∧ h.IsListIter it l j ∧ h.IsList l items) where
  live := fun i h ⟨j, _, st⟩ => (Draws.list (prog := prog) (w := w) hh it l hne items).live j h st
  frame := fun i h h' ⟨j, e, st⟩ hk => ⟨j, e, (Draws.list (prog := prog) (w := w) hh it l hne items).frame j h h' st hk⟩
  item := fun i s Q E hi ⟨j, e, st⟩ hQ => (Draws.list hh it l hne items).item j s Q E (by omega) st fun x h' tk hP hS sb => hQ x h' tk ⟨j, e, hP⟩ ⟨j + 1, by omega, hS⟩ sb
  done := fun s Q E ⟨j, e, st⟩ hE => by
    have e' : j = items.size := by omega
    subst e'
    exact (Draws.list hh it l hne items).done s Q E st hE
theorem turn_enum {P : Program} {w : World} {K : PySem.W.Frag} {elts : List Expr} {k : Nat} {tp : Pos} (a e it : Addr) (xs : List V) (hei : e ≠ it) :
    Turn P w K (.Tuple elts k tp) (ItE K a xs) [e, it] e (fun i h => i ≤ xs.length ∧ (∃ old, IsEnum h e it ((i + 1 : Nat) : Int) old) ∧ h.IsListIter it a i) where
  mem := by simp
  obj := fun i h st b hb => by
    obtain ⟨_, ⟨old, he⟩, o, ho, c, d⟩ := st
    rcases List.mem_cons.mp hb with q | q
    · subst q
      exact ⟨_, he, fun v z => by
        have z' : Data.fields _ = Data.cell v := z
        cases z'⟩
    · have q : b = it := by simpa using q
      subst q
      exact ⟨o, ho, fun v z => by rw [d] at z; cases z⟩
  keep := fun i h h' st k => ⟨st.1, by obtain ⟨_, ⟨old, he⟩, _⟩ := st; exact ⟨old, k e (by simp) _ he⟩, st.2.2.at fun o q => k it (by simp) o q⟩
  item := by
    intro X hP hw hK hc i pins s σ H E I hf st hg
    subst hP hw hK
    obtain ⟨hq, hi⟩ := hg
    obtain ⟨hle, ⟨old, he⟩, hit⟩ := st
    obtain ⟨its, rv, p, hz⟩ := I.list hq
    have hl := rv.length
    have nai : a ≠ it := fun z => by
      obtain ⟨o, ho, c, _⟩ := hit
      obtain ⟨o', ho', c', _⟩ := p.isList
      rw [z, ho] at ho'
      cases ho'
      rw [c] at c'
      exact absurd c' (by decide)
    have nae : a ≠ e := fun z => by
      obtain ⟨o', ho', c', _⟩ := p.isList
      rw [z, he] at ho'
      cases ho'
      have c2 : Value.type "enumerate" = Value.type "list" := c'
      exact absurd (Value.type.inj c2) (by decide)
    have D := Draws.from1 (prog := X.prog) (w := X.w) (A := X.A.in1) (show X.A.in1.handled = none from I.ok.hd hc) it a nai its.toArray
    have hx : xs[i]? = some xs[i] := List.getElem?_eq_getElem hi
    obtain ⟨u, hu, ru⟩ := rv.get hx
    refine wpAny_pyNext_enum_itemD (i := i + 1) D he ⟨i, rfl, hit, p.isList⟩ (by rw [List.size_toArray]; omega) hei (by simp [hei, Ne.symm nae]) fun y h' tk hP hE hS hT hsz hk => ⟨_, rfl, ?_⟩
    obtain ⟨j, ej, hy⟩ := hP
    have ej : i = j := by omega
    subst ej
    have ey : y = u := by
      have : its[i]? = some y := by simpa using hy
      rw [hu] at this
      exact (Option.some.inj this).symm
    subst ey
    obtain ⟨j2, ej2, hit2, _⟩ := hS
    have ej2 : j2 = i + 1 := by omega
    subst ej2
    refine wpAny_letOwnedTupleGo_enum hE fun h'' hE' sb => ?_
    have hlt : e < s.heap.objs.size := Heap.lt_size he
    have hfr : H s.heap.objs.size = none := I.hok.fresh (Nat.le_refl _)
    have I1 : Inv X pins σ H { s with heap := h'', toks := tk + 1 } := I.turnedL (fp := [e, it]) hf fun b o hb q => (sb.2 b (fun z => hb (by simp [z]))).trans (hk b o (fun z => hb (by simp [z])) (fun z => hb (by simp [z])) q)
    have hT' : h''.get? s.heap.objs.size = some { cls := .type "tuple", data := .seq #[.int ((i + 1 : Nat) : Int) tk, y] } := (sb.2 _ (Nat.ne_of_gt hlt)).trans hT
    refine ⟨.ref s.heap.objs.size, upd H s.heap.objs.size (.tup [.int ((i : Int) + 1), xs[i]]), I1.track I (Nat.le_refl _) hfr ⟨by show 2 ≤ sizeLine; decide, [.int ((i + 1 : Nat) : Int) tk, y], .cons ⟨tk, rfl⟩ (.cons ru .nil), ⟨_, hT', rfl, _, rfl⟩⟩, rfl, ⟨_, _, hx, hfr, rfl, rfl⟩, ⟨hi, ⟨y, ?_⟩, hit2.at fun o q => (sb.2 it (Ne.symm hei)).trans q⟩, fun b hb => ?_⟩
    · have : IsEnum h'' e it (((i + 1 : Nat) : Int) + 1) y := hE'
      exact this
    · have hbo : ∃ o, s.heap.get? b = some o := by
        rcases List.mem_cons.mp hb with q | q
        · subst q; exact ⟨_, he⟩
        · have q : b = it := by simpa using q
          subst q
          obtain ⟨o, ho, _⟩ := hit
          exact ⟨o, ho⟩
      obtain ⟨o, ho⟩ := hbo
      rw [upd_ne (Nat.ne_of_lt (Heap.lt_size ho))]
      exact (hf b hb).1
  done := by
    intro X hP hw hK hc i pins s σ H E I hf st hg
    subst hP hw hK
    obtain ⟨hq, hi⟩ := hg
    obtain ⟨hle, ⟨old, he⟩, hit⟩ := st
    obtain ⟨its, rv, p, hz⟩ := I.list hq
    have hl := rv.length
    have nai : a ≠ it := fun z => by
      obtain ⟨o, ho, c, _⟩ := hit
      obtain ⟨o', ho', c', _⟩ := p.isList
      rw [z, ho] at ho'
      cases ho'
      rw [c] at c'
      exact absurd c' (by decide)
    have D := Draws.from1 (prog := X.prog) (w := X.w) (A := X.A.in1) (show X.A.in1.handled = none from I.ok.hd hc) it a nai its.toArray
    refine wpAny_pyNext_enum_endD D he ⟨i, by rw [List.size_toArray]; omega, hit, p.isList⟩ fun h' eb => ⟨rfl, ?_⟩
    obtain ⟨f0, f1, f2, f3, f4, f5⟩ := hf it (by simp)
    exact I.turned (t' := s.toks) (fun b o hb q => eb b o hb q) f0 f1 f3 f4 f5
  self := fun _ _ _ _ _ st h => by
    obtain ⟨_, ⟨old, he⟩, _⟩ := st
    exact wpAny_pyIter_enum he h
theorem ety2 (a b : Value) : checkTypeCall "enumerate" ⟨[a, b], []⟩ = pure () := by kernel_rfl
theorem enw2 (a b : Value) : checkBuiltinCall "enumerate.__new__" ⟨[.type "enumerate", a, b], []⟩ = pure () := by kernel_rfl
open AutoSeq1 (wpAny_loadPart') in
theorem enum_new1 (l : Addr) (items : Array Value) (n : Nat) (dc : Option Addr) (sl : Array (Option Value)) (t : Tok) :
    Meets (Builtin.«enumerate.__new__» ⟨[.type "enumerate", .ref l, .int 1 t], []⟩) (fun _ R s => s.heap.get? l = some ⟨.type "list", dc, .seq items n, sl⟩ ∧
      R (.ok (.ret (.ref (s.heap.push { cls := .type "list_iterator", data := .fields #[.ref l, .int 0 0] }).objs.size)))
        { s with heap := (s.heap.push { cls := .type "list_iterator", data := .fields #[.ref l, .int 0 0] }).push ⟨.type "enumerate", none, .fields #[.none, .bool false, .ref s.heap.objs.size, rawInt 1, .none, .none], #[]⟩ }) := by
  refine .of_wp fun prog w A R s h => ?_
  obtain ⟨hp, g, d, tk, os⟩ := s
  obtain ⟨hl, h⟩ := h
  have hsub := sub_enumerate
  have hL : (Shared.mk hp g d tk os).heap.IsList l items := ⟨_, hl, rfl, n, rfl⟩
  wp_walk using wpAny_loadPart' hl
  refine wpAny_stack_any fun st => wpAny_pure ?_
  split
  · rename_i c _ _ _ _ _
    by_cases q : (c == Value.type "enumerate") = true
    · rw [q]; wp_walk using wpAny_loadPart' hl, wpAny_pyIter_list hL; exact ⟨_, rfl, h⟩
    · rw [Bool.not_eq_true] at q; rw [q]; wp_walk using wpAny_loadPart' hl, wpAny_pyIter_list hL; exact ⟨_, rfl, h⟩
  · wp_walk using wpAny_loadPart' hl, wpAny_pyIter_list hL; exact ⟨_, rfl, h⟩
theorem call_enum1 {prog : Program} {w : World} {A : Around} {E : Value → Shared → Prop} {s : Shared} {l : Addr} {items : Array Value} {t : Tok} {Q : Value → Shared → Prop} (hL : s.heap.IsList l items)
    (h : ∀ h', IsEnum h' (s.heap.objs.size + 1) s.heap.objs.size 1 .none → h'.IsListIter s.heap.objs.size l 0 → (∀ b o, s.heap.get? b = some o → h'.get? b = some o) → Q (.ref (s.heap.objs.size + 1)) { s with heap := h' }) :
    wpAny (model prog w) A (call (.type "enumerate") [.ref l, .int 1 t]) Q E s := by
  obtain ⟨⟨c, dc, dt, sl⟩, hl, hc, n, hd⟩ := hL
  obtain rfl : c = .type "list" := hc
  obtain rfl : dt = .seq items n := hd
  have z1 := Heap.size_push s.heap { cls := .type "list_iterator", data := .fields #[.ref l, .int 0 0] }
  have g2 := Heap.get?_push_size (s.heap.push { cls := .type "list_iterator", data := .fields #[.ref l, .int 0 0] }) (o := ⟨.type "enumerate", none, .fields #[.none, .bool false, .ref s.heap.objs.size, rawInt 1, .none, .none], #[]⟩) rfl
  rw [z1] at g2
  refine callType_new F.called_enumerate (by decide) (ety2 _ _) (enw2 _ _) (fun obj => F.args_object_init_3 obj _ _) F.entry_enumerate_new (enum_new1 l items n dc sl t) ⟨hl, ?_⟩
  show _ ∧ _
  rw [z1]
  exact ⟨⟨_, g2, rfl⟩, h _ g2 ⟨_, Heap.get?_push_of_some _ (Heap.get?_push_size _ rfl), rfl, rfl⟩ fun b o q => Heap.get?_push_of_some _ (Heap.get?_push_of_some _ q)⟩
theorem bt_enumerate : bootBuiltins "enumerate" = some (.type "enumerate") := by decide +kernel
theorem bt_zip : bootBuiltins "zip" = some (.type "zip") := by decide +kernel
def iEnum (K : PySem.W.Frag) (ta : TA) : TI := fun σ H R => ta σ H fun vs H1 => ∃ a xs, vs = [.ref a, .int 1] ∧ SqL K H1 a xs ∧ R (ItE K a xs) H1
theorem pi_enum {X : Cx} {elts : List Expr} {k : Nat} {tp : Pos} {a b : Expr} {ta : TA} {p pos : Pos} (hg : Gl X "enumerate") (hm : X.mg "enumerate" = none) (ha : PA X [a, b] ta) (hs : starEach [a, b] X.env = (false, eval a X.env) :: starEach [b] X.env := by rfl)
    (hs2 : (backTo pos (starEach [b] X.env)).any (·.1) = false := by rfl) : PI X (.Tuple elts k tp) (.Call (.Name "enumerate" p) [a, b] [] pos) (iEnum X.K ta) := by
  intro pins s σ H R I h
  refine Call_ (ld_blt I hg hm bt_enumerate (PyProof.Rows.callWith_type1 (thn (ha pos pins s σ H _ I h) fun us s1 ⟨vs, H1, I1, r1, q1⟩ => ?_) hs hs2))
  obtain ⟨b, xs, e, hq, q⟩ := q1
  subst e
  obtain ⟨u, v, rfl, ru, rv'⟩ := Vals.two r1
  cases ru
  obtain ⟨t, rfl⟩ := rv'
  obtain ⟨its, rv, pl, hz⟩ := I1.list hq
  refine call_enum1 pl.isList fun h' hE hI kk => ?_
  refine wpAny_pyIter_enum hE ?_
  refine ⟨s1.heap.objs.size + 1, [s1.heap.objs.size + 1, s1.heap.objs.size], _, _, H1, rfl, I1.kept (t' := s1.toks) kk, turn_enum b _ _ xs (Nat.succ_ne_self _), ⟨Nat.zero_le _, ⟨_, hE⟩, hI⟩, fun b hb => ?_, q⟩
  have hb' : s1.heap.objs.size ≤ b := by
    rcases List.mem_cons.mp hb with q | q
    · rw [q]; exact Nat.le_succ _
    · have q : b = s1.heap.objs.size := by simpa using q
      rw [q]; exact Nat.le_refl _
  exact I1.fpOk hb' (I1.hok.fresh hb')
theorem rd_enum {K : PySem.W.Frag} {t : TA} {σ : St} {H : Hp} {R : It → Hp → Prop} (q : t σ H fun vs H1 => ∃ a xs, vs = [.ref a, .int 1] ∧ SqL K H1 a xs ∧ R (ItE K a xs) H1) : iEnum K t σ H R := q
theorem for_enum {K : PySem.W.Frag} {a : Addr} {xs : List V} {g : TG} {tb : TS} {nx : St → Hp → Prop} {rt : VK} {σ : St} {H : Hp} (Pv : Nat → St → Hp → Prop) (h0 : Pv 0 σ H) (hl : ∀ i σ H, i ≤ xs.length → Pv i σ H → SqL K H a xs)
    (hs : ∀ i x t σ H, i < xs.length → xs[i]? = some x → H t = none → Pv i σ H → g (.ref t) σ (upd H t (.tup [.int ((i : Int) + 1), x])) fun σ2 H2 => tb { nx := Pv (i + 1), rt := rt, bk := nx, ct := Pv (i + 1) } σ2 H2) (hd : ∀ σ H, Pv xs.length σ H → nx σ H) :
    ∃ W : Nat → Nat → St → Hp → Prop, (∃ m, W 0 m σ H) ∧ ∀ i m σ H, W i m σ H →
      ((ItE K a xs).stop i H ∧ nx σ H) ∨ ((ItE K a xs).go i H ∧ ∃ N : St → Hp → Prop, (∀ σ' H', N σ' H' → ∃ m', m' < m ∧ W (i + 1) m' σ' H') ∧ ∀ x H', (ItE K a xs).yld i H x H' → g x σ H' fun σ2 H2 => tb { nx := N, rt := rt, bk := nx, ct := N } σ2 H2) := by
  refine ⟨fun i m σ H => m = xs.length - i ∧ i ≤ xs.length ∧ Pv i σ H, ⟨xs.length, by simp, Nat.zero_le _, h0⟩, ?_⟩
  rintro i m σ H ⟨rfl, hi, p⟩
  by_cases hlt : i < xs.length
  · refine .inr ⟨⟨hl i σ H hi p, hlt⟩, Pv (i + 1), fun σ' H' p' => ⟨xs.length - (i + 1), by omega, rfl, hlt, p'⟩, fun x H' y => ?_⟩
    obtain ⟨t, x, hx, ht, rfl, rfl⟩ := y
    exact hs i x t σ _ hlt hx ht p
  · have e : i = xs.length := by omega
    subst e
    exact .inl ⟨⟨hl _ σ H hi p, Nat.le_refl _⟩, hd σ H p⟩
theorem for_tpl {K : PySem.W.Frag} {a : Addr} {xs : List V} {g : TG} {tb : TS} {nx : St → Hp → Prop} {rt : VK} {σ : St} {H : Hp} (Pv : Nat → St → Hp → Prop) (h0 : Pv 0 σ H) (hl : ∀ i σ H, i ≤ xs.length → Pv i σ H → SqT K H a xs)
    (hs : ∀ i x σ H, xs[i]? = some x → Pv i σ H → g x σ H fun σ2 H2 => tb { nx := Pv (i + 1), rt := rt, bk := nx, ct := Pv (i + 1) } σ2 H2) (hd : ∀ σ H, Pv xs.length σ H → nx σ H) :
    ∃ W : Nat → Nat → St → Hp → Prop, (∃ m, W 0 m σ H) ∧ ∀ i m σ H, W i m σ H →
      ((Itt K a).stop i H ∧ nx σ H) ∨ ((Itt K a).go i H ∧ ∃ N : St → Hp → Prop, (∀ σ' H', N σ' H' → ∃ m', m' < m ∧ W (i + 1) m' σ' H') ∧ ∀ x H', (Itt K a).yld i H x H' → g x σ H' fun σ2 H2 => tb { nx := N, rt := rt, bk := nx, ct := N } σ2 H2) :=
  for_tup (D := { nx := nx, rt := rt }) Pv h0 hl hs hd
theorem rd_iTup {K : PySem.W.Frag} {te : TE} {σ : St} {H : Hp} {R : It → Hp → Prop} (q : te σ H fun x H1 => ∃ a, x = .ref a ∧ (∃ xs, SqT K H1 a xs) ∧ R (Itt K a) H1) : iTup K te σ H R := q
def rIndex (K : PySem.W.Frag) : V → List V → Hp → VK → Prop := fun x vs H Q => ∃ l, ∃ (ns : List Int) (y : Int) (j : Nat), x = .ref l ∧ vs = [.int y] ∧ H l = some (.lst (ns.map V.int)) ∧ ns[j]? = some y ∧ (∀ i, i < j → ns[i]? ≠ some y) ∧ Q (.int j) H
theorem mt_index {X : Cx} : MtM X "list.index" (rIndex X.K) := by
  intro pins s σ H x vs v us Q I rx rv h
  obtain ⟨l, ns, y, j, rfl, rfl, hH, hj, hno, q⟩ := h
  cases rx
  obtain ⟨u, rfl, ru⟩ := rv.one
  obtain ⟨t, rfl⟩ := ru
  obtain ⟨z, its, n, r, hl, e⟩ := I.lstM hH
  rw [List.length_map] at hl z
  have hjl : j < ns.length := (List.getElem?_eq_some_iff.mp hj).1
  have item : ∀ (m : Nat) (hm : m < its.toArray.size), ∃ t', ∃ hm' : m < ns.length, its.toArray[m] = .int ns[m] t' := fun m hm => by
    rw [List.size_toArray] at hm
    obtain ⟨u, hu, ru⟩ := r.get (i := m) (x := V.int (ns[m]'(by omega))) (by rw [List.getElem?_map, List.getElem?_eq_getElem (by omega)]; rfl)
    obtain ⟨t', rfl⟩ := ru
    refine ⟨t', by omega, ?_⟩
    rw [List.getElem?_eq_getElem hm] at hu
    simpa using Option.some.inj hu
  refine call_meets F.slot_list_index ⟨_, e, rfl⟩ F.entry_list_index (F.args_list_index_2 _ _) (SeqAt.list_indexAt l its.toArray n none #[] (.int y t) (fun u => match u with | .int a _ => a == y | _ => false) j (by rw [List.size_toArray]; omega) ?_ ?_ ?_) ⟨e, ?_, ?_⟩
  · have : (sizeLine : Int) < 2 ^ 63 - 1 := by decide
    omega
  · obtain ⟨t', hm', e'⟩ := item j (by rw [List.size_toArray]; omega)
    rw [e']
    rw [List.getElem?_eq_getElem hm'] at hj
    simpa using Option.some.inj hj
  · intro m hm hlt
    obtain ⟨t', hm', e'⟩ := item m hm
    rw [e']
    have := hno m hlt
    rw [List.getElem?_eq_getElem hm'] at this
    simpa using this
  · intro w hw
    obtain ⟨m, hm, rfl⟩ := Array.mem_iff_getElem.mp hw
    obtain ⟨t', hm', e'⟩ := item m hm
    rw [e']
    exact SeqAt.EqAt.int_int _ _ _ _
  · exact ⟨.int j, H, I.tok _, ⟨_, rfl⟩, q⟩
def ItZ (K : PySem.W.Frag) (a b : Addr) (xs ys : List V) : It :=
  ⟨fun i H => SqL K H a xs ∧ SqL K H b ys ∧ i < min xs.length ys.length, fun i H v H' => ∃ t x y, xs[i]? = some x ∧ ys[i]? = some y ∧ H t = none ∧ v = .ref t ∧ H' = upd H t (.tup [x, y]), fun i H => SqL K H a xs ∧ SqL K H b ys ∧ min xs.length ys.length ≤ i⟩
theorem ne_cls {h : Heap} {a b : Addr} {oa ob : Obj} (ha : h.get? a = some oa) (hb : h.get? b = some ob) (hc : oa.cls ≠ ob.cls) : a ≠ b := fun z => by
  rw [z, hb] at ha
  cases ha
  exact hc rfl
structure ZOwn (z TI TO i1 i2 : Addr) : Prop where
  a1 : TI ≠ z
  a2 : TO ≠ z
  a3 : i1 ≠ z
  a4 : i2 ≠ z
  a5 : TI ≠ TO
  a6 : TI ≠ i1
  a7 : TI ≠ i2
  a8 : TO ≠ i1
  a9 : TO ≠ i2
  a10 : i1 ≠ i2
def ZAt (z TI TO i1 i2 a b : Addr) (i : Nat) (h : Heap) : Prop := IsZip h z TI TO .none ∧ IsPair h TI (.ref i1) (.ref i2) ∧ (∃ u v, IsPair h TO u v) ∧ h.IsListIter i1 a i ∧ h.IsListIter i2 b i
theorem ZAt.apart {z TI TO i1 i2 a b : Addr} {i : Nat} {h : Heap} {xs ys : Array Value} (O : ZOwn z TI TO i1 i2) (A : ZAt z TI TO i1 i2 a b i h) (h1 : h.IsList a xs) (h2 : h.IsList b ys) : ZipApart z TI TO i1 i2 a b := by
  obtain ⟨hz, hTI, ⟨u, v, hTO⟩, ⟨o1, e1, c1, _⟩, o2, e2, c2, _⟩ := A
  obtain ⟨oa, ea, ca, _⟩ := h1
  obtain ⟨ob, eb, cb, _⟩ := h2
  have k1 : ∀ (n : String), n ≠ "list" → oa.cls ≠ .type n := fun n hn q => hn (by rw [ca] at q; exact (Value.type.inj q).symm)
  have k2 : ∀ (n : String), n ≠ "list" → ob.cls ≠ .type n := fun n hn q => hn (by rw [cb] at q; exact (Value.type.inj q).symm)
  exact ⟨O.a1, O.a2, O.a3, O.a4, O.a5, O.a6, O.a7, O.a8, O.a9, O.a10, ne_cls ea hz (k1 "zip" (by decide)), ne_cls ea hTO (k1 "tuple" (by decide)), ne_cls ea e1 (by rw [c1]; exact k1 _ (by decide)), ne_cls ea e2 (by rw [c2]; exact k1 _ (by decide)),
    ne_cls eb hz (k2 "zip" (by decide)), ne_cls eb hTO (k2 "tuple" (by decide)), ne_cls eb e1 (by rw [c1]; exact k2 _ (by decide)), ne_cls eb e2 (by rw [c2]; exact k2 _ (by decide))⟩
theorem turn_zip {P : Program} {w : World} {K : PySem.W.Frag} {elts : List Expr} {k : Nat} {tp : Pos} (a b z TI TO i1 i2 : Addr) (xs ys : List V) (O : ZOwn z TI TO i1 i2) :
    Turn P w K (.Tuple elts k tp) (ItZ K a b xs ys) [z, TI, TO, i1, i2] z (fun i h => i ≤ min xs.length ys.length ∧ ZAt z TI TO i1 i2 a b i h) where
  mem := by simp
  obj := fun i h st c hc => by
    obtain ⟨_, hz, hTI, ⟨u, v, hTO⟩, ⟨o1, e1, c1, d1⟩, o2, e2, c2, d2⟩ := st
    have hc : c = z ∨ c = TI ∨ c = TO ∨ c = i1 ∨ c = i2 := by simpa using hc
    rcases hc with q | q | q | q | q
    · subst q; exact ⟨_, hz, fun v q => by
        have q' : Data.fields _ = Data.cell v := q
        cases q'⟩
    · subst q; exact ⟨_, hTI, fun v q => by
        have q' : Data.seq _ _ = Data.cell v := q
        cases q'⟩
    · subst q; exact ⟨_, hTO, fun v q => by
        have q' : Data.seq _ _ = Data.cell v := q
        cases q'⟩
    · subst q; exact ⟨o1, e1, fun v q => by rw [d1] at q; cases q⟩
    · subst q; exact ⟨o2, e2, fun v q => by rw [d2] at q; cases q⟩
  keep := fun i h h' st k => by
    obtain ⟨hi, hz, hTI, ⟨u, v, hTO⟩, h1, h2⟩ := st
    exact ⟨hi, k z (by simp) _ hz, k TI (by simp) _ hTI, ⟨u, v, k TO (by simp) _ hTO⟩, h1.at fun o q => k i1 (by simp) o q, h2.at fun o q => k i2 (by simp) o q⟩
  item := by
    intro X hP hw hK hc i pins s σ H E I hf st hg
    subst hP hw hK
    obtain ⟨hq1, hq2, hi⟩ := hg
    obtain ⟨its, rv, p, hz0⟩ := I.list hq1
    obtain ⟨jts, rw', p', hz1⟩ := I.list hq2
    have D := st.2.apart O p.isList p'.isList
    obtain ⟨_, hz, hTI, ⟨u, v, hTO⟩, h1, h2⟩ := id st
    have hx : xs[i]? = some (xs[i]'(by omega)) := List.getElem?_eq_getElem (by omega)
    have hy : ys[i]? = some (ys[i]'(by omega)) := List.getElem?_eq_getElem (by omega)
    obtain ⟨ux, hux, rx⟩ := rv.get hx
    obtain ⟨uy, huy, ry⟩ := rw'.get hy
    refine wpAny_pyNext_zip_item D hz hTI hTO h1 h2 p.isList p'.isList (x := ux) (y := uy) (by simpa using hux) (by simpa using huy) fun h' b1 b2 b3 b4 b5 b6 kk => ⟨_, rfl, ?_⟩
    refine wpAny_letOwnedTupleGo_zip b1 fun h'' hz' sb => ?_
    have hlt : z < s.heap.objs.size := Heap.lt_size hz
    have hfr : H s.heap.objs.size = none := I.hok.fresh (Nat.le_refl _)
    have up : ∀ c o, c ≠ z → h'.get? c = some o → h''.get? c = some o := fun c o hcz q => (sb.2 c hcz).trans q
    have I1 : Inv X pins σ H { s with heap := h'' } := I.turnedL (t' := s.toks) (fp := [z, TI, TO, i1, i2]) hf fun c o hc q => up c o (fun z => hc (by simp [z])) (kk c o (fun z => hc (by simp [z])) (fun z => hc (by simp [z])) (fun z => hc (by simp [z])) (fun z => hc (by simp [z])) q)
    refine ⟨.ref s.heap.objs.size, upd H s.heap.objs.size (.tup [_, _]), I1.track I (Nat.le_refl _) hfr ⟨by show 2 ≤ sizeLine; decide, [ux, uy], .cons rx (.cons ry .nil), ⟨_, up _ _ (Nat.ne_of_gt hlt) b5, rfl, _, rfl⟩⟩, rfl, ⟨_, _, _, hx, hy, hfr, rfl, rfl⟩,
      ⟨hi, hz', up _ _ O.a1 (kk _ _ O.a1 O.a5 O.a6 O.a7 hTI), ⟨_, _, up _ _ O.a2 b2⟩, b3.at fun o q => up _ o O.a3 q, b4.at fun o q => up _ o O.a4 q⟩, fun c hc' => ?_⟩
    have hco : ∃ o, s.heap.get? c = some o := by
      obtain ⟨o1, e1, _⟩ := h1
      obtain ⟨o2, e2, _⟩ := h2
      have hc' : c = z ∨ c = TI ∨ c = TO ∨ c = i1 ∨ c = i2 := by simpa using hc'
      rcases hc' with q | q | q | q | q
      · subst q; exact ⟨_, hz⟩
      · subst q; exact ⟨_, hTI⟩
      · subst q; exact ⟨_, hTO⟩
      · subst q; exact ⟨_, e1⟩
      · subst q; exact ⟨_, e2⟩
    obtain ⟨o, ho⟩ := hco
    rw [upd_ne (Nat.ne_of_lt (Heap.lt_size ho))]
    exact (hf c hc').1
  done := by
    intro X hP hw hK hc i pins s σ H E I hf st hg
    subst hP hw hK
    obtain ⟨hq1, hq2, hi⟩ := hg
    obtain ⟨its, rv, p, hz0⟩ := I.list hq1
    obtain ⟨jts, rw', p', hz1⟩ := I.list hq2
    have l1 := rv.length
    have l2 := rw'.length
    have D := st.2.apart O p.isList p'.isList
    obtain ⟨_, hz, hTI, ⟨u, v, hTO⟩, h1, h2⟩ := id st
    refine wpAny_pyNext_zip_end (I.ok.hd hc) D hz hTI hTO h1 h2 p.isList p'.isList ?_ fun h' kk => ⟨rfl, I.turnedL (t' := s.toks) (fp := [z, TI, TO, i1, i2]) hf fun c o hc q => kk c o (fun z => hc (by simp [z])) (fun z => hc (by simp [z])) (fun z => hc (by simp [z])) (fun z => hc (by simp [z])) q⟩
    by_cases q : its.length ≤ i
    · exact .inl (Array.getElem?_eq_none (by rw [List.size_toArray]; exact q))
    · exact .inr (Array.getElem?_eq_none (by rw [List.size_toArray]; omega))
  self := fun _ _ _ _ _ st h => wpAny_pyIter_zip st.2.1 h
theorem ad (a b n : Nat) (h : a ≠ b) : n + a ≠ n + b := fun e => h (Nat.add_left_cancel e)
def iZip (K : PySem.W.Frag) (ta : TA) : TI := fun σ H R => ta σ H fun vs H1 => ∃ a b xs ys, vs = [.ref a, .ref b] ∧ SqL K H1 a xs ∧ SqL K H1 b ys ∧ R (ItZ K a b xs ys) H1
theorem pi_zip {X : Cx} {elts : List Expr} {k : Nat} {tp : Pos} {a b : Expr} {ta : TA} {p pos : Pos} (hg : Gl X "zip") (hm : X.mg "zip" = none) (ha : PA X [a, b] ta) (hs : starEach [a, b] X.env = (false, eval a X.env) :: starEach [b] X.env := by rfl)
    (hs2 : (backTo pos (starEach [b] X.env)).any (·.1) = false := by rfl) : PI X (.Tuple elts k tp) (.Call (.Name "zip" p) [a, b] [] pos) (iZip X.K ta) := by
  intro pins s σ H R I h
  refine Call_ (ld_blt I hg hm bt_zip (PyProof.Rows.callWith_type1 (thn (ha pos pins s σ H _ I h) fun us s1 ⟨vs, H1, I1, r1, q1⟩ => ?_) hs hs2))
  obtain ⟨c, d, xs, ys, e, hq1, hq2, q⟩ := q1
  subst e
  obtain ⟨u, v, rfl, ru, rv'⟩ := Vals.two r1
  cases ru
  cases rv'
  obtain ⟨its, rv, p1, hz⟩ := I1.list hq1
  obtain ⟨jts, rw', p2, hz2⟩ := I1.list hq2
  refine call_zip_2 p1.isList p2.isList fun h' hz' hTI hTO h1 h2 _ kk => ?_
  refine wpAny_pyIter_zip hz' ?_
  generalize hn : s1.heap.objs.size = n at *
  refine ⟨n + 4, [n + 4, n + 2, n + 3, n, n + 1], _, _, H1, rfl, I1.kept (t' := s1.toks) kk, turn_zip c d _ _ _ _ _ xs ys ⟨ad 2 4 n (by decide), ad 3 4 n (by decide), ad 0 4 n (by decide), ad 1 4 n (by decide), ad 2 3 n (by decide), ad 2 0 n (by decide), ad 2 1 n (by decide), ad 3 0 n (by decide), ad 3 1 n (by decide), ad 0 1 n (by decide)⟩, ⟨Nat.zero_le _, hz', hTI, ⟨_, _, hTO⟩, h1, h2⟩, fun b hb => ?_, q⟩
  have hb' : s1.heap.objs.size ≤ b := by
    have hb : b = n + 4 ∨ b = n + 2 ∨ b = n + 3 ∨ b = n ∨ b = n + 1 := by simpa using hb
    rw [hn]
    rcases hb with q | q | q | q | q
    · rw [q]; exact Nat.le_add_right _ _
    · rw [q]; exact Nat.le_add_right _ _
    · rw [q]; exact Nat.le_add_right _ _
    · rw [q]; exact Nat.le_refl _
    · rw [q]; exact Nat.le_add_right _ _
  exact I1.fpOk hb' (I1.hok.fresh hb')
section
variable {X : Cx} {pins : List (Addr × Obj)} {σ : St} {H : Hp} {s : Shared} {scope : Scope} {x : Str} {elt iter tg : Expr} {pos : Pos} {te : TE} {J : It} {fp : List Addr} {it : Addr} {tn : Nat → Heap → Prop} {N : List Str} {g : TG}
theorem comp_start2 (S : CompScope X scope x [] []) (I : Inv X pins σ H s) {C D : Addr} {h1 : Heap} {t' : Nat} (hC : s.heap.objs.size ≤ C) (hD : s.heap.objs.size ≤ D) (hCD : D ≠ C) (hf : ∀ b ∈ fp, FpOk X pins H b)
    (ho : ∀ b ∈ fp, ∃ o, s.heap.get? b = some o) (keep : ∀ b o, s.heap.get? b = some o → h1.get? b = some o) (hns : h1.Ns C fun _ => none) (hacc : h1.get? D = some (lobj [] 0)) :
    Inv (cxComp X scope C N s H fp) [(D, lobj [] 0)] (List.replicate N.length none) H { s with heap := h1, toks := t' } := by
  refine ⟨comp_ok S I hC hf ho _, rfl, I.bare, Un.kept keep, ⟨_, hns, fun j y v _ h2 _ => ?_⟩, fun y c h => ?_, I.hok.fresh hC, fun y c h => I.freeC y c (S.cell I.ok h), ?_, I.hok.kept keep, ?_⟩
  · have h2 : (List.replicate N.length (none : Option V))[j]? = some (some v) := h2
    rw [List.getElem?_replicate] at h2
    split at h2
    · cases h2
    · cases h2
  · obtain ⟨v, o, eo, d⟩ := I.cell y c (S.cell I.ok h)
    exact ⟨v, o, keep _ _ eo, d⟩
  · intro p hp
    have e : p = (D, lobj [] 0) := by simpa using (show p ∈ [(D, lobj [] 0)] from hp)
    subst e
    refine ⟨hacc, I.hok.fresh hD, hCD, fun z => ?_, fun v z => by cases z⟩
    obtain ⟨_, o, eo, _⟩ := I.stack.mem z
    exact absurd (Nat.lt_of_lt_of_le (Heap.lt_size eo) hD) (Nat.lt_irrefl _)
  · show (List.replicate N.length (none : Option V)).length = N.length
    exact List.length_replicate
theorem comp_block2 (S : CompScope X scope x [] []) (hc : X.calm = true) (I : Inv X pins σ H s) (T : Turn X.prog X.w X.K tg J fp it tn) (st : tn 0 s.heap) (hf : ∀ b ∈ fp, FpOk X pins H b)
    (hg : ∀ C s H fp, PG (cxComp X scope C N s H fp) tg g) (hb2 : ∀ C s H fp, PE (cxComp X scope C N s H fp) elt te)
    (W : Nat → Nat → List V → Hp → Prop) (Fin : List V → Hp → Prop) {m0 : Nat} (w0 : W 0 m0 [] H)
    (turn : ∀ i m ys G, W i m ys G → ys.length < sizeLine ∧ ((J.stop i G ∧ Fin ys G) ∨ (J.go i G ∧ ∃ M : List V → Hp → Prop, (∀ ys' H', M ys' H' → ∃ m', m' < m ∧ W (i + 1) m' ys' H') ∧ ∀ v H3 τ, τ.length = N.length → J.yld i G v H3 → g v τ H3 fun τ2 H4 => te τ2 H4 fun y H5 => M (ys ++ [y]) H5)))
    {E : Value → Shared → Prop} {RR : Value → Addr → Result → Shared → Prop}
    (hRR : ∀ (D C : Addr) (s' : Shared) (G : Hp) (ys : List V), G D = none → Inv X pins σ (upd G D (.lst ys)) s' → (∃ m, s'.heap.Ns C m) → (upd G D (.lst ys)) C = none → C ≠ X.env.locals → X.s₀.heap.objs.size ≤ C →
      (∀ y c, X.env.cells.lookup y = some c → c ≠ C) → (∀ p ∈ X.pn ++ pins, p.1 ≠ C) → Fin ys G → RR (.ref D) C (.ok .next) s') :
    wpAny (model X.prog X.w) X.A (newList []) (fun acc s₃ => wpAny (model X.prog X.w) X.A (newFunctionEnv scope X.env.globals (clsOf X.env scope.names []) [] X.env.qual none .none (some X.env)) (fun cenv s₄ =>
      codeAny (model X.prog X.w) X.A (.compStart (.ListComp elt [⟨tg, iter, [], 0⟩] scope pos) 0 (.ref it) acc { cenv with scope := relabel scope X.env }) (RR acc cenv.locals) s₄) E s₃) E s := by
  refine wpAny_newObj_type (wpAny_newFunctionEnv S.nocell (by intro y hy; simp at hy) (fun h₁ hns₁ hsb₁ => ?_) S.kind)
  dsimp only at hns₁ hsb₁ ⊢
  generalize hH2 : s.heap.push { cls := .type "list", dict := none, data := .seq ([] : List Value).toArray } = H2 at hns₁ hsb₁ ⊢
  have hC : H2.objs.size = s.heap.objs.size + 1 := by rw [← hH2, Heap.size_push]
  have hDC : s.heap.objs.size ≠ H2.objs.size := by rw [hC]; exact Nat.ne_of_lt (Nat.lt_succ_self _)
  have hCle : s.heap.objs.size ≤ H2.objs.size := by rw [hC]; exact Nat.le_succ _
  have below : ∀ b, b < s.heap.objs.size → b ≠ H2.objs.size := fun b hb => by rw [hC]; exact Nat.ne_of_lt (Nat.lt_succ_of_lt hb)
  have old : ∀ b o, s.heap.get? b = some o → h₁.get? b = some o := fun b o e => hsb₁.extBut b o (below b (Heap.lt_size e)) (Heap.get?_push_of_some _ (hH2 ▸ Heap.get?_push_of_some _ e))
  have hacc : h₁.get? s.heap.objs.size = some (lobj [] 0) := hsb₁.extBut _ _ hDC (Heap.get?_push_of_some _ (hH2 ▸ Heap.get?_push_size _ rfl))
  have hns₁' : h₁.Ns H2.objs.size fun _ => none := hns₁
  have ho : ∀ b ∈ fp, ∃ o, s.heap.get? b = some o := fun b hb => by obtain ⟨o, e, _⟩ := T.obj 0 _ st b hb; exact ⟨o, e⟩
  have hlt : ∀ b ∈ fp, b < s.heap.objs.size := fun b hb => by obtain ⟨o, e⟩ := ho b hb; exact Heap.lt_size e
  have freshD : s.heap.get? s.heap.objs.size = none := Heap.get?_none_of_le (Nat.le_refl _)
  have st₁ : tn 0 h₁ := T.keep 0 _ _ st fun b _ o e => old b o e
  have loop : ∀ s₃ : Shared, s₃ = { s with heap := h₁, toks := s.toks + ([] : List (Str × Value)).length } →
      codeAny (model X.prog X.w) X.A (.compLoop (.ListComp elt [⟨tg, iter, [], 0⟩] scope pos) 0 (.ref it) (.ref s.heap.objs.size) (compEnvC scope (clsOf X.env scope.names []) H2.objs.size X.env))
        (RR (.ref s.heap.objs.size) H2.objs.size) s₃ := by
    rintro s₃ rfl
    let Y := cxComp X scope H2.objs.size N s H fp
    have J0 : Inv Y [(s.heap.objs.size, lobj [] 0)] (List.replicate N.length none) H { s with heap := h₁, toks := s.toks + ([] : List (Str × Value)).length } := comp_start2 S I hCle (Nat.le_refl _) hDC hf ho old hns₁' hacc
    have fpY : ∀ {G : Hp} {us : List Value} {k : Nat}, (∀ b ∈ fp, G b = none) → ∀ b ∈ fp, FpOk Y [(s.heap.objs.size, lobj us k)] G b := fun {G us k} hn b hb => by
      refine ⟨hn b hb, below b (hlt b hb), (comp_ok S I hCle hf ho N).exfs b hb, .inl hb, fun y c h => (hf b hb).2.2.2.2.1 y c (S.cell I.ok h), fun p hp => ?_⟩
      have e : p = (s.heap.objs.size, lobj us k) := by simpa using (show p ∈ [(s.heap.objs.size, lobj us k)] from hp)
      rw [e]
      exact Nat.ne_of_gt (hlt b hb)
    refine compLoop_go (fun n s' => ∃ (i : Nat) (ys : List V) (us : List Value) (k : Nat) (G : Hp) (τ : St), Inv Y [(s.heap.objs.size, lobj us k)] τ G s' ∧ Vals ys us ∧ tn i s'.heap ∧ (∀ b ∈ fp, G b = none) ∧ W i n ys G) ?_ m0
      ⟨0, [], [], 0, H, _, J0, .nil, st₁, fun b hb => (hf b hb).1, w0⟩
    rintro n s' ⟨i, ys, us, k, G, τ, J1, rv, st1, fr1, w1⟩
    obtain ⟨hz, hcase⟩ := turn i n ys G w1
    rcases hcase with ⟨stop, fin⟩ | ⟨go, M, hM, step⟩
    · refine wpAny_mono (T.done Y rfl rfl rfl hc i _ s' _ G (fun _ _ => False) J1 (fpY fr1) st1 stop) (fun r s1 h1 => ?_) fun _ _ z => z
      obtain ⟨hr, J2⟩ := h1
      subst hr
      obtain ⟨eD, hGD, _⟩ := J2.pin (s.heap.objs.size, lobj us k) (List.mem_append_right _ List.mem_cons_self)
      have hok : HOk X.prog X.w (upd G s.heap.objs.size (.lst ys)) s1.heap := HOk.track J2.hok hGD ⟨Nat.le_of_lt hz, us, k, rv, eD⟩
      have un : Un (frs X.stack) fp H (upd G s.heap.objs.size (.lst ys)) s.heap s1.heap := Un.track (show Un (frs X.stack) fp H G s.heap s1.heap from J2.base) hGD freshD
      have IX : Inv X pins σ (upd G s.heap.objs.size (.lst ys)) s1 := I.call' (ch := fp) J2.os un hok J2.bare fun b hb => ⟨(hf b hb).2.2.2.1, (hf b hb).2.1, (hf b hb).2.2.2.2.1, (hf b hb).2.2.2.2.2⟩
      obtain ⟨m, hm, _⟩ := J2.loc
      refine hRR _ _ s1 G ys hGD IX ⟨m, hm⟩ ?_ (Nat.ne_of_gt (Nat.lt_of_lt_of_le I.lt hCle)) (Nat.le_trans I.sz hCle) (fun y c h z => ?_) (fun p hp z => ?_) fin
      · rw [upd_ne (Ne.symm hDC)]
        exact J2.free
      · obtain ⟨v, q⟩ := I.cell y c h
        exact absurd (Nat.lt_of_lt_of_le q.lt (by rw [z]; exact hCle)) (Nat.lt_irrefl _)
      · exact absurd (Nat.lt_of_lt_of_le (Heap.lt_size (I.pin p hp).1) (by rw [z]; exact hCle)) (Nat.lt_irrefl _)
    · refine wpAny_mono (T.item Y rfl rfl rfl hc i _ s' _ G (fun _ _ => False) J1 (fpY fr1) st1 go) (fun r s1 h1 => ?_) fun _ _ z => z
      obtain ⟨u, hr, h4⟩ := h1
      subst hr
      refine wpAny_mono h4 (fun _ s5 h5 => ?_) fun _ _ z => z
      obtain ⟨v, H5, J5, r5, y5, st5, fr5⟩ := h5
      have J5' := J5.pinned (fpY fr5) (T.obj _ _ st5)
      refine wpAny_mono (hg H2.objs.size s H fp _ s5 _ H5 v u _ J5' r5 (step v H5 τ J5.len y5)) (fun _ s6 h6 => ?_) fun _ _ z => z
      obtain ⟨τ6, H6, J6, q6⟩ := h6
      refine wpAny_tests_nil ?_
      rw [if_pos rfl]
      refine wpAny_mono (hb2 H2.objs.size s H fp _ s6 _ _ _ J6 q6) (fun z s8 h8 => ?_) fun _ _ z => z
      obtain ⟨y, H8, J8, r8, q8⟩ := h8
      obtain ⟨m', hm, w8⟩ := hM _ _ q8
      refine comp_append (Y := Y) (pl := pinsAt fp s5.heap) J8 (by have := rv.length; omega) (Nat.le_refl _) (fun p hp => ?_) fun s9 n9 J9 => ?_
      · obtain ⟨hb, _⟩ := of_pinsAt (show p ∈ pinsAt fp s5.heap from hp)
        exact Nat.ne_of_lt (hlt p.1 hb)
      · refine ⟨m', hm, i + 1, ys ++ [y], us ++ [z], n9, H8, τ6, J9.pins_of fun p hp => J9.pin p (List.mem_append_right _ (by rcases List.mem_cons.mp hp with e | e; exact e ▸ List.mem_cons_self; cases e)), rv.append (.cons r8 .nil), T.keep _ _ _ st5 fun b hb o e => (J9.pin (b, o) (List.mem_append_right _ (List.mem_cons_of_mem _ (mem_pinsAt hb e)))).1, fun b hb => ?_, w8⟩
        obtain ⟨o, e, d⟩ := T.obj _ _ st5 b hb
        exact (J9.pin (b, o) (List.mem_append_right _ (List.mem_cons_of_mem _ (mem_pinsAt hb e)))).2.1
  exact codeAny_compStart_list (loop _ rfl) (T.self X.A 0 _ _ _ st₁ (loop _ rfl))
def tComp2 (n : Nat) (wi : TI) (g : TG) (te : TE) : TE := fun σ H Q => wi σ H fun J H1 => ∃ W : Nat → Nat → List V → Hp → Prop, (∃ m, W 0 m [] H1) ∧ ∀ i m ys G, W i m ys G → ys.length < sizeLine ∧
  ((J.stop i G ∧ ∀ l, G l = none → Q (.ref l) (upd G l (.lst ys))) ∨
   (J.go i G ∧ ∃ M : List V → Hp → Prop, (∀ ys' H', M ys' H' → ∃ m', m' < m ∧ W (i + 1) m' ys' H') ∧ ∀ v H3 τ, τ.length = n → J.yld i G v H3 → g v τ H3 fun τ2 H4 => te τ2 H4 fun y H5 => M (ys ++ [y]) H5))
theorem ps_setComp2 {wi : TI} {y : Str} {py spos : Pos} {j : Nat} (hN : X.N.Nodup) (hj : X.N[j]? = some y) (hy : Loc X.env.scope y) (S : CompScope X scope x [] []) (hc : X.calm = true) (hi : PI X tg iter wi) (hg : ∀ C s H fp, PG (cxComp X scope C N s H fp) tg g) (hb2 : ∀ C s H fp, PE (cxComp X scope C N s H fp) elt te)
    (hsw : swapsWith (.ListComp elt [⟨tg, iter, [], 0⟩] scope pos) (some (.Name y py)) spos.line X.env = pure true := by rfl)
    (hs : ∀ x, foldedSetIterable iter X.env x = pure x := by intro _; rfl) (hfn : X.fn y = true ∨ X.env.scope.names.lookup y = some .local := by first | exact .inl rfl | exact .inr rfl | assumption) :
    PS X (.Assign [.Name y py] (.ListComp elt [⟨tg, iter, [], 0⟩] scope pos) spos) (tAsg (tComp2 N.length wi g te) (gName j)) := by
  intro pins s σ H D I h
  rw [exec_Assign_Name_used _ _ _ _ hsw]
  refine wpAny_bind (wpAny_standAt (wpAny_bind ?_))
  show wpAny _ X.A (do let _ ← comprehension (.ListComp elt [⟨tg, iter, [], 0⟩] scope pos) scope X.env _ (newList []) false (eval iter X.env) (some (assign (.Name y py) X.env))) _ _ s
  refine wpAny_bind (wpAny_mono (wpAny_comprehension_free (use := some (assign (.Name y py) X.env)) (Q := fun _ s' => SP X pins D .next s') rfl hs (closure_cls (S.closes I.ok)) S.kind S.names
    (thn (hi pins s σ H _ I h) fun v s1 h1 => thn h1 fun itv s2 h2 => ?_)) (fun _ s' hq => wpAny_pure (wpAny_pure hq)) fun _ _ e => e)
  obtain ⟨it, fp, tn, J, H2, e, I2, T, st2, f2, W, ⟨m0, w0⟩, turn⟩ := h2
  subst e
  refine comp_block2 S hc I2 T st2 f2 hg hb2 W (fun ys G => ∀ l, G l = none → D.nx (σ.set j (some (.ref l))) (upd G l (.lst ys))) w0 turn (RR := fun acc C => compPost (model X.prog X.w) X.A X.xe (some (assign (.Name y py) X.env)) (fun _ s' => SP X pins D .next s') acc C) ?_
  intro L C s' G ys hD I' hn hCn hL h0 hcl hp fin
  obtain ⟨m, hm⟩ := hn
  show wpAny _ X.A (assign (.Name y py) X.env (.ref L)) _ _ _
  refine wpAny_assign_Name (store_ok2 I' hN hj hy (v := .ref L) rfl (fun s3 I3 hsb => ?_) hfn)
  obtain ⟨a, sb, ha⟩ := hsb
  have hCa : C ≠ a := by
    rcases ha with z | z
    · rw [z]; exact hL
    · exact fun q => hcl y a z q.symm
  refine ⟨m, hm.sameBut sb hCa, fun h' sb' => ⟨_, _, I3.turned (it := C) (t' := s3.toks) (fun b o hb e => (sb'.2 b hb).trans e) hCn hL (.inr h0) hcl hp, fin L hD⟩⟩
end
theorem pg_pair {X : Cx} {scope : Scope} {x1 x2 : Str} {C : Addr} {s : Shared} {H : Hp} {fp : List Addr} {k : Nat} {tp p1 p2 : Pos} (h1 : scope.names.lookup x1 = some .local) (h2 : scope.names.lookup x2 = some .local) (hn : x1 ≠ x2) (hc : X.calm = true) :
    PG (cxComp X scope C [x1, x2] s H fp) (.Tuple [.Name x1 p1, .Name x2 p2] k tp) (gTup X.K 2 (gCons (gName 0) (gCons (gName 1) gNil))) := by
  have nd : (cxComp X scope C [x1, x2] s H fp).N.Nodup := by
    show ([x1, x2] : List Str).Nodup
    simp [hn]
  have o1 : (cxComp X scope C [x1, x2] s H fp).env.scope.names.lookup x1 = some .local := lookup_relabel_local h1
  have o2 : (cxComp X scope C [x1, x2] s H fp).env.scope.names.lookup x2 = some .local := lookup_relabel_local h2
  exact pg_tup (X := cxComp X scope C [x1, x2] s H fp) hc (pgs_cons (pg_name (i := 0) nd rfl (.inl o1) (.inr o1)) (pgs_cons (pg_name (i := 1) nd rfl (.inl o2) (.inr o2)) pgs_nil))
theorem ps_setPair {X : Cx} {scope : Scope} {x1 x2 : Str} {elt iter : Expr} {pos : Pos} {te : TE} {wi : TI} {y : Str} {py spos tp p1 p2 : Pos} {j k : Nat} (hN : X.N.Nodup) (hj : X.N[j]? = some y) (hy : Loc X.env.scope y) (S : CompScope X scope x1 [] []) (hc : X.calm = true)
    (h12 : scope.names.lookup x1 = some .local ∧ scope.names.lookup x2 = some .local ∧ x1 ≠ x2) (hi : PI X (.Tuple [.Name x1 p1, .Name x2 p2] k tp) iter wi) (hb2 : ∀ C s H fp, PE (cxComp X scope C [x1, x2] s H fp) elt te)
    (hsw : swapsWith (.ListComp elt [⟨.Tuple [.Name x1 p1, .Name x2 p2] k tp, iter, [], 0⟩] scope pos) (some (.Name y py)) spos.line X.env = pure true := by rfl)
    (hs : ∀ x, foldedSetIterable iter X.env x = pure x := by intro _; rfl) (hfn : X.fn y = true ∨ X.env.scope.names.lookup y = some .local := by first | exact .inl rfl | exact .inr rfl | assumption) :
    PS X (.Assign [.Name y py] (.ListComp elt [⟨.Tuple [.Name x1 p1, .Name x2 p2] k tp, iter, [], 0⟩] scope pos) spos) (tAsg (tComp2 2 wi (gTup X.K 2 (gCons (gName 0) (gCons (gName 1) gNil))) te) (gName j)) :=
  ps_setComp2 (N := [x1, x2]) hN hj hy S hc hi (fun _ _ _ _ => pg_pair h12.1 h12.2.1 h12.2.2 hc) hb2 hsw hs hfn
end L2
namespace Ms
def ch : Nat → Nat → Nat
  | _, 0 => 1
  | 0, _ + 1 => 0
  | n + 1, k + 1 => ch n k + ch n (k + 1)
theorem ch_zero (n : Nat) : ch n 0 = 1 := by cases n <;> rfl
theorem ch_succ (n k : Nat) : ch (n + 1) (k + 1) = ch n k + ch n (k + 1) := rfl
theorem ch_gt : ∀ (n k : Nat), n < k → ch n k = 0
  | 0, k + 1, _ => rfl
  | n + 1, k + 1, h => by rw [ch_succ, ch_gt n k (by omega), ch_gt n (k + 1) (by omega)]
theorem ch_self : ∀ (n : Nat), ch n n = 1
  | 0 => rfl
  | n + 1 => by rw [ch_succ, ch_self n, ch_gt n (n + 1) (by omega)]
theorem ch_step : ∀ (n k : Nat), ch n (k + 1) * (k + 1) + ch n k * k = ch n k * n
  | 0, 0 => rfl
  | 0, k + 1 => by simp [ch]
  | n + 1, 0 => by
    have h := ch_step n 0
    rw [ch_succ, ch_zero, ch_zero] at *
    omega
  | n + 1, k + 1 => by
    have h1 := ch_step n k
    have h2 := ch_step n (k + 1)
    rw [ch_succ n (k + 1), ch_succ n k]
    generalize ch n k = a at *
    generalize ch n (k + 1) = b at *
    generalize ch n (k + 1 + 1) = c at *
    simp only [Nat.add_mul, Nat.mul_add, Nat.mul_one] at *
    omega
theorem ch_next {n k : Nat} (h : k ≤ n) : ch n (k + 1) * (k + 1) = ch n k * (n - k) := by
  have := ch_step n k
  rw [Nat.mul_sub]
  omega
theorem ch_symm : ∀ (n k : Nat), k ≤ n → ch n k = ch n (n - k)
  | n, 0, _ => by rw [ch_zero, Nat.sub_zero, ch_self]
  | 0, k + 1, h => by omega
  | n + 1, k + 1, h => by
    by_cases e : k = n
    · subst e
      rw [ch_self, Nat.sub_self, ch_zero]
    · have e1 : n + 1 - (k + 1) = (n - (k + 1)) + 1 := by omega
      rw [e1, ch_succ, ch_succ, ch_symm n k (by omega), ch_symm n (k + 1) (by omega)]
      have e2 : n - k = n - (k + 1) + 1 := by omega
      rw [e2, Nat.add_comm]
def cho (length ones : Int) : Int := if ones < 0 ∨ length < ones then 0 else (ch length.toNat ones.toNat : Nat)
theorem cho_out {l o : Int} (h : o < 0 ∨ l < o) : cho l o = 0 := by unfold cho; rw [if_pos h]
theorem cho_in {l o : Int} (h0 : 0 ≤ o) (h1 : o ≤ l) : cho l o = (ch l.toNat o.toNat : Nat) := by
  unfold cho; rw [if_neg (by omega)]
theorem cho_zero {l : Int} (h : 0 ≤ l) : cho l 0 = 1 := by
  rw [cho_in (by omega) h]
  show ((ch l.toNat 0 : Nat) : Int) = 1
  rw [ch_zero]; rfl
theorem cho_symm {l o : Int} (h0 : 0 ≤ o) (h1 : o ≤ l) : cho l o = cho l (l - o) := by
  rw [cho_in h0 h1, cho_in (by omega) (by omega), ch_symm _ _ (by omega)]
  have : (l - o).toNat = l.toNat - o.toNat := by omega
  rw [this]
theorem cho_turn {l : Int} {g : Nat} (h : (g : Int) < l) : Int.fdiv (cho l g * (l - g)) (g + 1) = cho l (g + 1) := by
  have e : cho l g * (l - g) = cho l (g + 1) * (g + 1) := by
    rw [cho_in (by omega) (by omega), cho_in (by omega) (by omega)]
    have e1 : ((g : Int)).toNat = g := by omega
    have e2 : ((g : Int) + 1).toNat = g + 1 := by omega
    rw [e1, e2]
    have n := @ch_next l.toNat g (by omega)
    have e3 : l - (g : Int) = ((l.toNat - g : Nat) : Int) := by omega
    rw [e3]
    have e4 : (g : Int) + 1 = ((g + 1 : Nat) : Int) := by omega
    rw [e4, ← Int.natCast_mul, ← Int.natCast_mul, n]
  rw [e, Int.fdiv_eq_ediv_of_nonneg _ (by omega), Int.mul_ediv_cancel _ (by omega)]
end Ms
namespace Ms
def rowT (s : Nat) : Nat → Nat → List Nat
  | 0, _ => []
  | n + 1, p => ((p % s + s - (p / s) % s) % s) :: rowT s n (p / s)
theorem rowT_succ (s n p : Nat) : rowT s (n + 1) p = ((p % s + s - (p / s) % s) % s) :: rowT s n (p / s) := rfl
def plT (s : Nat) : List Nat → Nat
  | [] => 0
  | m :: r => (m + plT s r % s) % s + s * plT s r
def turnAt (s : Nat) : Nat → List Nat → List Nat
  | 0, [] => []
  | _ + 1, [] => []
  | 0, m :: r => ((m + 1) % s) :: r
  | j + 1, m :: r => m :: turnAt s j r
def spotT (s : Nat) : Nat → Nat → Nat
  | 0, _ => 0
  | 1, _ => 0
  | n + 2, p => if p % s = s - 1 then spotT s (n + 1) (p / s) + 1 else 0
theorem rowT_len (s : Nat) : ∀ n p, (rowT s n p).length = n
  | 0, _ => rfl
  | n + 1, p => by rw [rowT, List.length_cons, rowT_len s n]
theorem plT_lt {s : Nat} (hs : 0 < s) : ∀ r : List Nat, plT s r < s ^ r.length
  | [] => by simp [plT]
  | m :: r => by
    have ih := plT_lt hs r
    have h1 := Nat.mod_lt (m + plT s r % s) hs
    rw [plT, List.length_cons, Nat.pow_succ, Nat.mul_comm (s ^ r.length)]
    have h2 : s * (plT s r + 1) ≤ s * s ^ r.length := Nat.mul_le_mul_left s ih
    rw [Nat.mul_add, Nat.mul_one] at h2
    omega
end Ms
namespace Ms
def rowR : Nat → Nat → Nat → List Nat
  | 0, _, _ => []
  | n + 1, k, p => if p < ch n k then 0 :: rowR n k p else 1 :: rowR n (k - 1) (ch n (k - 1) - 1 - (p - ch n k))
def plR : List Nat → Nat
  | [] => 0
  | b :: r => if b = 0 then plR r else ch r.length (r.sum + 1) + (ch r.length r.sum - 1 - plR r)
theorem rowR_succ (n k p : Nat) : rowR (n + 1) k p = if p < ch n k then 0 :: rowR n k p else 1 :: rowR n (k - 1) (ch n (k - 1) - 1 - (p - ch n k)) := rfl
theorem plR_cons0 (r : List Nat) : plR (0 :: r) = plR r := by rw [plR, if_pos rfl]
theorem plR_cons1 (r : List Nat) : plR (1 :: r) = ch r.length (r.sum + 1) + (ch r.length r.sum - 1 - plR r) := by rw [plR, if_neg (by decide)]
def Bits (r : List Nat) : Prop := ∀ b ∈ r, b = 0 ∨ b = 1
theorem Bits.tail {b : Nat} {r : List Nat} (h : Bits (b :: r)) : Bits r := fun x hx => h x (List.mem_cons.mpr (Or.inr hx))
theorem Bits.head {b : Nat} {r : List Nat} (h : Bits (b :: r)) : b = 0 ∨ b = 1 := h b (List.mem_cons_self ..)
theorem Bits.sum_le : ∀ {r : List Nat}, Bits r → r.sum ≤ r.length
  | [], _ => Nat.le_refl _
  | b :: r, h => by
    have := h.tail.sum_le
    rw [List.sum_cons, List.length_cons]
    rcases h.head with e | e <;> omega
theorem ch_split (n k : Nat) : ch (n + 1) k = ch n k + (if k = 0 then 0 else ch n (k - 1)) := by
  cases k with
  | zero => rw [ch_zero, ch_zero, if_pos rfl]
  | succ k => rw [ch_succ, if_neg (by omega), Nat.add_sub_cancel, Nat.add_comm]
theorem plR_lt : ∀ r : List Nat, Bits r → plR r < ch r.length r.sum
  | [], _ => by decide
  | b :: r, h => by
    have ih := plR_lt r h.tail
    rcases h.head with e | e
    · subst e
      rw [plR_cons0, List.length_cons, List.sum_cons, Nat.zero_add, ch_split]
      omega
    · subst e
      rw [plR_cons1, List.length_cons, List.sum_cons, Nat.add_comm 1, ch_succ]
      omega
end Ms
namespace Ms
structure Sw (r r' : List Nat) (o i : Nat) : Prop where
  one : r[o]? = some 1
  nought : r[i]? = some 0
  len : r'.length = r.length
  get : ∀ j, r'[j]? = if j = o then some 0 else if j = i then some 1 else r[j]?
def gR : List Nat → Nat
  | [] => 0
  | b :: r => if b = 0 then gR r else 2 ^ (r.length + 1) - 1 - gR r
theorem Bits.reverse {a : List Nat} (ha : Bits a) : Bits a.reverse := fun x hx => ha x (List.mem_reverse.mp hx)
termination_by r r' => r.length + r'.length
decreasing_by all_goals simp_wf <;> omega
def ahead (n k : Nat) : Nat → Nat
  | 0 => 0
  | g + 1 => ahead n k g + if (rowT 2 n g).sum = k then 1 else 0
theorem sum_reverse (r : List Nat) : r.reverse.sum = r.sum := by simp
end Ms
namespace Ms
def rowI (s n p : Int) : List Int := (rowT s.toNat n.toNat p.toNat).map Int.ofNat
def plI (s : Int) (r : List Int) : Int := (plT s.toNat (r.map Int.toNat) : Nat)
theorem rowI_len {s n p : Int} : (rowI s n p).length = n.toNat := by unfold rowI; rw [List.length_map, rowT_len]
theorem pow_toNat {s : Int} (h : 0 ≤ s) (n : Nat) : ((s.toNat ^ n : Nat) : Int) = s ^ n := by
  rw [Int.natCast_pow]
  congr 1
  omega
theorem plI_nn {s : Int} {r : List Int} : 0 ≤ plI s r := Int.natCast_nonneg _
theorem plI_lt {s : Int} {r : List Int} (hs : 0 < s) : plI s r < s ^ r.length := by
  unfold plI
  have h := plT_lt (s := s.toNat) (by omega) (r.map Int.toNat)
  rw [List.length_map] at h
  have hp := pow_toNat (s := s) (by omega) r.length
  omega
theorem pow_pos' {s : Int} (h : 0 < s) (n : Nat) : 0 < s ^ n := by
  induction n with
  | zero => simp
  | succ n ih => rw [Int.pow_succ]; exact Int.mul_pos ih h
theorem natAbs_pow' (s : Int) (n : Nat) : (s ^ n).natAbs = s.natAbs ^ n := by
  induction n with
  | zero => simp
  | succ n ih => rw [Int.pow_succ, Int.natAbs_mul, ih, Nat.pow_succ]
theorem fits_pow {s : Int} (h0 : 0 ≤ s) (h1 : s ≤ 1000000000000) {n : Nat} (hn : n ≤ 200) : L2.Fits (s ^ n) := by
  refine L2.Fits.of_lt (k := 8001) (by decide) ?_
  rw [natAbs_pow']
  have a : s.natAbs ^ n ≤ (2 ^ 40) ^ n := Nat.pow_le_pow_left (by omega) n
  have b : (2 ^ 40) ^ n = 2 ^ (40 * n) := (Nat.pow_mul 2 40 n).symm
  have c : 2 ^ (40 * n) < 2 ^ 8001 := Nat.pow_lt_pow_right (by decide) (by omega)
  rw [b] at a
  exact Nat.lt_of_le_of_lt a c
def figI (s p : Int) (j : Nat) : Int := p / s ^ j % s
theorem rowT_get (s : Nat) : ∀ n p j, j < n → (rowT s n p)[j]? = some ((p / s ^ j % s + s - p / s ^ (j + 1) % s) % s)
  | 0, _, _, h => by omega
  | n + 1, p, 0, _ => by rw [rowT_succ, List.getElem?_cons_zero]; simp
  | n + 1, p, j + 1, h => by
    rw [rowT_succ, List.getElem?_cons_succ, rowT_get s n (p / s) j (by omega), Nat.div_div_eq_div_mul, Nat.div_div_eq_div_mul, Nat.pow_succ s j, Nat.pow_succ s (j + 1), Nat.pow_succ s j]
    congr 5 <;> rw [Nat.mul_comm]
theorem figI_nat {s p : Int} (hs : 0 ≤ s) (hp : 0 ≤ p) (j : Nat) : figI s p j = ((p.toNat / s.toNat ^ j % s.toNat : Nat) : Int) := by
  unfold figI
  have e1 : p = (p.toNat : Int) := by omega
  have e2 : s = (s.toNat : Int) := by omega
  rw [Int.natCast_emod, Int.natCast_ediv, Int.natCast_pow, ← e1, ← e2]
theorem rowI_get {s n p : Int} (hs : 0 < s) (hp : 0 ≤ p) {j : Nat} (hj : (j : Int) < n) :
    (rowI s n p)[j]? = some (if figI s p j - figI s p (j + 1) < 0 then figI s p j - figI s p (j + 1) + s else figI s p j - figI s p (j + 1)) := by
  unfold rowI
  rw [List.getElem?_map, rowT_get s.toNat n.toNat p.toNat j (by omega), figI_nat (by omega) hp, figI_nat (by omega) hp]
  have h1 := Nat.mod_lt (p.toNat / s.toNat ^ j) (show s.toNat > 0 by omega)
  have h2 := Nat.mod_lt (p.toNat / s.toNat ^ (j + 1)) (show s.toNat > 0 by omega)
  generalize p.toNat / s.toNat ^ j % s.toNat = x at *
  generalize p.toNat / s.toNat ^ (j + 1) % s.toNat = y at *
  show some ((((x + s.toNat - y) % s.toNat : Nat)) : Int) = _
  congr 1
  by_cases c : x < y
  · rw [Nat.mod_eq_of_lt (by omega), if_pos (by omega)]
    omega
  · rw [show x + s.toNat - y = (x - y) + s.toNat by omega, Nat.add_mod_right, Nat.mod_eq_of_lt (by omega), if_neg (by omega)]
    omega
theorem div_step {s p : Int} (hs : 0 < s) (i : Nat) : p / s ^ (i + 1) = p / s ^ i / s := by
  rw [Int.ediv_ediv_of_nonneg (Int.le_of_lt (pow_pos' hs i)), Int.pow_succ]
theorem figI_last {s p : Int} {n : Nat} (h0 : 0 ≤ p) (h1 : p < s ^ n) : figI s p n = 0 := by
  unfold figI
  rw [Int.ediv_eq_zero_of_lt h0 h1]
  rfl
def spotI (s n p : Int) : Int := (spotT s.toNat n.toNat p.toNat : Nat)
def turnI (s : Int) (row : List Int) (j by' : Int) : List Int := row.set j.toNat ((row.getD j.toNat 0 + by') % s)
end Ms
namespace My
open PySem L2
section
variable (K : PySem.W.Frag) (C : Addr) (TA : Hp → Addr → Int → Int → Prop)
def spInitT : Sp := fun vs H Q _ => ∃ (x dx : Addr) (s n : Int), vs = [.ref x, .int s, .int n] ∧ H x = some (.ins C dx []) ∧ 2 ≤ s ∧ s ≤ 1000000000000 ∧ 0 ≤ n ∧ n ≤ 200 ∧ ∀ H' : Hp, (∀ b o, H b = some o → b ≠ x → H' b = some o) → TA H' x s n → Q .non H'
def spManyT : Sp := fun vs H Q _ => ∃ (p : Addr) (s n : Int), vs = [.ref p] ∧ TA H p s n ∧ ∀ H', Same H H' → Q (.int (s ^ n.toNat)) H'
def spRowAtT : Sp := fun vs H Q _ => ∃ (p : Addr) (k s n : Int), vs = [.ref p, .int k] ∧ TA H p s n ∧ 0 ≤ k ∧ k < s ^ n.toNat ∧ ∀ (l : Addr) (H' : Hp), Same H H' → H l = none → H' l = some (.lst ((Ms.rowI s n k).map V.int)) → Q (.ref l) H'
def spPlaceOfT : Sp := fun vs H Q _ => ∃ (p r : Addr) (s n : Int) (row : List Int), vs = [.ref p, .ref r] ∧ TA H p s n ∧ SqL K H r (row.map V.int) ∧ (row.length : Int) = n ∧ (∀ m ∈ row, 0 ≤ m ∧ m < s) ∧ ∀ H', Same H H' → Q (.int (Ms.plI s row)) H'
def spChangeT : Sp := fun vs H Q _ => ∃ (p r : Addr) (s n : Int) (row : List Int), vs = [.ref p, .ref r] ∧ TA H p s n ∧ SqL K H r (row.map V.int) ∧ (row.length : Int) = n ∧ (∀ m ∈ row, 0 ≤ m ∧ m < s) ∧
  (n = 0 → ∀ H', Same H H' → Q .non H') ∧ (n ≠ 0 → ∀ (t : Addr) (H' : Hp), Same H H' → H t = none → H' t = some (.tup [.str "turn", .int (Ms.spotI s n (Ms.plI s row))]) → Q (.ref t) H')
def spStepT (by' : Int) : Sp := fun vs H Q _ => ∃ (p r : Addr) (s n : Int) (row : List Int), vs = [.ref p, .ref r] ∧ TA H p s n ∧ SqL K H r (row.map V.int) ∧ (row.length : Int) = n ∧ (∀ m ∈ row, 0 ≤ m ∧ m < s) ∧
  ∀ (l : Addr) (H' : Hp), Same H H' → H l = none → H' l = some (.lst ((Ms.rowI s n ((Ms.plI s row + by') % s ^ n.toNat)).map V.int)) → Q (.ref l) H'
def spDoneT (by' : Int) : Sp := fun vs H Q _ => ∃ (p r : Addr) (c : V) (s n : Int) (row made : List Int), vs = [.ref p, .ref r, c] ∧ TA H p s n ∧ SqL K H r (row.map V.int) ∧ (row.length : Int) = n ∧ (∀ m ∈ row, 0 ≤ m ∧ m < s) ∧
  ((c = .non ∧ made = row) ∨ ∃ (t : Addr) (j : Int), c = .ref t ∧ SqT K H t [.str "turn", .int j] ∧ 0 ≤ j ∧ j < n ∧ made = Ms.turnI s row j by') ∧
  ∀ (l : Addr) (H' : Hp), Same H H' → H l = none → H' l = some (.lst (made.map V.int)) → Q (.ref l) H'
structure Kind (ms : List Str) : Prop where
  ins : ∀ {H : Hp} {p : Addr} {s n : Int}, TA H p s n → ∃ dx fs, H p = some (.ins C dx fs) ∧ ∀ m ∈ ms, fs.lookup m = none
  same : ∀ {H H' : Hp} {p : Addr} {s n : Int}, TA H p s n → Same H H' → TA H' p s n
  facts : ∀ {H : Hp} {p : Addr} {s n : Int}, TA H p s n → 2 ≤ s ∧ s ≤ 1000000000000 ∧ 0 ≤ n ∧ n ≤ 200
end
end My
namespace Ms
theorem plT_drop {s : Nat} (hs : 0 < s) : ∀ (j : Nat) (r : List Nat), plT s (r.drop j) = plT s r / s ^ j
  | 0, r => by rw [List.drop_zero, Nat.pow_zero, Nat.div_one]
  | j + 1, [] => by rw [List.drop_nil, plT, Nat.zero_div]
  | j + 1, m :: r => by
    have hf := Nat.mod_lt (m + plT s r % s) hs
    rw [List.drop_succ_cons, plT_drop hs j r, Nat.pow_succ, Nat.mul_comm, ← Nat.div_div_eq_div_mul, plT, Nat.add_comm ((m + plT s r % s) % s), Nat.mul_add_div hs, Nat.div_eq_of_lt hf, Nat.add_zero]
theorem plI_drop {s : Int} {r : List Int} (hs : 0 < s) (j : Nat) : plI s (r.drop j) = plI s r / s ^ j := by
  unfold plI
  rw [List.map_drop, plT_drop (by omega), Int.natCast_ediv, pow_toNat (by omega)]
theorem fig_by {s : Int} {r : List Int} (hs : 0 < s) (h : ∀ m ∈ r, 0 ≤ m ∧ m < s) {j : Nat} {m : Int} (hm : r[j]? = some m) : (m + figI s (plI s r) (j + 1)) % s = figI s (plI s r) j := by
  have hj : j < r.length := (List.getElem?_eq_some_iff.mp hm).1
  have hb := h m (List.mem_of_getElem? hm)
  unfold figI
  rw [← plI_drop hs, ← plI_drop hs]
  have e : r.drop j = m :: r.drop (j + 1) := by
    rw [List.drop_eq_getElem_cons hj]
    congr 1
    rw [List.getElem?_eq_getElem hj] at hm
    exact Option.some.inj hm
  rw [e]
  generalize r.drop (j + 1) = t
  unfold plI
  rw [List.map_cons, plT]
  generalize plT s.toNat (t.map Int.toNat) = q
  rw [Int.natCast_add, Int.natCast_emod, Int.natCast_add, Int.natCast_emod, Int.natCast_mul, show ((s.toNat : Nat) : Int) = s by omega, show ((m.toNat : Nat) : Int) = m by omega, Int.add_mul_emod_self_left, Int.emod_emod_of_dvd _ (Int.dvd_refl s)]
theorem fig_top {s : Int} {r : List Int} (hs : 0 < s) : figI s (plI s r) r.length = 0 := figI_last plI_nn (plI_lt hs)
theorem fig_in {s p : Int} (hs : 0 < s) (j : Nat) : 0 ≤ figI s p j ∧ figI s p j < s := ⟨Int.emod_nonneg _ (by omega), Int.emod_lt_of_pos _ hs⟩
def figs (s : Int) (r : List Int) : List Int := (List.range r.length).map fun j => figI s (plI s r) j
theorem figs_len {s : Int} {r : List Int} : (figs s r).length = r.length := by unfold figs; rw [List.length_map, List.length_range]
theorem figs_get {s : Int} {r : List Int} {j : Nat} (h : j < r.length) : (figs s r)[j]? = some (figI s (plI s r) j) := by
  unfold figs
  rw [List.getElem?_map, List.getElem?_range h]
  rfl
def figR (s : Int) (r : List Int) (i : Nat) : List Int := (List.range i).map fun k => figI s (plI s r) (r.length - 1 - k)
theorem figR_succ (s : Int) (r : List Int) (i : Nat) : figR s r (i + 1) = figR s r i ++ [figI s (plI s r) (r.length - 1 - i)] := by
  unfold figR
  rw [List.range_succ, List.map_append, List.map_singleton]
theorem figR_rev (s : Int) (r : List Int) : (figR s r r.length).reverse = figs s r := by
  apply List.ext_getElem?
  intro j
  by_cases h : j < r.length
  · have hl : (figR s r r.length).length = r.length := by unfold figR; rw [List.length_map, List.length_range]
    rw [List.getElem?_reverse (by rw [hl]; exact h), hl, figs_get h]
    unfold figR
    rw [List.getElem?_map, List.getElem?_range (by omega)]
    show some (figI s (plI s r) (r.length - 1 - (r.length - 1 - j))) = _
    rw [show r.length - 1 - (r.length - 1 - j) = j by omega]
  · rw [List.getElem?_eq_none (by unfold figR; simp; omega), List.getElem?_eq_none (by rw [figs_len]; omega)]
theorem place_by {s P : Int} (hs : 0 < s) (j : Nat) : P / s ^ (j + 1) * s + figI s P j = P / s ^ j := by
  rw [div_step hs]
  unfold figI
  rw [Int.mul_comm]
  exact Int.mul_ediv_add_emod _ _
theorem place_top {s : Int} {r : List Int} (hs : 0 < s) : plI s r / s ^ r.length = 0 := Int.ediv_eq_zero_of_lt plI_nn (plI_lt hs)
theorem sub_mod {s x y : Int} (hx : 0 ≤ x ∧ x < s) (hy : 0 ≤ y ∧ y < s) : (x - y) % s = if x - y < 0 then x - y + s else x - y := by
  split
  · rw [← Int.add_emod_right, Int.emod_eq_of_lt (by omega) (by omega)]
  · rw [Int.emod_eq_of_lt (by omega) (by omega)]
theorem rowI_take {s n p : Int} (hs : 0 < s) (hp : 0 ≤ p) {i : Nat} (hi : (i : Int) < n) : (rowI s n p).take (i + 1) = (rowI s n p).take i ++ [(figI s p i - figI s p (i + 1)) % s] := by
  rw [List.take_add_one, rowI_get hs hp hi, sub_mod (fig_in hs i) (fig_in hs (i + 1))]
  rfl
theorem rowI_all {s n p : Int} : (rowI s n p).take n.toNat = rowI s n p := List.take_of_length_le (by rw [rowI_len]; exact Nat.le_refl _)
theorem fig_zero {s p : Int} : figI s p 0 = p % s := by unfold figI; rw [Int.pow_zero, Int.ediv_one]
end Ms
namespace My
open PySem L2
theorem ixN_of {n : Nat} {j : Int} (h0 : 0 ≤ j) (h1 : j < n) : ixN n j = some j.toNat := by
  unfold ixN
  rw [if_pos h0, if_pos h1]
def fldT (s n : Int) : List (Str × V) := putF "length" (.int n) (putF "signs" (.int s) (putF "size" (.int (s ^ n.toNat)) []))
def TAt (C : Addr) (H : Hp) (p : Addr) (s n : Int) : Prop := (2 ≤ s ∧ s ≤ 1000000000000 ∧ 0 ≤ n ∧ n ≤ 200) ∧ ∃ dx, H p = some (.ins C dx (fldT s n))
structure CT (K : PySem.W.Frag) (C : Addr) : Prop where
  cl : Cls K C
  size : NoAttr K C "size"
  signs : NoAttr K C "signs"
  length : NoAttr K C "length"
section
variable {K : PySem.W.Frag} {C p : Addr} {H : Hp} {s n : Int}
theorem fldT_size : (fldT s n).lookup ("size" : Str) = some (.int (s ^ n.toNat)) := by
  unfold fldT
  rw [lookup_putF, if_neg (by decide +kernel), lookup_putF, if_neg (by decide +kernel), lookup_putF, if_pos rfl]
theorem fldT_signs : (fldT s n).lookup ("signs" : Str) = some (.int s) := by
  unfold fldT
  rw [lookup_putF, if_neg (by decide +kernel), lookup_putF, if_pos rfl]
theorem fldT_length : (fldT s n).lookup ("length" : Str) = some (.int n) := by
  unfold fldT
  rw [lookup_putF, if_pos rfl]
theorem fldT_no {m : Str} (h1 : ¬ m = "length") (h2 : ¬ m = "signs") (h3 : ¬ m = "size") : (fldT s n).lookup m = none := by
  unfold fldT
  rw [lookup_putF, if_neg h1, lookup_putF, if_neg h2, lookup_putF, if_neg h3]
  rfl
theorem TAt.same {H' : Hp} (A : TAt C H p s n) (S : Same H H') : TAt C H' p s n := by
  obtain ⟨f, dx, h⟩ := A
  exact ⟨f, dx, S _ _ h⟩
theorem TAt.upd {l : Addr} {o : HO} (A : TAt C H p s n) (h : H l = none) : TAt C (upd H l o) p s n := by
  obtain ⟨f, dx, e⟩ := A
  exact ⟨f, dx, by rw [upd_ne (ne_of_none e h)]; exact e⟩
noncomputable def TAt.dx (A : TAt C H p s n) : Addr := Classical.choose A.2
theorem TAt.ob (A : TAt C H p s n) : H p = some (.ins C A.dx (fldT s n)) := Classical.choose_spec A.2
theorem kindT {ms : List Str} (h : ∀ m ∈ ms, ¬ m = "length" ∧ ¬ m = "signs" ∧ ¬ m = "size") : Kind C (TAt C) ms where
  ins := fun A => by
    obtain ⟨f, dx, e⟩ := A
    exact ⟨dx, _, e, fun m hm => fldT_no (h m hm).1 (h m hm).2.1 (h m hm).2.2⟩
  same := fun A S => A.same S
  facts := fun A => A.1
end
section
variable (K : PySem.W.Frag) (C : Addr)
def spBaseInit : Sp := fun vs H Q _ => ∃ (x dx : Addr) (z : Int) (fs : List (Str × V)), vs = [.ref x, .int z] ∧ H x = some (.ins C dx fs) ∧ fs.length < 1000 ∧ Q .non (upd H x (.ins C dx (putF "size" (.int z) fs)))
def spCountAll : Sp := fun vs H Q _ => ∃ s n : Int, vs = [.int s, .int n] ∧ 0 ≤ s ∧ s ≤ 1000000000000 ∧ 0 ≤ n ∧ n ≤ 200 ∧ Q (.int (s ^ n.toNat)) H
def spPlaceOkT : Sp := fun vs H Q _ => ∃ (p : Addr) (k s n : Int), vs = [.ref p, .int k] ∧ TAt C H p s n ∧ 0 ≤ k ∧ k < s ^ n.toNat ∧ Q .non H
def spRowOkT : Sp := fun vs H Q _ => ∃ (p r : Addr) (s n : Int) (row : List Int), vs = [.ref p, .ref r] ∧ TAt C H p s n ∧ SqL K H r (row.map V.int) ∧ (row.length : Int) = n ∧ (∀ m ∈ row, 0 ≤ m ∧ m < s) ∧ Q .non H
def spFigsT : Sp := fun vs H Q _ => ∃ (p r : Addr) (s n : Int) (row : List Int), vs = [.ref p, .ref r] ∧ TAt C H p s n ∧ SqL K H r (row.map V.int) ∧ (row.length : Int) = n ∧ (∀ m ∈ row, 0 ≤ m ∧ m < s) ∧
  ∀ (l : Addr) (H' : Hp), Same H H' → H l = none → H' l = some (.lst ((Ms.figs s row).map V.int)) → Q (.ref l) H'
def spTurnOkT : Sp := fun vs H Q _ => ∃ (p t : Addr) (s n j : Int), vs = [.ref p, .ref t] ∧ TAt C H p s n ∧ SqT K H t [.str "turn", .int j] ∧ 0 ≤ j ∧ j < n ∧ Q .non H
def spTurnedT : Sp := fun vs H Q _ => ∃ (p r : Addr) (c : V) (by' s n : Int) (row made : List Int), vs = [.ref p, .ref r, c, .int by'] ∧ TAt C H p s n ∧ SqL K H r (row.map V.int) ∧ (row.length : Int) = n ∧ (∀ m ∈ row, 0 ≤ m ∧ m < s) ∧
  ((c = .non ∧ made = row) ∨ ∃ (t : Addr) (j : Int), c = .ref t ∧ SqT K H t [.str "turn", .int j] ∧ 0 ≤ j ∧ j < n ∧ made = Ms.turnI s row j by') ∧
  ∀ (l : Addr) (H' : Hp), Same H H' → H l = none → H' l = some (.lst (made.map V.int)) → Q (.ref l) H'
def spLeapT : Sp := fun vs H Q _ => ∃ (p r : Addr) (k s n : Int) (row : List Int), vs = [.ref p, .ref r, .int k] ∧ TAt C H p s n ∧ SqL K H r (row.map V.int) ∧ (row.length : Int) = n ∧ (∀ m ∈ row, 0 ≤ m ∧ m < s) ∧
  ∀ (l : Addr) (H' : Hp), Same H H' → H l = none → H' l = some (.lst ((Ms.rowI s n ((Ms.plI s row + k) % s ^ n.toNat)).map V.int)) → Q (.ref l) H'
def spStepsT : Sp := fun vs H Q _ => ∃ (p r r2 : Addr) (s n : Int) (row row2 : List Int), vs = [.ref p, .ref r, .ref r2] ∧ TAt C H p s n ∧ SqL K H r (row.map V.int) ∧ (row.length : Int) = n ∧ (∀ m ∈ row, 0 ≤ m ∧ m < s) ∧
  SqL K H r2 (row2.map V.int) ∧ (row2.length : Int) = n ∧ (∀ m ∈ row2, 0 ≤ m ∧ m < s) ∧ ∀ H', Same H H' → Q (.int ((Ms.plI s row2 - Ms.plI s row) % s ^ n.toNat)) H'
end
end My
namespace Ms
def rowC (n k p : Int) : List Int := (rowR n.toNat k.toNat p.toNat).reverse.map Int.ofNat
def plC (r : List Int) : Int := (plR (r.map Int.toNat).reverse : Nat)
def BitsI (r : List Int) : Prop := ∀ m ∈ r, m = 0 ∨ m = 1
theorem cho_nat {n k : Int} (h0 : 0 ≤ k) (h1 : k ≤ n) : cho n k = (ch n.toNat k.toNat : Nat) := cho_in h0 h1
theorem BitsI.nat {r : List Int} (h : BitsI r) : Bits (r.map Int.toNat) := fun b hb => by
  obtain ⟨m, hm, e⟩ := List.mem_map.mp hb
  rcases h m hm with z | z
  · left; rw [← e, z]; rfl
  · right; rw [← e, z]; rfl
structure SwI (r r' : List Int) (o i : Nat) : Prop where
  one : r[o]? = some 1
  nought : r[i]? = some 0
  len : r'.length = r.length
  get : ∀ j, r'[j]? = if j = o then some 0 else if j = i then some 1 else r[j]?
theorem SwI.lt {r r' : List Int} {o i : Nat} (h : SwI r r' o i) : o < r.length ∧ i < r.length := ⟨(List.getElem?_eq_some_iff.mp h.one).1, (List.getElem?_eq_some_iff.mp h.nought).1⟩
theorem SwI.ne {r r' : List Int} {o i : Nat} (h : SwI r r' o i) : o ≠ i := fun e => by
  have a := h.one
  rw [e, h.nought] at a
  cases a
def swapI (r : List Int) (o i : Int) : List Int := (r.set o.toNat 0).set i.toNat 1
theorem SwI.eq {r r' : List Int} {o i : Nat} (h : SwI r r' o i) : r' = swapI r o i := by
  unfold swapI
  have hl := h.lt
  apply List.ext_getElem?
  intro j
  show r'[j]? = ((r.set o 0).set i 1)[j]?
  rw [h.get]
  by_cases a : j = i
  · subst a
    rw [if_neg h.ne.symm, if_pos rfl, List.getElem?_set_self (by rw [List.length_set]; exact hl.2)]
  · rw [List.getElem?_set_ne (Ne.symm a)]
    by_cases b : j = o
    · subst b
      rw [if_pos rfl, List.getElem?_set_self hl.1]
    · rw [if_neg b, if_neg a, List.getElem?_set_ne (Ne.symm b)]
theorem swI_of {r : List Int} {o i : Nat} (ho : r[o]? = some 1) (hi : r[i]? = some 0) : SwI r (swapI r o i) o i := by
  have h1 : o < r.length := (List.getElem?_eq_some_iff.mp ho).1
  have h2 : i < r.length := (List.getElem?_eq_some_iff.mp hi).1
  have hne : o ≠ i := fun e => by rw [e, hi] at ho; cases ho
  refine ⟨ho, hi, by unfold swapI; rw [List.length_set, List.length_set], fun j => ?_⟩
  unfold swapI
  show ((r.set o 0).set i 1)[j]? = _
  by_cases a : j = i
  · subst a
    rw [List.getElem?_set_self (by rw [List.length_set]; exact h2), if_neg hne.symm, if_pos rfl]
  · rw [List.getElem?_set_ne (Ne.symm a)]
    by_cases b : j = o
    · subst b
      rw [List.getElem?_set_self h1, if_pos rfl]
    · rw [List.getElem?_set_ne (Ne.symm b), if_neg b, if_neg a]
theorem SwI.symm {r r' : List Int} {o i : Nat} (h : SwI r r' o i) : SwI r' r i o := by
  have n := h.ne
  refine ⟨?_, ?_, h.len.symm, fun j => ?_⟩
  · rw [h.get, if_neg n.symm, if_pos rfl]
  · rw [h.get, if_pos rfl]
  · by_cases a : j = i
    · subst a; rw [if_pos rfl, h.nought]
    · rw [if_neg a]
      by_cases b : j = o
      · subst b; rw [if_pos rfl, h.one]
      · rw [if_neg b, h.get, if_neg b, if_neg a]
end Ms
namespace My
open PySem L2
section
variable (K : PySem.W.Frag) (C : Addr) (CA : Hp → Addr → Int → Int → Prop)
def spInitC : Sp := fun vs H Q _ => ∃ (x dx : Addr) (n k : Int), vs = [.ref x, .int n, .int k] ∧ H x = some (.ins C dx []) ∧ 0 ≤ n ∧ n ≤ 200 ∧ 0 ≤ k ∧ k ≤ n ∧ ∀ H' : Hp, (∀ b o, H b = some o → b ≠ x → H' b = some o) → CA H' x n k → Q .non H'
def spManyC : Sp := fun vs H Q _ => ∃ (p : Addr) (n k : Int), vs = [.ref p] ∧ CA H p n k ∧ ∀ H', Same H H' → Q (.int (Ms.cho n k)) H'
def spRowAtC : Sp := fun vs H Q _ => ∃ (p : Addr) (i n k : Int), vs = [.ref p, .int i] ∧ CA H p n k ∧ 0 ≤ i ∧ i < Ms.cho n k ∧ ∀ (l : Addr) (H' : Hp), Same H H' → H l = none → H' l = some (.lst ((Ms.rowC n k i).map V.int)) → Q (.ref l) H'
def RowC (H : Hp) (r : Addr) (n k : Int) (row : List Int) : Prop := SqL K H r (row.map V.int) ∧ (row.length : Int) = n ∧ Ms.BitsI row ∧ row.sum = k
def spPlaceOfC : Sp := fun vs H Q _ => ∃ (p r : Addr) (n k : Int) (row : List Int), vs = [.ref p, .ref r] ∧ CA H p n k ∧ RowC K H r n k row ∧ ∀ H', Same H H' → Q (.int (Ms.plC row)) H'
def spChangeC : Sp := fun vs H Q _ => ∃ (p r : Addr) (n k : Int) (row : List Int), vs = [.ref p, .ref r] ∧ CA H p n k ∧ RowC K H r n k row ∧
  (Ms.cho n k = 1 → ∀ H', Same H H' → Q .non H') ∧ (Ms.cho n k ≠ 1 → ∀ (t : Addr) (o i : Nat) (H' : Hp), Same H H' → H t = none → H' t = some (.tup [.str "swap", .int o, .int i]) → Ms.SwI row (Ms.rowC n k ((Ms.plC row + 1) % Ms.cho n k)) o i → Q (.ref t) H')
def spStepC (by' : Int) : Sp := fun vs H Q _ => ∃ (p r : Addr) (n k : Int) (row : List Int), vs = [.ref p, .ref r] ∧ CA H p n k ∧ RowC K H r n k row ∧
  ∀ (l : Addr) (H' : Hp), Same H H' → H l = none → H' l = some (.lst ((Ms.rowC n k ((Ms.plC row + by') % Ms.cho n k)).map V.int)) → Q (.ref l) H'
def spDoneC (back : Bool) : Sp := fun vs H Q _ => ∃ (p r : Addr) (c : V) (n k : Int) (row made : List Int), vs = [.ref p, .ref r, c] ∧ CA H p n k ∧ RowC K H r n k row ∧
  ((c = .non ∧ made = row) ∨ ∃ (t : Addr) (o i : Nat), c = .ref t ∧ SqT K H t [.str "swap", .int o, .int i] ∧ (if back = true then Ms.SwI made row o i else Ms.SwI row made o i)) ∧
  ∀ (l : Addr) (H' : Hp), Same H H' → H l = none → H' l = some (.lst (made.map V.int)) → Q (.ref l) H'
structure KindC (ms : List Str) : Prop where
  ins : ∀ {H : Hp} {p : Addr} {n k : Int}, CA H p n k → ∃ dx fs, H p = some (.ins C dx fs) ∧ ∀ m ∈ ms, fs.lookup m = none
  same : ∀ {H H' : Hp} {p : Addr} {n k : Int}, CA H p n k → Same H H' → CA H' p n k
  facts : ∀ {H : Hp} {p : Addr} {n k : Int}, CA H p n k → 0 ≤ n ∧ n ≤ 200 ∧ 0 ≤ k ∧ k ≤ n
end
end My
namespace Ms
theorem ch_down {n k : Nat} (h : k ≤ n + 1) : ch (n + 1) k * (n + 1 - k) = ch n k * (n + 1) := by
  cases k with
  | zero => rw [ch_zero, ch_zero]; omega
  | succ k =>
    have a := ch_step n k
    by_cases hk : k ≤ n
    · have b := ch_next (n := n) (k := k) hk
      rw [ch_succ, Nat.add_mul]
      have e : ch n k * (n + 1 - (k + 1)) = ch n (k + 1) * (k + 1) := by rw [b]; congr 1; omega
      rw [e, ← Nat.mul_add]
      congr 1
      omega
    · omega
theorem ch_up0 {n k : Nat} (h : k ≤ n) : ch n k * (n + 1) / (n + 1 - k) = ch (n + 1) k := by
  rw [← ch_down (by omega), Nat.mul_div_cancel _ (by omega)]
theorem ch_up1 {n k : Nat} : ch n k * (n + 1) = ch (n + 1) (k + 1) * (k + 1) := by
  have a := ch_step n k
  rw [ch_succ, Nat.add_mul, Nat.mul_add, Nat.mul_add, Nat.mul_add]
  rw [Nat.mul_add] at a
  omega
theorem ch_up1' {n k : Nat} : ch n k * (n + 1) / (k + 1) = ch (n + 1) (k + 1) := by
  rw [ch_up1, Nat.mul_div_cancel _ (by omega)]
theorem plR_one {r : List Nat} (h : Bits r) : plR (1 :: r) = ch (r.length + 1) (r.sum + 1) - 1 - plR r := by
  have := plR_lt r h
  rw [plR_cons1, ch_succ]
  omega
structure AtC (n k p : Int) (i : Nat) (row : List Int) (rows o q : Int) : Prop where
  le : (i : Int) ≤ n
  len : row.length = n.toNat
  front : ∀ j : Nat, (j : Int) < n - i → row[j]? = some 0
  o0 : 0 ≤ o
  o1 : o ≤ n - i
  hr : rows = cho (n - i) o
  q0 : 0 ≤ q
  q1 : q < rows
  done : (rowR (n - i).toNat o.toNat q.toNat).reverse.map Int.ofNat ++ row.drop (n - i).toNat = rowC n k p
theorem AtC.start {n k p : Int} (h0 : 0 ≤ k) (h1 : k ≤ n) (p0 : 0 ≤ p) (p1 : p < cho n k) : AtC n k p 0 (List.replicate n.toNat 0) (cho n k) k p := by
  have e : n - ((0 : Nat) : Int) = n := by simp
  refine ⟨by simp; omega, by simp, fun j hj => ?_, h0, by omega, by rw [e], p0, p1, ?_⟩
  · rw [List.getElem?_replicate, if_pos (by omega)]
  · rw [e, List.drop_of_length_le (by simp), List.append_nil]
    rfl
theorem cho_down {l o : Int} (h0 : 0 ≤ o) (h1 : o ≤ l) (hl : 1 ≤ l) : cho l o * (l - o) / l = cho (l - 1) o := by
  obtain ⟨m, rfl⟩ : ∃ m : Nat, l = (m : Int) + 1 := ⟨(l - 1).toNat, by omega⟩
  obtain ⟨k, rfl⟩ : ∃ k : Nat, o = (k : Int) := ⟨o.toNat, by omega⟩
  have a := ch_down (n := m) (k := k) (by omega)
  rw [cho_nat h0 h1, show (((m : Int) + 1).toNat) = m + 1 by omega, show ((k : Int).toNat) = k from rfl]
  have e : ((ch (m + 1) k : Nat) : Int) * ((m : Int) + 1 - k) = ((ch m k * (m + 1) : Nat) : Int) := by
    rw [← a, Int.natCast_mul]
    congr 1
    omega
  rw [e]
  have e2 : cho ((m : Int) + 1 - 1) k = (ch m k : Nat) := by
    by_cases hk : (k : Int) ≤ m
    · rw [cho_nat (by omega) (by omega), show (((m : Int) + 1 - 1).toNat) = m by omega]
      rfl
    · rw [cho_out (by omega), ch_gt m k (by omega)]
      rfl
  rw [e2, Int.natCast_mul, show (((m + 1 : Nat)) : Int) = (m : Int) + 1 by omega, Int.mul_ediv_cancel _ (by omega)]
theorem AtC.low {n k p : Int} {i : Nat} {row : List Int} {rows o q : Int} (A : AtC n k p i row rows o q) (hi : (i : Int) < n) (hq : q < cho (n - i - 1) o) : AtC n k p (i + 1) row (cho (n - i - 1) o) o q := by
  have e : n - ((i + 1 : Nat) : Int) = n - i - 1 := by omega
  have h1 : o ≤ n - i - 1 := by
    by_cases c : o ≤ n - i - 1
    · exact c
    · rw [cho_out (by omega)] at hq
      have := A.q0
      omega
  refine ⟨by omega, A.len, fun j hj => A.front j (by omega), A.o0, by omega, by rw [e], A.q0, hq, ?_⟩
  rw [← A.done, e]
  have o0 := A.o0
  have q0 := A.q0
  obtain ⟨m, hm⟩ : ∃ m : Nat, n - i = (m : Int) + 1 := ⟨(n - i - 1).toNat, by omega⟩
  rw [cho_nat o0 h1] at hq
  rw [show (n - i - 1).toNat = m by omega] at hq
  rw [show (n - (i : Int)).toNat = m + 1 by omega, show (n - i - 1).toNat = m by omega, rowR_succ, if_pos (by omega), List.reverse_cons, List.map_append, List.append_assoc]
  congr 1
  have hl := A.len
  have hf := A.front m (by omega)
  rw [List.drop_eq_getElem_cons (by omega : m < row.length)]
  have : row[m]'(by omega) = 0 := by
    rw [List.getElem?_eq_getElem (by omega)] at hf
    exact Option.some.inj hf
  rw [this]
  rfl
theorem AtC.high {n k p : Int} {i : Nat} {row : List Int} {rows o q : Int} (A : AtC n k p i row rows o q) (hi : (i : Int) < n) (hq : ¬ q < cho (n - i - 1) o) : AtC n k p (i + 1) (row.set (n - i - 1).toNat 1) (rows - cho (n - i - 1) o) (o - 1) (rows - 1 - q) := by
  have e : n - ((i + 1 : Nat) : Int) = n - i - 1 := by omega
  have o0 := A.o0
  have q0 := A.q0
  have q1 := A.q1
  have h1 := A.o1
  have hr := A.hr
  obtain ⟨m, hm⟩ : ∃ m : Nat, n - i = (m : Int) + 1 := ⟨(n - i - 1).toNat, by omega⟩
  obtain ⟨t, ht⟩ : ∃ t : Nat, o = (t : Int) := ⟨o.toNat, by omega⟩
  have c1 : cho (n - i) o = (ch (m + 1) t : Nat) := by rw [cho_nat o0 h1, show (n - (i : Int)).toNat = m + 1 by omega, ht]; rfl
  have c2 : cho (n - i - 1) o = (ch m t : Nat) := by
    by_cases c : o ≤ n - i - 1
    · rw [cho_nat o0 c, show (n - i - 1).toNat = m by omega, ht]; rfl
    · rw [cho_out (by omega), ch_gt m t (by omega)]; rfl
  have sp := ch_split m t
  have t0 : t ≠ 0 := fun z => by
    rw [if_pos z] at sp
    omega
  rw [if_neg t0] at sp
  have c3 : cho (n - i - 1) (o - 1) = (ch m (t - 1) : Nat) := by rw [cho_nat (by omega) (by omega), show (n - i - 1).toNat = m by omega, show (o - 1).toNat = t - 1 by omega]
  refine ⟨by omega, by rw [List.length_set]; exact A.len, fun j hj => ?_, by omega, by omega, by rw [e, hr, c1, c2, c3, sp]; omega, by omega, by omega, ?_⟩
  · rw [List.getElem?_set_ne (by omega)]
    exact A.front j (by omega)
  · rw [← A.done, e]
    have hl := A.len
    have hq' : ¬ q.toNat < ch m o.toNat := by
      rw [show o.toNat = t by omega]
      rw [c2] at hq
      omega
    rw [show (n - (i : Int)).toNat = m + 1 by omega, show (n - i - 1).toNat = m by omega, rowR_succ, if_neg hq', List.reverse_cons, List.map_append, List.append_assoc]
    have e3 : (rows - 1 - q).toNat = ch m (o.toNat - 1) - 1 - (q.toNat - ch m o.toNat) := by
      rw [show o.toNat = t by omega]
      rw [hr, c1] at *
      rw [c2] at hq
      omega
    rw [e3, show (o - 1).toNat = o.toNat - 1 by omega]
    congr 1
    rw [List.drop_eq_getElem_cons (by rw [List.length_set]; omega), List.getElem_set_self, List.drop_set, if_pos (by omega)]
    rfl
theorem AtC.fin {n k p : Int} {row : List Int} {rows o q : Int} (hn : 0 ≤ n) (A : AtC n k p n.toNat row rows o q) : row = rowC n k p := by
  have h := A.done
  have e : n - (n.toNat : Int) = 0 := by omega
  rw [e] at h
  exact h
structure OfC (row : List Int) (i : Nat) (rows o q : Int) : Prop where
  hr : rows = (ch i ((row.take i).map Int.toNat).sum : Nat)
  ho : o = (((row.take i).map Int.toNat).sum : Nat)
  hq : q = (plR ((row.take i).map Int.toNat).reverse : Nat)
theorem OfC.start (row : List Int) : OfC row 0 1 0 0 := ⟨rfl, rfl, rfl⟩
theorem take_bits {row : List Int} (h : BitsI row) (i : Nat) : Bits ((row.take i).map Int.toNat) := BitsI.nat fun m hm => h m (List.mem_of_mem_take hm)
theorem take_len {row : List Int} {i : Nat} (hi : i ≤ row.length) : ((row.take i).map Int.toNat).length = i := by rw [List.length_map, List.length_take]; omega
theorem OfC.zero {row : List Int} {i : Nat} {rows o q : Int} (h : BitsI row) (A : OfC row i rows o q) (hm : row[i]? = some 0) : o ≤ i ∧ 0 ≤ o ∧ OfC row (i + 1) (rows * (i + 1) / (i + 1 - o)) o q := by
  have hi : i < row.length := (List.getElem?_eq_some_iff.mp hm).1
  have hb := (take_bits h i).sum_le
  rw [take_len (by omega)] at hb
  have e : (row.take (i + 1)).map Int.toNat = (row.take i).map Int.toNat ++ [0] := by rw [List.take_add_one, hm]; simp
  have a1 := A.hr
  have a2 := A.ho
  have a3 := A.hq
  generalize hS : ((row.take i).map Int.toNat).sum = S at *
  refine ⟨by omega, by omega, ?_, ?_, ?_⟩
  · rw [e, List.sum_append, hS, a1, a2]
    have u := ch_up0 (n := i) (k := S) hb
    show _ = ((ch (i + 1) S : Nat) : Int)
    rw [← u, Int.natCast_ediv, Int.natCast_mul]
    congr 1
    omega
  · rw [e, List.sum_append, hS, a2]; rfl
  · rw [e, List.reverse_append, a3]
    show _ = ((plR (0 :: ((row.take i).map Int.toNat).reverse) : Nat) : Int)
    rw [plR_cons0]
theorem OfC.one {row : List Int} {i : Nat} {rows o q : Int} (h : BitsI row) (A : OfC row i rows o q) (hm : row[i]? = some 1) : o ≤ i ∧ 0 ≤ o ∧ OfC row (i + 1) (rows * (i + 1) / (o + 1)) (o + 1) (rows * (i + 1) / (o + 1) - 1 - q) := by
  have hi : i < row.length := (List.getElem?_eq_some_iff.mp hm).1
  have hb := (take_bits h i)
  have hl := take_len (row := row) (i := i) (by omega)
  have e : (row.take (i + 1)).map Int.toNat = (row.take i).map Int.toNat ++ [1] := by rw [List.take_add_one, hm]; simp
  have a1 := A.hr
  have a2 := A.ho
  have a3 := A.hq
  have pl := plR_one (r := ((row.take i).map Int.toNat).reverse) hb.reverse
  have plt := plR_lt ((row.take i).map Int.toNat).reverse hb.reverse
  rw [sum_reverse, List.length_reverse, hl] at pl plt
  generalize hS : ((row.take i).map Int.toNat).sum = S at *
  have hbs := hb.sum_le
  rw [hl, hS] at hbs
  have u := ch_up1' (n := i) (k := S)
  have r : rows * (i + 1) / (o + 1) = (ch (i + 1) (S + 1) : Nat) := by
    rw [a1, a2, ← u, Int.natCast_ediv, Int.natCast_mul]
    rfl
  refine ⟨by omega, by omega, ?_, ?_, ?_⟩
  · rw [e, List.sum_append, hS, r]; rfl
  · rw [e, List.sum_append, hS, a2]; rfl
  · rw [e, List.reverse_append, r, a3]
    show _ = ((plR (1 :: ((row.take i).map Int.toNat).reverse) : Nat) : Int)
    rw [pl]
    have : ch (i + 1) (S + 1) = ch i S + ch i (S + 1) := ch_succ i S
    omega
theorem OfC.fin {row : List Int} {rows o q : Int} (A : OfC row row.length rows o q) : q = plC row := by
  rw [A.hq, List.take_length]
  rfl
def goneI (a b : List Int) : List Int := (a.zip b).map fun p => p.1 - p.2
end Ms
namespace My
open PySem L2
def fldC (n k : Int) : List (Str × V) := putF "ones" (.int k) (putF "length" (.int n) (putF "size" (.int (Ms.cho n k)) []))
def CAt (C : Addr) (H : Hp) (p : Addr) (n k : Int) : Prop := (0 ≤ n ∧ n ≤ 200 ∧ 0 ≤ k ∧ k ≤ n) ∧ ∃ dx, H p = some (.ins C dx (fldC n k))
structure CC (K : PySem.W.Frag) (C : Addr) : Prop where
  cl : Cls K C
  size : NoAttr K C "size"
  length : NoAttr K C "length"
  ones : NoAttr K C "ones"
section
variable {K : PySem.W.Frag} {C p : Addr} {H : Hp} {n k : Int}
theorem fldC_size : (fldC n k).lookup ("size" : Str) = some (.int (Ms.cho n k)) := by
  unfold fldC
  rw [lookup_putF, if_neg (by decide +kernel), lookup_putF, if_neg (by decide +kernel), lookup_putF, if_pos rfl]
theorem fldC_length : (fldC n k).lookup ("length" : Str) = some (.int n) := by
  unfold fldC
  rw [lookup_putF, if_neg (by decide +kernel), lookup_putF, if_pos rfl]
theorem fldC_ones : (fldC n k).lookup ("ones" : Str) = some (.int k) := by
  unfold fldC
  rw [lookup_putF, if_pos rfl]
theorem fldC_no {m : Str} (h1 : ¬ m = "ones") (h2 : ¬ m = "length") (h3 : ¬ m = "size") : (fldC n k).lookup m = none := by
  unfold fldC
  rw [lookup_putF, if_neg h1, lookup_putF, if_neg h2, lookup_putF, if_neg h3]
  rfl
theorem CAt.same {H' : Hp} (A : CAt C H p n k) (S : Same H H') : CAt C H' p n k := by
  obtain ⟨f, dx, h⟩ := A
  exact ⟨f, dx, S _ _ h⟩
theorem CAt.upd {l : Addr} {o : HO} (A : CAt C H p n k) (h : H l = none) : CAt C (upd H l o) p n k := by
  obtain ⟨f, dx, e⟩ := A
  exact ⟨f, dx, by rw [upd_ne (ne_of_none e h)]; exact e⟩
noncomputable def CAt.dx (A : CAt C H p n k) : Addr := Classical.choose A.2
theorem CAt.ob (A : CAt C H p n k) : H p = some (.ins C A.dx (fldC n k)) := Classical.choose_spec A.2
theorem kindC {ms : List Str} (h : ∀ m ∈ ms, ¬ m = "ones" ∧ ¬ m = "length" ∧ ¬ m = "size") : KindC C (CAt C) ms where
  ins := fun A => by
    obtain ⟨f, dx, e⟩ := A
    exact ⟨dx, _, e, fun m hm => fldC_no (h m hm).1 (h m hm).2.1 (h m hm).2.2⟩
  same := fun A S => A.same S
  facts := fun A => A.1
end
section
variable (K : PySem.W.Frag) (C : Addr)
def spChooseP : Sp := fun vs H Q _ => ∃ l o : Int, vs = [.int l, .int o] ∧ 0 ≤ l ∧ l ≤ 1000 ∧ Q (.int (Ms.cho l o)) H
def spPlaceOkC : Sp := fun vs H Q _ => ∃ (p : Addr) (i n k : Int), vs = [.ref p, .int i] ∧ CAt C H p n k ∧ 0 ≤ i ∧ i < Ms.cho n k ∧ Q .non H
def spRowOkC : Sp := fun vs H Q _ => ∃ (p r : Addr) (n k : Int) (row : List Int), vs = [.ref p, .ref r] ∧ CAt C H p n k ∧ RowC K H r n k row ∧ Q .non H
def spSpotsOkC : Sp := fun vs H Q _ => ∃ (p r : Addr) (n k : Int) (o i : Nat) (row : List Int), vs = [.ref p, .ref r, .int o, .int i] ∧ CAt C H p n k ∧ RowC K H r n k row ∧ row[o]? = some 1 ∧ row[i]? = some 0 ∧ ∀ H', Same H H' → Q .non H'
def spSwappedC : Sp := fun vs H Q _ => ∃ (p r : Addr) (c : V) (back : Bool) (n k : Int) (row made : List Int), vs = [.ref p, .ref r, c, .bl back] ∧ CAt C H p n k ∧ RowC K H r n k row ∧
  ((c = .non ∧ made = row) ∨ ∃ (t : Addr) (o i : Nat), c = .ref t ∧ SqT K H t [.str "swap", .int o, .int i] ∧ (if back = true then Ms.SwI made row o i else Ms.SwI row made o i)) ∧
  ∀ (l : Addr) (H' : Hp), Same H H' → H l = none → H' l = some (.lst (made.map V.int)) → Q (.ref l) H'
def spLeapC : Sp := fun vs H Q _ => ∃ (p r : Addr) (j n k : Int) (row : List Int), vs = [.ref p, .ref r, .int j] ∧ CAt C H p n k ∧ RowC K H r n k row ∧
  ∀ (l : Addr) (H' : Hp), Same H H' → H l = none → H' l = some (.lst ((Ms.rowC n k ((Ms.plC row + j) % Ms.cho n k)).map V.int)) → Q (.ref l) H'
def spStepsC : Sp := fun vs H Q _ => ∃ (p r r2 : Addr) (n k : Int) (row row2 : List Int), vs = [.ref p, .ref r, .ref r2] ∧ CAt C H p n k ∧ RowC K H r n k row ∧ RowC K H r2 n k row2 ∧ ∀ H', Same H H' → Q (.int ((Ms.plC row2 - Ms.plC row) % Ms.cho n k)) H'
end
end My
namespace Ms
section
variable {row : List Int} {n k g : Int} (hl : (row.length : Int) = n) (hb : BitsI row) (hs : row.sum = k)
include hl hb hs
end
end Ms
namespace L2
open PySem PySem.Spec PyProof.Rows
def Wide (i : Int) : Prop := Builtin.Int.intBits i ≤ 2 ^ 20
theorem rd_chain {r r' : R2} {ta tb tc : TE} {σ : St} {H : Hp} {Q : VK} (q : ta σ H fun x H1 => tb σ H1 fun y H2 => r x y H2 fun z H3 => ∃ k, z = .bl k ∧ (if k = true then tc σ H3 fun w' H4 => r' y w' H4 Q else Q (.bl false) H3)) : tChain r r' ta tb tc σ H Q := q
def Alike (H : Hp) (ps qs : List Addr) : Prop := ps.length = qs.length ∧ ∀ (j : Nat) (p q : Addr), ps[j]? = some p → qs[j]? = some q → p ≠ q ∧ ∃ ns : List Int, H p = some (.lst (ns.map V.int)) ∧ H q = some (.lst (ns.map V.int))
def rEqLL : R2 := fun x y H Q => ∃ a b, ∃ ps qs : List Addr, x = .ref a ∧ y = .ref b ∧ H a = some (.lst (ps.map V.ref)) ∧ H b = some (.lst (qs.map V.ref)) ∧ Alike H ps qs ∧ Q (.bl true) H
def rNeLL : R2 := fun x y H Q => ∃ a b, ∃ ps qs : List Addr, x = .ref a ∧ y = .ref b ∧ H a = some (.lst (ps.map V.ref)) ∧ H b = some (.lst (qs.map V.ref)) ∧ Alike H ps qs ∧ Q (.bl false) H
section
variable {X : Cx} {pins : List (Addr × Obj)} {σ : St} {H : Hp} {s : Shared} {a b : Addr} {ps qs : List Addr}
end
end L2
namespace Ms
def firstC (n k : Int) : List Int := List.replicate k.toNat 1 ++ List.replicate (n - k).toNat 0
theorem sum_repI : ∀ (n : Nat) (x : Int), (List.replicate n x).sum = n * x
  | 0, x => by simp
  | n + 1, x => by
    rw [List.replicate_succ, List.sum_cons, sum_repI n x]
    rw [show ((n + 1 : Nat) : Int) = (n : Int) + 1 by omega, Int.add_mul, Int.one_mul, Int.add_comm]
end Ms
namespace My
open PySem L2
structure RD where
  n : Int
  many : Int
  Row : List Int → Prop
  pl : List Int → Int
  at_ : Int → List Int
  sg : V
  on : V
  LA : Hp → Addr → Prop
  Chg : Hp → V → List Int → List Int → Prop
  Mk : Hp → V → List Int → List Int → Int → Prop
structure RD.Ok (C : Addr) (G : RD) : Prop where
  n0 : 0 ≤ G.n
  n1 : G.n ≤ 200
  pos : 0 < G.many
  len : ∀ r, G.Row r → (r.length : Int) = G.n
  pl0 : ∀ r, G.Row r → 0 ≤ G.pl r ∧ G.pl r < G.many
  back : ∀ r, G.Row r → G.at_ (G.pl r) = r
  row : ∀ i, 0 ≤ i → i < G.many → G.Row (G.at_ i)
  plat : ∀ i, 0 ≤ i → i < G.many → G.pl (G.at_ i) = i
  ins : ∀ {H p}, G.LA H p → ∃ dx fs, H p = some (.ins C dx fs) ∧ ∀ m ∈ (["leap", "change", "row_before", "next_row", "steps_to", "place_of", "row_at"] : List Str), fs.lookup m = none
  same : ∀ {H H' p}, G.LA H p → Same H H' → G.LA H' p
  cs : ∀ {H H' c a b}, G.Chg H c a b → Same H H' → G.Chg H' c a b
  on1 : ∀ {H c a b}, G.Chg H c a b → G.Mk H c a b 1
  off1 : ∀ {H c a b}, G.Row b → G.Chg H c b a → G.Mk H c a b (-1)
def ringT (C : Addr) (s n : Int) : RD where
  n := n
  many := s ^ n.toNat
  Row := fun r => (r.length : Int) = n ∧ ∀ m ∈ r, 0 ≤ m ∧ m < s
  pl := Ms.plI s
  at_ := Ms.rowI s n
  sg := .int s
  on := .non
  LA := fun H p => TAt C H p s n
  Chg := fun H c a b => (c = .non ∧ b = a) ∨ ∃ (t : Addr) (j : Int), c = .ref t ∧ H t = some (.tup [.str "turn", .int j]) ∧ 0 ≤ j ∧ j < n ∧ b = Ms.turnI s a j 1
  Mk := fun H c a b d => (c = .non ∧ b = a) ∨ ∃ (t : Addr) (j : Int), c = .ref t ∧ H t = some (.tup [.str "turn", .int j]) ∧ 0 ≤ j ∧ j < n ∧ b = Ms.turnI s a j d
def ringC (C : Addr) (n k : Int) : RD where
  n := n
  many := Ms.cho n k
  Row := fun r => (r.length : Int) = n ∧ Ms.BitsI r ∧ r.sum = k
  pl := Ms.plC
  at_ := Ms.rowC n k
  sg := .int 2
  on := .int k
  LA := fun H p => CAt C H p n k
  Chg := fun H c a b => (c = .non ∧ b = a) ∨ ∃ (t : Addr) (o i : Nat), c = .ref t ∧ H t = some (.tup [.str "swap", .int o, .int i]) ∧ Ms.SwI a b o i
  Mk := fun H c a b d => (c = .non ∧ b = a) ∨ ∃ (t : Addr) (o i u v : Nat), c = .ref t ∧ H t = some (.tup [.str "swap", .int o, .int i]) ∧ Ms.SwI a b u v ∧ ((0 ≤ d ∧ u = o ∧ v = i) ∨ (d < 0 ∧ u = i ∧ v = o))
def FT (C : Addr) (G : RD) : Prop := ∃ s n : Int, (2 ≤ s ∧ s ≤ 1000000000000 ∧ 0 ≤ n ∧ n ≤ 200) ∧ G = ringT C s n
def FC (C : Addr) (G : RD) : Prop := ∃ n k : Int, (0 ≤ n ∧ n ≤ 200 ∧ 0 ≤ k ∧ k ≤ n) ∧ G = ringC C n k
section
variable (K : PySem.W.Frag) (F : RD → Prop)
def gRowAt : Sp := fun vs H Q _ => ∃ (G : RD) (p : Addr) (i : Int), vs = [.ref p, .int i] ∧ F G ∧ G.LA H p ∧ 0 ≤ i ∧ i < G.many ∧ ∀ (l : Addr) (H' : Hp), Same H H' → H l = none → H' l = some (.lst ((G.at_ i).map V.int)) → Q (.ref l) H'
def gPlaceOf : Sp := fun vs H Q _ => ∃ (G : RD) (p r : Addr) (row : List Int), vs = [.ref p, .ref r] ∧ F G ∧ G.LA H p ∧ SqL K H r (row.map V.int) ∧ G.Row row ∧ ∀ H', Same H H' → Q (.int (G.pl row)) H'
def gLeap : Sp := fun vs H Q _ => ∃ (G : RD) (p r : Addr) (k : Int) (row : List Int), vs = [.ref p, .ref r, .int k] ∧ F G ∧ G.LA H p ∧ SqL K H r (row.map V.int) ∧ G.Row row ∧ ∀ (l : Addr) (H' : Hp), Same H H' → H l = none → H' l = some (.lst ((G.at_ ((G.pl row + k) % G.many)).map V.int)) → Q (.ref l) H'
def gStep (by' : Int) : Sp := fun vs H Q _ => ∃ (G : RD) (p r : Addr) (row : List Int), vs = [.ref p, .ref r] ∧ F G ∧ G.LA H p ∧ SqL K H r (row.map V.int) ∧ G.Row row ∧ ∀ (l : Addr) (H' : Hp), Same H H' → H l = none → H' l = some (.lst ((G.at_ ((G.pl row + by') % G.many)).map V.int)) → Q (.ref l) H'
def gSteps : Sp := fun vs H Q _ => ∃ (G : RD) (p r r2 : Addr) (row row2 : List Int), vs = [.ref p, .ref r, .ref r2] ∧ F G ∧ G.LA H p ∧ SqL K H r (row.map V.int) ∧ G.Row row ∧ SqL K H r2 (row2.map V.int) ∧ G.Row row2 ∧ ∀ H', Same H H' → Q (.int ((G.pl row2 - G.pl row) % G.many)) H'
def gChange : Sp := fun vs H Q _ => ∃ (G : RD) (p r : Addr) (row : List Int), vs = [.ref p, .ref r] ∧ F G ∧ G.LA H p ∧ SqL K H r (row.map V.int) ∧ G.Row row ∧ ∀ (c : V) (H' : Hp), Same H H' → G.Chg H' c row (G.at_ ((G.pl row + 1) % G.many)) → Q c H'
def gIsRow : Sp := fun vs H Q _ => ∃ (G : RD) (r : Addr) (row : List Int), vs = [.ref r, .int G.n, G.sg, G.on] ∧ F G ∧ H r = some (.lst (row.map V.int)) ∧ G.Row row ∧ ∀ H', Same H H' → Q (.bl true) H'
def gChanged : Sp := fun vs H Q _ => ∃ (G : RD) (r : Addr) (c : V) (by' : Int) (row made : List Int), vs = [.ref r, c, G.sg, G.on, .int by'] ∧ F G ∧ SqL K H r (row.map V.int) ∧ G.Row row ∧ G.Mk H c row made by' ∧
  ∀ (l : Addr) (H' : Hp), Same H H' → H l = none → H' l = some (.lst (made.map V.int)) → Q (.ref l) H'
def gAny : Sp := fun vs H Q _ => ∃ (G : RD) (r : Addr) (x : Int) (row : List Int), vs = [.ref r, .int x, G.sg, G.on] ∧ F G ∧ SqL K H r (row.map V.int) ∧ G.Row row ∧ ∀ (l : Addr) (made : List Int) (H' : Hp), Same H H' → H l = none → H' l = some (.lst (made.map V.int)) → G.Row made → Q (.ref l) H'
def gLeapt : Sp := fun vs H Q _ => ∃ (G : RD) (p r : Addr) (k : Int) (row : List Int), vs = [.ref p, .ref r, .int k] ∧ F G ∧ G.LA H p ∧ H r = some (.lst (row.map V.int)) ∧ G.Row row ∧
  ∀ (t l : Addr) (H' : Hp), Same H H' → H l = none → H' l = some (.lst ((G.at_ ((G.pl row + k) % G.many)).map V.int)) → H' t = some (.tup [.ref l, .int k]) → Q (.ref t) H'
def gDeed : Sp := fun vs H Q _ => ∃ (G : RD) (p r : Addr) (x : Int) (row : List Int), vs = [.ref p, .ref r, .int x, .int G.many, G.sg, G.on] ∧ F G ∧ G.LA H p ∧ H r = some (.lst (row.map V.int)) ∧ G.Row row ∧ Wide x ∧
  ∀ (t l : Addr) (st : Int) (made : List Int) (H' : Hp), Same H H' → H l = none → H' l = some (.lst (made.map V.int)) → H' t = some (.tup [.ref l, .int st]) → G.Row made → G.pl made = (G.pl row + st) % G.many → (x % 6 = 5 → 0 ≤ st ∧ st < G.many) → Q (.ref t) H'
def gStands : Sp := fun vs H Q _ => ∃ (G : RD) (p r : Addr) (row : List Int), vs = [.ref p, .ref r, .int (G.pl row)] ∧ F G ∧ G.LA H p ∧ H r = some (.lst (row.map V.int)) ∧ G.Row row ∧ ∀ H', Same H H' → Q (.bl true) H'
def gWalked : Sp := fun vs H Q _ => ∃ (G : RD) (p lf lc : Addr) (first cells : List Int), vs = [.ref p, .int G.many, .ref lf, .ref lc, G.sg, G.on] ∧ F G ∧ G.LA H p ∧ H lf = some (.lst (first.map V.int)) ∧ G.Row first ∧ G.pl first = 0 ∧ H lc = some (.lst (cells.map V.int)) ∧ cells.length ≤ 63 ∧ (∀ x ∈ cells, Wide x) ∧ ∀ H', Q (.bl true) H'
end
section
variable {K : PySem.W.Frag} {C : Addr} {vs : List V} {H : Hp} {Q : VK} {E : XK}
end
structure HeldAt (G : RD) (H : Hp) (lh lk lp : Addr) (refs krefs : List Addr) (plcs : List Int) : Prop where
  h1 : H lh = some (.lst (refs.map V.ref))
  h2 : H lk = some (.lst (krefs.map V.ref))
  h3 : H lp = some (.lst (plcs.map V.int))
  n12 : lh ≠ lk
  n13 : lh ≠ lp
  n23 : lk ≠ lp
  l1 : refs.length = plcs.length
  l2 : krefs.length = plcs.length
  each : ∀ (j : Nat) (p q : Addr) (z : Int), refs[j]? = some p → krefs[j]? = some q → plcs[j]? = some z → p ≠ q ∧ (p ≠ lh ∧ p ≠ lk ∧ p ≠ lp) ∧ (q ≠ lh ∧ q ≠ lk ∧ q ≠ lp) ∧ ∃ ns : List Int, H p = some (.lst (ns.map V.int)) ∧ H q = some (.lst (ns.map V.int)) ∧ G.Row ns ∧ G.pl ns = z
section
variable {G : RD} {H H' : Hp} {lh lk lp : Addr} {refs krefs : List Addr} {plcs : List Int}
end
end My
namespace L2
open PySem PySem.Spec PyProof.Rows
def XOb (h : Heap) (e C : Addr) (tb : Value) : Prop := ∃ t : Addr, h.get? e = some { cls := .ref C, data := .fields #[.ref t, tb, .none, .none, .bool false, .none] }
def TbN (h : Heap) (T : Addr) : Prop := ∃ o ts, h.get? T = some o ∧ o.data = .fields ts ∧ ts[3]? = some .none
def TbOk (h : Heap) (e : Addr) (tb : Value) : Prop := tb = .none ∨ ∃ T, tb = .ref T ∧ T ≠ e ∧ TbN h T
structure Noted (h h' : Heap) (fs : List Addr) (e C : Addr) (tb : Value) (T' : Addr) : Prop where
  ob : XOb h' e C (.ref T')
  ne : T' ≠ e
  new : h.objs.size ≤ T'
  nn : TbN h' T'
  keep : ∀ b o, h.get? b = some o → b ≠ e → tb ≠ .ref b → b ∉ fs → h'.get? b = some o
  slot : ∀ b o, h.get? b = some o → b ∈ fs → ∃ sl, h'.get? b = some { o with slots := sl }
section
variable {M : Model} {A : Around} {E : Value → Shared → Prop} {s : Shared} {env : Env} {outer : List Env} {L e C : Addr} {base : Heap} {Q : Unit → Shared → Prop}
theorem xentry {head tb : Value} {hadNext : Bool} (hfr : A.frames = some (env :: outer)) (hl : s.heap.FunFrames base (env :: outer)) (hf : env.frame = some L) (hx : XOb s.heap e C tb)
    (h : ∀ h' T', Noted s.heap h' (frs (env :: outer)) e C tb T' → Q () { s with heap := h' }) :
    wpAny M A (do let a ← frameOf env; let pl ← entryPlaceOf L hadNext; let b ← EntryCells.newEntry head a .none (rawInt L) .none pl; setField (.ref e) 1 b) (fun _ s1 => wpAny M A (setFlight (.ref e) none) Q E s1) E s := by
  obtain ⟨t, he⟩ := hx
  have nfr : e ∉ frs (env :: outer) := fun hm => by
    obtain ⟨_, o, ho, hd⟩ := hl.mem hm
    rw [he] at ho
    cases ho
    exact hd _ rfl
  refine wpAny_bind (wpAny_frameOf_fun hfr hl hf fun h1 hs => ?_)
  refine wpAny_bind (wpAny_entryPlaceOf fun pl0 hp0 => ?_)
  (unfold EntryCells.newEntry); (unfold newFields)
  refine wpAny_bind (wpAny_newObj_type ?_ (hp0.sizeOk5 _ _ _ _ _))
  generalize hob : ({ cls := .type "traceback", data := .fields ([head, .ref L, .none, rawInt L, .none] ++ (if pl0.isEmpty then List.replicate 6 Value.none else pl0)).toArray } : Obj) = ob
  have e1 : h1.get? e = some { cls := .ref C, data := .fields #[.ref t, tb, .none, .none, .bool false, .none] } := (hs.2.1 e nfr).trans he
  have hfree : ob.isFreed = false := by rw [← hob]; rfl
  have e2 := Heap.get?_push_of_some (h := h1) ob e1
  have t2 : (h1.push ob).get? h1.objs.size = some ob := Heap.get?_push_size h1 hfree
  have hne : h1.objs.size ≠ e := Nat.ne_of_gt (Heap.lt_size e1)
  refine wpAny_setField e2 rfl (by show 1 < 6; decide) ?_
  have e3 : ((h1.push ob).update e (Obj.mapFields (·.setIfInBounds 1 (Value.ref h1.objs.size)))).get? e = some { cls := .ref C, data := .fields #[.ref t, .ref h1.objs.size, .none, .none, .bool false, .none] } := Heap.get?_update_self _ e2 rfl
  have t3 : ((h1.push ob).update e (Obj.mapFields (·.setIfInBounds 1 (Value.ref h1.objs.size)))).get? h1.objs.size = some ob := (Heap.get?_update_other _ _ (Ne.symm hne)).trans t2
  have hts : ∃ ts, ob.data = .fields ts ∧ 3 < ts.size := ⟨_, by rw [← hob], by simp only [List.size_toArray, List.length_append, List.length_cons, List.length_nil]; omega⟩
  obtain ⟨ts, hd, hsz⟩ := hts
  unfold setFlight
  refine wpAny_bind (wpAny_field e3 rfl (x := .ref h1.objs.size) rfl ?_)
  rw [if_pos (by simp)]
  refine wpAny_setField t3 hd hsz (h _ h1.objs.size ⟨⟨t, ?_⟩, hne, Nat.le_of_eq hs.1.symm, ?_, fun b o hb hbe hbt hbf => ?_, fun b o hb hbf => ?_⟩)
  · rw [Heap.get?_update_other _ _ hne]; exact e3
  · refine ⟨_, _, Heap.get?_update_self _ t3 (Obj.isFreed_of_fields (Obj.data_mapFields hd _)), Obj.data_mapFields hd _, ?_⟩
    rw [Array.getElem?_setIfInBounds_self_of_lt hsz]
    rfl
  · have b1 : h1.get? b = some o := (hs.2.1 b hbf).trans hb
    rw [Heap.get?_update_other _ _ (Nat.ne_of_gt (Heap.lt_size b1)), Heap.get?_update_other _ _ (Ne.symm hbe)]
    exact Heap.get?_push_of_some _ b1
  · obtain ⟨sl, b1⟩ := hs.2.2 b o hb
    have hbe : b ≠ e := fun z => nfr (z ▸ hbf)
    refine ⟨sl, ?_⟩
    rw [Heap.get?_update_other _ _ (Nat.ne_of_gt (Heap.lt_size b1)), Heap.get?_update_other _ _ (Ne.symm hbe)]
    exact Heap.get?_push_of_some _ b1
theorem note_ok {tb : Value} (hfr : A.frames = some (env :: outer)) (hl : s.heap.FunFrames base (env :: outer)) (hf : env.frame = some L) (hx : XOb s.heap e C tb) (ht : TbOk s.heap e tb)
    (h : ∀ h' T', Noted s.heap h' (frs (env :: outer)) e C tb T' → Q () { s with heap := h' }) : wpAny M A (noteFrame (.ref e) env) (fun _ s1 => wpAny M A (setFlight (.ref e) none) Q E s1) E s := by
  obtain ⟨t, he⟩ := id hx
  unfold noteFrame
  simp only [hf]
  refine wpAny_bind (wpAny_field he rfl (x := tb) rfl ?_)
  rcases ht with rfl | ⟨T, rfl, hTe, oT, ts, hT, hd, h3⟩
  · rw [if_neg (by decide)]
    exact xentry hfr hl hf hx h
  · rw [if_pos (by simp)]
    refine wpAny_bind (wpAny_field hT hd h3 ?_)
    rw [if_neg (by simp [rawInt])]
    refine wpAny_bind (wpAny_setField hT hd (Array.getElem?_eq_some_iff.mp h3).1 ?_)
    have oth : ∀ b, b ≠ T → (s.heap.update T (Obj.mapFields (·.setIfInBounds 3 Value.none))).get? b = s.heap.get? b := fun b hb => Heap.get?_update_other _ _ (Ne.symm hb)
    have nfT : T ∉ frs (env :: outer) := fun hm => by
      obtain ⟨_, o, ho, hnd⟩ := hl.mem hm
      rw [hT] at ho
      cases ho
      exact hnd _ hd
    refine xentry (base := base) hfr (hl.of_keeps fun b o hb hnf => ⟨o, (oth b fun z => ?_).trans hb, rfl⟩) hf ⟨t, (oth e (Ne.symm hTe)).trans he⟩ fun h' T' N => h h' T' ⟨N.ob, N.ne, by have := N.new; rwa [Heap.size_after_update] at this, N.nn, fun b o hb hbe hbt hbf => ?_, fun b o hb hbf => ?_⟩
    · rw [z, hT] at hb
      cases hb
      exact hnf _ hd
    · exact N.keep b o ((oth b fun z => hbt (by rw [z])).trans hb) hbe hbt hbf
    · exact N.slot b o ((oth b fun z => nfT (z ▸ hbf)).trans hb) hbf
end
def CXE (P : Program) (w : World) : CXT := fun outer H s E ev s' => ∃ (e C : Addr) (H' : Hp) (T : Addr), ev = .ref e ∧ s'.os = s.os ∧ AllBare s'.gens ∧ Un (frs outer) [] H H' s.heap s'.heap ∧ HOk P w H' s'.heap ∧
  s.heap.get? e = none ∧ H' e = none ∧ XOb s'.heap e C (.ref T) ∧ s.heap.get? T = none ∧ H' T = none ∧ T ≠ e ∧ TbN s'.heap T ∧ E (.ref C) none H'
structure XIn (X : Cx) (H : Hp) (s : Shared) (e C : Addr) (tb : Value) : Prop where
  ob : XOb s.heap e C tb
  ok : TbOk s.heap e tb
  free : H e = none
  new : X.s₀.heap.get? e = none
  tnew : ∀ T, tb = .ref T → X.s₀.heap.get? T = none ∧ H T = none
section
variable {X : Cx} {pins : List (Addr × Obj)} {σ : St} {H : Hp} {s : Shared} {e C : Addr} {tb : Value}
theorem un_noted {fs fs' ex : List Addr} {h' : Heap} {T' : Addr} {H₀ : Hp} {h₀ : Heap} (u : Un fs ex H₀ H h₀ s.heap) (N : Noted s.heap h' fs' e C tb T') (hs : ∀ b, b ∈ fs' → b ∈ fs ∨ h₀.get? b = none) (hs' : ∀ b ∈ fs, b ∈ fs') (hn : h₀.get? e = none) (ht : ∀ T, tb = .ref T → h₀.get? T = none) : Un fs ex H₀ H h₀ h' where
  keep := fun b o q n hb hx => N.keep b o (u.keep b o q n hb hx) (fun z => by rw [z, hn] at q; cases q) (fun z => by rw [ht b z] at q; cases q) fun z => (hs b z).elim hb fun z2 => by rw [z2] at q; cases q
  slot := fun b o q n hb hx => by
    obtain ⟨sl, q1⟩ := u.slot b o q n hb hx
    obtain ⟨sl', q2⟩ := N.slot b _ q1 (hs' b hb)
    exact ⟨sl', q2⟩
  free := u.free
  there := fun b o q hx => by
    obtain ⟨o1, q1⟩ := u.there b o q hx
    by_cases hb : b ∈ fs'
    · obtain ⟨sl, q2⟩ := N.slot b o1 q1 hb
      exact ⟨_, q2⟩
    · exact ⟨o1, N.keep b o1 q1 (fun z => by rw [z, hn] at q; cases q) (fun z => by rw [ht b z] at q; cases q) hb⟩
  tups := u.tups
  frzs := u.frzs
  tbls := u.tbls
theorem hok_noted {P : Program} {w : World} {fs : List Addr} {h' : Heap} {T' : Addr} (k : HOk P w H s.heap) (N : Noted s.heap h' fs e C tb T') (hfs : ∀ b ∈ fs, H b = none) (hn : H e = none) (ht : ∀ T, tb = .ref T → H T = none) : HOk P w H h' := fun b u q => by
  have key : ∀ c : Addr, ∀ v : HO, H c = some v → ∀ o, s.heap.get? c = some o → h'.get? c = some o := fun c v hc o ho =>
    N.keep c o ho (fun z => by rw [z, hn] at hc; cases hc) (fun z => by rw [ht c z] at hc; cases hc) fun z => by rw [hfs c z] at hc; cases hc
  refine (k b u q).stay (fun c v hc hq => ?_) (fun _ z => z) fun _ _ z => z
  rcases hc with z | z
  · exact key c u (by rw [z]; exact q) v hq
  · exact key c _ z v hq
theorem ObjOk.there {P : Program} {w : World} {h : Heap} {a : Addr} {o : HO} (x : ObjOk P w H h a o) : ∃ u, h.get? a = some u := by
  cases o with
  | lst xs => obtain ⟨_, _, _, _, q⟩ := x; exact ⟨_, q⟩
  | tup xs => obtain ⟨_, _, _, u, q, _⟩ := x; exact ⟨u, q⟩
  | dK kvs => obtain ⟨_, _, _, _, u, _, _, q, _⟩ := x; exact ⟨u, q⟩
  | dT kvs => obtain ⟨_, _, _, _, u, _, _, q, _⟩ := x; exact ⟨u, q⟩
  | set S n => obtain ⟨u, _, _, _, q, _⟩ := x; exact ⟨u, q⟩
  | ins C dx fs => obtain ⟨_, _, _, q, _⟩ := x; exact ⟨_, q⟩
  | own y => exact x
  | xd fs => obtain ⟨_, ⟨u, _, _, q, _⟩, _⟩ := x; exact ⟨u, q⟩
  | rng lo hi => obtain ⟨_, _, _, q⟩ := x; exact ⟨_, q⟩
  | frz ob u => exact ⟨ob, x.1⟩
  | tbl ps => exact ⟨_, x⟩
  | met f y => exact ⟨_, x⟩
  | ext φ => exact x.2.1
theorem HOk.none_of {P : Program} {w : World} {h : Heap} {a : Addr} (k : HOk P w H h) (q : h.get? a = none) : H a = none := by
  cases z : H a with
  | none => rfl
  | some u =>
    obtain ⟨o, e⟩ := (k a u z).there
    rw [q] at e
    cases e
theorem Inv.frs_new (I : Inv X pins σ H s) : ∀ b, b ∈ frs X.stack → b ∈ X.fs ∨ X.s₀.heap.get? b = none := fun b hb => by
  rcases List.mem_cons.mp (I.stkSub b hb) with z | z
  · exact .inr (by rw [z]; exact Heap.get?_none_of_le I.ok.above)
  · exact .inl z
theorem Inv.frs_all (I : Inv X pins σ H s) : ∀ b ∈ X.fs, b ∈ frs X.stack := fun b hb => by
  rcases I.ok.stk with z | ⟨z, hf⟩
  · rw [z]; exact hb
  · rw [z]
    unfold frs
    rw [List.filterMap_cons, hf]
    exact List.mem_cons_of_mem _ hb
theorem Inv.noted {T' : Addr} {h' : Heap} (I : Inv X pins σ H s) (N : Noted s.heap h' (frs X.stack) e C tb T') (x : XIn X H s e C tb) (hp : ∀ p ∈ X.pn ++ pins, p.1 ≠ e ∧ tb ≠ .ref p.1) : Inv X pins σ H { s with heap := h' } := by
  have dat : ∀ b o, s.heap.get? b = some o → (∀ vs, o.data ≠ .fields vs) → ∃ o', h'.get? b = some o' ∧ o'.data = o.data := fun b o hb hd => by
    by_cases hf : b ∈ frs X.stack
    · obtain ⟨sl, q⟩ := N.slot b o hb hf
      exact ⟨_, q, rfl⟩
    · refine ⟨o, N.keep b o hb (fun z => ?_) (fun z => ?_) hf, rfl⟩
      · obtain ⟨t, he⟩ := x.ob
        rw [z, he] at hb
        cases hb
        exact hd _ rfl
      · rcases x.ok with q | ⟨T, q, _, oT, ts, hT, hdT, _⟩
        · rw [q] at z; cases z
        · rw [q] at z
          cases z
          rw [hT] at hb
          cases hb
          exact hd _ hdT
  have cellK : ∀ c v, s.heap.IsCell c v → h'.IsCell c v := fun c v ⟨o, ho, hd⟩ => by
    obtain ⟨o', h1, h2⟩ := dat c o ho fun vs z => by rw [hd] at z; cases z
    exact ⟨o', h1, h2.trans hd⟩
  refine ⟨I.ok, I.os, I.bare, un_noted I.base N I.frs_new I.frs_all x.new fun T z => (x.tnew T z).1, ?_, fun y c q => ?_, I.free, I.freeC, fun p q => ?_, hok_noted I.hok N I.stkFree x.free fun T z => (x.tnew T z).2, I.len⟩
  · obtain ⟨m, ⟨o, es, ep, ho, hd, r⟩, hl⟩ := I.loc
    obtain ⟨o', h1, h2⟩ := dat _ o ho fun vs z => by rw [hd] at z; cases z
    refine ⟨m, ⟨o', es, ep, h1, h2.trans hd, r⟩, fun i y v e1 e2 e3 => ?_⟩
    obtain ⟨u, ru, l⟩ := hl i y v e1 e2 e3
    refine ⟨u, ru, ?_⟩
    rcases l with l | ⟨k, c, e, z⟩
    · exact .inl l
    · exact .inr ⟨k, c, e, cellK _ _ z⟩
  · obtain ⟨v, z⟩ := I.cell y c q
    exact ⟨v, cellK _ _ z⟩
  · obtain ⟨e1, n, ne, nf, d⟩ := I.pin p q
    exact ⟨N.keep p.1 p.2 e1 (hp p q).1 (hp p q).2 fun z => (List.mem_cons.mp (I.stkSub p.1 z)).elim ne nf, n, ne, nf, d⟩
end
section
variable {P : Program} {w : World} {K : PySem.W.Frag} {mg : Str → Option Value} {base : Heap} {N : List Str} {qual : Str} {scope : Scope} {f : Addr} {cd : Value} {A : Around} {outer : List Env} {s0 : Shared} {H0 : Hp} {E : XK}
theorem leave_to {pins : List (Addr × Obj)} {σ : St} {H : Hp} {s : Shared} {e C : Addr} {tb : Value} (I : Inv (cxOf (CXE P w) P w K mg base N qual scope f cd A outer s0 H0 E) pins σ H s) (x : XIn (cxOf (CXE P w) P w K mg base N qual scope f cd A outer s0 H0 E) H s e C tb) (q : E (.ref C) none H) :
    (cxOf (CXE P w) P w K mg base N qual scope f cd A outer s0 H0 E).xe (.ref e) s := by
  show wpAny _ _ (leaving _ _) _ _ s
  unfold leaving
  refine wpAny_bind (note_ok (base := base) I.ok.frames I.stack rfl x.ob x.ok fun h' T' n => ?_)
  exact ⟨e, C, H, T', rfl, I.os, I.bare, un_noted (fs := frs outer) I.base n I.frs_new I.frs_all x.new (fun T z => (x.tnew T z).1), hok_noted I.hok n I.stkFree x.free (fun T z => (x.tnew T z).2), x.new, x.free, n.ob,
    Heap.get?_none_of_le (Nat.le_trans I.sz n.new), I.hok.fresh n.new, n.ne, n.nn, q⟩
theorem passE : Passes (CXE P w) (cxOf (CXE P w) P w K mg base N qual scope f cd A outer s0 H0 E) E := fun pins σ H s ev s' I h => by
  obtain ⟨e, C, H', T, rfl, os, bare, un, hok, new, free, ob, tnew, tfree, ne, nn, q⟩ := h
  have I' := I.call' (ch := []) os un hok bare (fun _ z => nomatch z)
  have old : ∀ b, s.heap.get? b = none → s0.heap.get? b = none := fun b hb => by
    cases z : s0.heap.get? b with
    | none => rfl
    | some o =>
      obtain ⟨o', z2⟩ := I.base.there b o z (fun z => nomatch z)
      rw [hb] at z2
      cases z2
  exact leave_to I' ⟨ob, .inr ⟨T, rfl, ne, nn⟩, free, old _ new, fun T2 z => by cases z; exact ⟨old _ tnew, tfree⟩⟩ q
def Raises (X : Cx) (E : XK) : Prop := ∀ (pins : List (Addr × Obj)) (σ : St) (H : Hp) (s : Shared) (e C : Addr) (vs : List Value) (h' : Heap), Inv X pins σ H s → Heap.MadeExcOf s.heap h' e (.ref C) vs → E (.ref C) none H → X.xe (.ref e) { s with heap := h' }
theorem raiseE : Raises (cxOf (CXE P w) P w K mg base N qual scope f cd A outer s0 H0 E) E := fun pins σ H s e C vs h' I m q => by
  have I' := I.kept (t' := s.toks) m.keeps
  obtain ⟨t, he, _, _⟩ := m.there
  refine leave_to I' ⟨⟨t, he⟩, .inl rfl, I.hok.none_of m.new, ?_, fun T z => by cases z⟩ q
  cases z : s0.heap.get? e with
  | none => exact z
  | some o =>
    obtain ⟨o', z2⟩ := I.base.there e o z (fun z => nomatch z)
    rw [m.new] at z2
    cases z2
end
end L2
namespace L2
open PySem PySem.Spec PyProof.Rows
def bmVE : List Value := [.type "ValueError", .type "Exception", .type "BaseException", .type "object"]
def nsQ (K : PySem.W.Frag) (N : Addr) : Bool := match K.lookup N with
  | some ⟨_, _, .dict es _, _⟩ => es.toList.all (fun e => match e.key with | .str _ _ => true | _ => false) && (nsFind es "__init__").isNone
  | _ => false
theorem nsQ_of {K : PySem.W.Frag} {h : Heap} {N : Addr} (X : K.In h) (q : nsQ K N = true) : ∃ m, h.Ns N m ∧ m "__init__" = none := by
  unfold nsQ at q
  split at q
  · rename_i c d es n sl ho
    obtain ⟨q1, q2⟩ := Bool.and_eq_true_iff.mp q
    refine ⟨nsFind es, ⟨_, es, n, X _ _ ho, rfl, fun e he => ?_, fun _ => rfl⟩, Option.isNone_iff_eq_none.mp q2⟩
    have z := List.all_eq_true.mp q1 e (Array.mem_toList_iff.mpr he)
    split at z
    · rename_i n t hk
      exact ⟨n, t, hk⟩
    · cases z
  · cases q
def rootIn (K : PySem.W.Frag) (R : Addr) : Bool := match K.lookup R with
  | some ⟨_, _, .cls cd, _⟩ => nsQ K cd.ns
  | _ => false
def xclsIn (K : PySem.W.Frag) (C R : Addr) : Bool := rootIn K R && match K.lookup C with
  | some ⟨.type "type", _, .cls cd, sl⟩ => (match cd.mro, sl.toList with
    | .ref C' :: bm, [_, _, _, _, some (.builtin n), _] => C' == C && !cd.hasDel && n == "ValueError.__new__" && bm == .ref R :: bmVE && nsQ K cd.ns
    | _, _ => false)
  | _ => false
structure XClsAt (h : Heap) (C R : Addr) : Prop where
  ob : ∃ nm qn N bs hdct sn sub ab col dd k0 k1 k2 k3 k5, h.get? C = some (excClassObj nm qn C N bs (.ref R :: bmVE) hdct sn sub ab col dd k0 k1 k2 k3 k5 "ValueError.__new__") ∧ ∃ m, h.Ns N m ∧ m "__init__" = none
  root : ∃ c0 dd cd sl mA, h.get? R = some { cls := c0, dict := dd, data := .cls cd, slots := sl } ∧ h.Ns cd.ns mA ∧ mA "__init__" = none
theorem xcls_of {K : PySem.W.Frag} {h : Heap} {C R : Addr} (X : K.In h) (q : xclsIn K C R = true) : XClsAt h C R := by
  unfold xclsIn at q
  obtain ⟨q0, q⟩ := Bool.and_eq_true_iff.mp q
  constructor
  · split at q
    · rename_i dd cd sl ho
      split at q
      · rename_i C' bm k0 k1 k2 k3 n k5 hm hs
        simp only [Bool.and_eq_true, beq_iff_eq, Bool.not_eq_true'] at q
        obtain ⟨⟨⟨⟨rfl, hdel⟩, rfl⟩, rfl⟩, hns⟩ := q
        obtain ⟨nm, bs, mro, ns, qn, hd, sn, sub, ab, col, del⟩ := cd
        dsimp only at hm hdel hns
        subst hm hdel
        have hsl : sl = #[k0, k1, k2, k3, some (.builtin "ValueError.__new__"), k5] := by
          obtain ⟨l⟩ := sl
          have hs' : l = _ := hs
          rw [hs']
        subst hsl
        exact ⟨nm, qn, ns, bs, hd, sn, sub, ab, col, dd, k0, k1, k2, k3, k5, X _ _ ho, nsQ_of X hns⟩
      · cases q
    · cases q
  · unfold rootIn at q0
    split at q0
    · rename_i c0 dd cd sl ho
      obtain ⟨m, h1, h2⟩ := nsQ_of X q0
      exact ⟨c0, dd, cd, sl, m, X _ _ ho, h1, h2⟩
    · cases q0
def tRaise (C : Addr) (E : XK) (ta : TA) : TS := fun _ σ H => ta σ H fun vs H1 => vs.length ≤ sizeLine ∧ E (.ref C) none H1
section
variable {X : Cx} {E : XK} {x : Str} {C R : Addr} {e0 : Expr} {rest : List Expr} {ta : TA} {np cpos pos : Pos}
theorem ps_raise (hx : Raises X E) (hc : X.calm = true) (hq : xclsIn X.K C R = true) (hg : Gl X x) (hm : X.mg x = some (.ref C)) (ha : PA X (e0 :: rest) ta) (hd : (x == ("__debug__" : Str)) = false := by decide)
    (he : starEach (e0 :: rest) X.env = (false, eval e0 X.env) :: starEach rest X.env := by rfl) (hpl : (backTo cpos (starEach rest X.env)).any (·.1) = false := by rfl) :
    PS X (.Raise (some (.Call (.Name x np) (e0 :: rest) [] cpos)) none pos) (tRaise C E ta) := by
  intro pins s σ H D I h
  have base : XClsAt X.base C R := xcls_of I.ok.mod.kin hq
  obtain ⟨nm, qn, N, bs, hdct, sn, sub, ab, col, dd, k0, k1, k2, k3, k5, hC, mN, hN, hni⟩ := base.ob
  obtain ⟨c0, dd', cd', sl', mA, hR, hA, hAi⟩ := base.root
  have tail : ∀ {h : Heap}, (∀ b o, X.base.get? b = some o → h.get? b = some o) → OwnTail h bmVE (.ref R :: bmVE) := fun k => .own (k _ _ hR) (hA.keeps k) hAi .base
  refine wpAny_Raise_call_subT (C := C) (nm := nm) (q := qn) (N := N) (bs := bs) (bm := .ref R :: bmVE) (hdct := hdct) (sn := sn) (sub := sub) (ab := ab) (col := col) (dd := dd) (k0 := k0) (k1 := k1) (k2 := k2) (k3 := k3) (k5 := k5)
    PySem.F.excBase_ValueError (mN := mN) (by rfl) (I.ok.hd hc) (by rw [he]; exact (by show (false || (backTo cpos (starEach rest X.env)).any (·.1)) = false; rw [hpl]; rfl)) hni (ld_glob I hg hm ⟨rfl, ?_⟩ hd)
  have h1 := ha cpos pins s σ H _ I h
  rw [he] at h1 ⊢
  refine Calls.evalArgs_plain (wpAny_mono h1 (fun us s2 hs => ?_) fun _ _ z => z)
  obtain ⟨vs, H2, I2, rv, hz, hE⟩ := hs
  exact ⟨rfl, by rw [← rv.length]; exact hz, I2.bk _ _ hC, hN.keeps I2.bk, tail I2.bk, fun h' e m => hx pins σ H2 s2 e C us h' I2 m hE⟩
end
section
variable {P : Program} {w : World} {K : PySem.W.Frag} {mg : Str → Option Value} {base : Heap}
theorem Fun.okE {x qual : Str} {st : Stmt} {f : Addr} {fd : FuncData} {N ps : List Str} {k : Nat} {sp : Sp} (F : Fun K x qual st f fd) (S : FnScope N ps (defScope st)) (len : ∀ vs H Q E, sp vs H Q E → vs.length = ps.length)
    (hbody : ∀ (cdv : Value) (A : Around) (outer : List Env) (s : Shared) (H : Hp) (vs : List V) (Q : VK) (E : XK), Room k (A.deeper (envOfC qual (defScope st) s.heap.objs.size f cdv)) → sp vs H Q E →
      ∃ t, PSs (cxOf (CXE P w) P w K mg base N qual (defScope st) f cdv A outer s H E) (defBody st) t ∧ t { nx := fun _ H' => Q .non H', rt := Q } (start N vs) H) : FnOk P w K mg base (CXE P w) (k + 1) f fd ps sp := by
  obtain ⟨oc, od, kV, doc, pm, an, cdv, ct, osl, rfl, lk, hcd⟩ := F.ex
  exact fn_of lk hcd S len fun A outer s H vs Q E hr hsp => hbody cdv A outer s H vs Q E hr hsp
end
section
variable (P : Program) (w : World) (K : PySem.W.Frag) (mg : Str → Option Value) (base : Heap)
structure MtE (C : Addr) (k : Nat) (m : Str) (ds : List V) (sp : Sp) : Prop where
  cl : Cls K C
  ex : ∃ (ps : List Str) (f : Addr) (fd : FuncData) (dv : List Value), Meth K C m f ∧ FnOk P w K mg base (CXE P w) k f fd ps sp ∧ Binds K fd ps dv ∧ Vals ds dv
structure FnE (k : Nat) (x : Str) (ps : List Str) (sp : Sp) : Prop where
  ex : ∃ (f : Addr) (fd : FuncData), mg x = some (.ref f) ∧ PySem.W.keepIn K (.ref f) = true ∧ FnOk P w K mg base (CXE P w) k f fd ps sp ∧ Binds K fd ps []
structure MkrE (C : Addr) (k : Nat) (x : Str) (sp : Sp) : Prop where
  ex : ∃ (ps : List Str) (f : Addr) (fd : FuncData), Mk K C f ∧ mg x = some (.ref C) ∧ FnOk P w K mg base (CXE P w) k f fd ps sp ∧ Binds K fd ps []
end
section
variable {X : Cx} {C : Addr} {k : Nat} {x m : Str} {ps : List Str} {sp : Sp} {ds : List V} {E : XK} {e o : Expr} {es : List Expr} {ta : TE} {t : TA} {p pos apos : Pos}
theorem pe_fnE (hx : Passes (CXE X.prog X.w) X E) (F : FnE X.prog X.w X.K X.mg X.base k x ps sp) (hr : Room k X.A) (hg : Gl X x) (ha : PA X (e :: es) t) (hdb : (x == ("__debug__" : Str)) = false := by decide)
    (he : starEach (e :: es) X.env = (false, eval e X.env) :: starEach es X.env := by rfl) (hpl : (backTo pos (starEach es X.env)).any (·.1) = false := by rfl) : PE X (.Call (.Name x p) (e :: es) [] pos) (tCall sp [] E t) := by
  obtain ⟨f, fd, h1, h2, h3, h4⟩ := F.ex
  exact pe_call h3 hr hg h1 h2 h4 .nil hx ha hdb he hpl
theorem pe_mkE (hx : Passes (CXE X.prog X.w) X E) (M : MkrE X.prog X.w X.K X.mg X.base C k x sp) (hr : Room (k + 1) X.A) (hg : Gl X x) (ha : PA X (e :: es) t) (hdb : (x == ("__debug__" : Str)) = false := by decide)
    (he : starEach (e :: es) X.env = (false, eval e X.env) :: starEach es X.env := by rfl) (hpl : (backTo pos (starEach es X.env)).any (·.1) = false := by rfl) : PE X (.Call (.Name x p) (e :: es) [] pos) (tMake C sp [] E t) := by
  obtain ⟨ps, f, fd, h1, h2, h3, h4⟩ := M.ex
  exact pe_make h1 h3 hr hg h2 h4 .nil hx ha hdb he hpl
theorem pe_mtE {pl : Sem Bool} (hx : Passes (CXE X.prog X.w) X E) (he : PE X o ta) (M : MtE X.prog X.w X.K X.mg X.base C k m ds sp) (hr : Room k X.A) (ha : PA X (e :: es) t)
    (hst : starEach (e :: es) X.env = (false, eval e X.env) :: starEach es X.env := by rfl) (hpl : (backTo pos (starEach es X.env)).any (·.1) = false := by rfl)
    (ht : eval (.Call (.Attribute o m apos) (e :: es) [] pos) X.env = (do
      let ov ← eval o X.env
      standAt apos.atName
      let (f, first) ← holding [ov] (getMethod ov m pl)
      callWith pos f first (backTo pos (starEach (e :: es) X.env)) (backToKw pos (keywordEach [] X.env))) := by rfl) : PE X (.Call (.Attribute o m apos) (e :: es) [] pos) (tMeth C m sp ds E ta t) := by
  obtain ⟨ps, f, fd, dv, h1, h2, h3, h4⟩ := M.ex
  exact pe_meth he M.cl h1 h2 hr h3 h4 hx ha hst hpl ht
end
theorem MtE.mono {P : Program} {w : World} {K : PySem.W.Frag} {mg : Str → Option Value} {base : Heap} {C : Addr} {j k : Nat} {m : Str} {ds : List V} {sp : Sp} (M : MtE P w K mg base C j m ds sp) (h : j ≤ k) : MtE P w K mg base C k m ds sp := by
  obtain ⟨c, ps, f, fd, dv, h1, h2, h3, h4⟩ := M
  exact ⟨c, ps, f, fd, dv, h1, h2.mono h, h3, h4⟩
theorem FnOk.toE {P : Program} {w : World} {K : PySem.W.Frag} {mg : Str → Option Value} {base : Heap} {k : Nat} {f : Addr} {fd : FuncData} {ps : List Str} {sp : Sp} (F : FnOk P w K mg base CX0 k f fd ps sp) : FnOk P w K mg base (CXE P w) k f fd ps sp :=
  ⟨F.len, fun A outer s H args us vs Q E hr he hb hv hs => codeAny_mono (F.run A outer s H args us vs Q E hr he hb hv hs) fun r s' hq => by
    cases r with
    | error e => exact hq.elim
    | ok fl => cases fl <;> exact hq⟩
theorem FnOk.both {P : Program} {w : World} {K : PySem.W.Frag} {mg : Str → Option Value} {base : Heap} {k : Nat} {f : Addr} {fd : FuncData} {ps : List Str} {sp sp' : Sp} (F : FnOk P w K mg base CX0 k f fd ps sp) (G : FnOk P w K mg base (CXE P w) k f fd ps sp') :
    FnOk P w K mg base (CXE P w) k f fd ps (fun vs H Q E => sp vs H Q E ∨ sp' vs H Q E) :=
  ⟨fun vs H Q E h => h.elim (F.len vs H Q E) (G.len vs H Q E), fun A outer s H args us vs Q E hr he hb hv hs => hs.elim (F.toE.run A outer s H args us vs Q E hr he hb hv) (G.run A outer s H args us vs Q E hr he hb hv)⟩
theorem FunD.okE {P : Program} {w : World} {K : PySem.W.Frag} {mg : Str → Option Value} {base : Heap} {x qual : Str} {st : Stmt} {f : Addr} {fd : FuncData} {dV : Value} {N ps : List Str} {k : Nat} {sp : Sp} (F : FunD K x qual st f fd dV) (S : FnScope N ps (defScope st)) (len : ∀ vs H Q E, sp vs H Q E → vs.length = ps.length)
    (hbody : ∀ (cdv : Value) (A : Around) (outer : List Env) (s : Shared) (H : Hp) (vs : List V) (Q : VK) (E : XK), Room k (A.deeper (envOfC qual (defScope st) s.heap.objs.size f cdv)) → sp vs H Q E →
      ∃ t, PSs (cxOf (CXE P w) P w K mg base N qual (defScope st) f cdv A outer s H E) (defBody st) t ∧ t { nx := fun _ H' => Q .non H', rt := Q } (start N vs) H) : FnOk P w K mg base (CXE P w) (k + 1) f fd ps sp := by
  obtain ⟨oc, od, kV, doc, pm, an, cdv, ct, osl, rfl, lk, hcd⟩ := F.ex
  exact fn_of lk hcd S len fun A outer s H vs Q E hr hsp => hbody cdv A outer s H vs Q E hr hsp
theorem rd_raise {C : Addr} {E : XK} {ta : TA} {D : Ends} {σ : St} {H : Hp} (q : ta σ H fun vs H1 => vs.length ≤ sizeLine ∧ E (.ref C) none H1) : tRaise C E ta D σ H := q
end L2
namespace L2
open PySem PySem.Spec PyProof.Rows
def XF (e C : Addr) (h : Heap) : Prop := ∃ tb, XOb h e C tb
structure XLook (K : PySem.W.Frag) (C : Addr) : Prop where
  ga : PySem.W.findIn K (.ref C) "__getattribute__" = some (some (.builtin "BaseException.__getattribute__"))
  na : PySem.W.findIn K (.ref C) "__getattr__" = some none
  cl : PySem.W.findIn K (.ref C) "__class__" = some (some (.builtin "object.__class__"))
  ob : PySem.W.mroIn K C (.type "object") = some true
  be : PySem.W.mroIn K C (.type "BaseException") = some true
  ic : (PySem.W.clsIn K C).isSome = true
section
variable {prog : Program} {w : World} {A : Around} {E : Value → Shared → Prop} {K : PySem.W.Frag} {e C : Addr} {h : Heap} {g : Array GenState} {d : Drawn} {t : Nat} {os : OsState}
theorem XF.ty {M : Model} (x : XF e C h) : PySem.W.Looks M h (typeOf (.ref e)) (.ref C) := by
  obtain ⟨tb, t0, he⟩ := x
  intro A Q E s k q
  exact wpAny_bind (wpAny_loadPart (k _ _ he) (wpAny_pure q))
theorem xclass_get {R : Result → Shared → Prop} (X : K.In h) (L : XLook K C) (x : XF e C h) (hq : R (.ok (.ret (.ref C))) ⟨h, g, d, t, os⟩) :
    codeAny (model prog w) A (.call (.builtin "getset_descriptor.__get__") ⟨[.builtin "object.__class__", .ref e, .ref C], []⟩) R ⟨h, g, d, t, os⟩ := by
  have hT5 : (⟨h, g, d, t, os⟩ : Shared).TypeIs (.builtin "object.__class__") "getset_descriptor" := F.typeOf_object_class
  have L0 := x.ty (M := model prog w)
  have L1 : PySem.W.Looks (model prog w) h (isSubtype (.ref C) (.type (".".intercalate ("object.__class__".cutAt '.').dropLast))) true := by rw [F.owner_object_class]; exact PySem.W.looks_mroIn X L.ob
  refine codeAny_call_builtin F.slot_gs_get.plain F.entry_gs_get (F.slot_gs_get.check _ _ _ _ _ _ _ _ hT5 (F.args_gs_get _ _ _) ?_)
  repeat (any_goals (first | assumption | with_reducible refine PySem.W.Looks.at L0 ?_ | with_reducible refine PySem.W.Looks.at L1 ?_ | wp_step))
  refine ⟨Code.quiet_builtin _ (by decide +kernel), codeAny_builtin F.entry_object_class ?_⟩
  repeat (any_goals (first | assumption | with_reducible refine PySem.W.Looks.at L0 ?_ | wp_step))
theorem xclass_entry {tk : Tok} {Q : Fin → Shared → Prop} (X : K.In h) (L : XLook K C) (x : XF e C h) (hq : Q (.done (.ret (.ref C))) ⟨h, g, d, t, os⟩) :
    wpAny (model prog w) A (Builtin.«object.__getattribute__» ⟨[.ref e, .str "__class__" tk], []⟩) Q E ⟨h, g, d, t, os⟩ := by
  have hT5 : (⟨h, g, d, t, os⟩ : Shared).TypeIs (.builtin "object.__class__") "getset_descriptor" := F.typeOf_object_class
  have L0 := x.ty (M := model prog w)
  have L1 := PySem.W.looks_findIn (M := model prog w) X L.cl
  have f5 := F.typeOf_object_class
  have f6 := F.slot_gs_get.lookup
  have f7 := F.slot_gs_set.lookup
  repeat (any_goals (first | assumption | with_reducible refine PySem.W.Looks.at L0 ?_ | with_reducible refine PySem.W.Looks.at L1 ?_ | wp_step))
  refine xclass_get X L x ?_
  repeat (any_goals (first | assumption | wp_step))
theorem xcheck_ga {M : Model} {nameV : Value} {Q : Unit → Shared → Prop} (X : K.In h) (L : XLook K C) (x : XF e C h) (hq : Q () ⟨h, g, d, t, os⟩) : wpAny M A (checkBuiltinCall "BaseException.__getattribute__" ⟨[.ref e, nameV], []⟩) Q E ⟨h, g, d, t, os⟩ := by
  have hk : builtinKind "BaseException.__getattribute__" = some .slot := by decide +kernel
  have hs : splitId "BaseException.__getattribute__" = some ("BaseException", "__getattribute__") := by decide +kernel
  have L0 := x.ty (M := M)
  have L1 := PySem.W.looks_mroIn (M := M) X L.be
  have ha := F.args_bexc_ga (.ref e) nameV
  simp only [checkBuiltinCall, hk, hs]
  refine wpAny_bind ?_
  unfold isInstance
  repeat (first | with_reducible refine PySem.W.Looks.at L0 ?_ | with_reducible refine PySem.W.Looks.at L1 ?_ | wp_step)
  exact hq
theorem xclass_call {tk : Tok} {R : Result → Shared → Prop} (X : K.In h) (L : XLook K C) (x : XF e C h) (hq : R (.ok (.ret (.ref C))) ⟨h, g, d, t, os⟩) :
    codeAny (model prog w) A (.call (.builtin "BaseException.__getattribute__") ⟨[.ref e, .str "__class__" tk], []⟩) R ⟨h, g, d, t, os⟩ :=
  codeAny_call_builtin (F.attrBase_ValueError).ga.plain F.entry_bexc_ga (xcheck_ga X L x (xclass_entry X L x hq))
theorem xclass_by {tk : Tok} {Q : Value → Shared → Prop} (X : K.In h) (L : XLook K C) (x : XF e C h) (hq : Q (.ref C) ⟨h, g, d, t, os⟩) : wpAny (model prog w) A (getAttrBy (.ref e) (.str "__class__" tk) false) Q E ⟨h, g, d, t, os⟩ := by
  have L0 := x.ty (M := model prog w)
  have L1 := PySem.W.looks_findIn (M := model prog w) X L.ga
  have L2 := PySem.W.looks_findIn (M := model prog w) X L.na
  have f3 := (F.attrBase_ValueError).ga.bind (.ref e)
  have y2 : (Value.builtin "BaseException.__getattribute__" == Value.builtin "object.__getattribute__") = false := by decide +kernel
  have y1 : (onTheHeap (Value.ref C) && Value.builtin "BaseException.__getattribute__" == Value.builtin "object.__getattribute__") = false := by rw [y2]; rfl
  have y0 : (false && onTheHeap (Value.builtin "BaseException.__getattribute__")) = false := rfl
  repeat (any_goals (first | assumption | with_reducible refine PySem.W.Looks.at L0 ?_ | with_reducible refine PySem.W.Looks.at L1 ?_ | with_reducible refine PySem.W.Looks.at L2 ?_ | wp_step))
  refine xclass_call X L x ?_
  repeat (any_goals (first | assumption | wp_step))
theorem xclass_attr {Q : Option Value → Shared → Prop} (X : K.In h) (L : XLook K C) (x : XF e C h) (hq : Q (some (.ref C)) ⟨h, g, d, t + 1, os⟩) : wpAny (model prog w) A (getAttr? (.ref e) "__class__") Q E ⟨h, g, d, t, os⟩ := by
  unfold getAttr? getAttrBy?
  repeat (any_goals (first | assumption | with_reducible apply xclass_by X L x | wp_step))
theorem kitx_exc (L : XLook K C) : PySem.W.KitX K (.ref e) (.ref C) (XF e C) where
  ty := fun _ _ _ x => x.ty
  it := fun M h X _ => by
    obtain ⟨cd, hc⟩ := Option.isSome_iff_exists.mp L.ic
    unfold PySem.W.clsIn at hc
    split at hc
    · rename_i c0 d0 cd0 sl0 ho
      intro A' Q' E' s' k q
      unfold isType loadHead
      exact wpAny_bind (wpAny_loadPart (k _ _ (X _ _ ho)) (wpAny_pure q))
    · cases hc
  ne := fun h tp dd its n sl X htp => by
    obtain ⟨cd, hc⟩ := Option.isSome_iff_exists.mp L.ic
    refine Bool.eq_false_iff.mpr fun q => ?_
    have z : C = tp := Value.ref.inj (beq_iff_eq.mp q)
    subst z
    unfold PySem.W.clsIn at hc
    split at hc
    · rename_i c0 d0 cd0 sl0 ho
      have z := (X _ _ ho).symm.trans htp
      cases z
    · cases hc
  ca := fun {prog w A E Q s} X x k => by
    obtain ⟨h, g, d, t, os⟩ := s
    exact xclass_attr X L x k
end
theorem call_isinstX {X : Cx} : CallR X (.builtin "isinstance") (fun xs H Q => ∃ (e C : Addr) (c : V) (u : Value) (b : Bool), xs = [.ref e, c] ∧ (∀ z, RelV c z → z = u) ∧ H e = some (.ext (XF e C)) ∧ XLook X.K C ∧ PySem.W.kitOne X.K (.ref C) u = some b ∧ Q (.bl b) H) := by
  intro pins s σ H xs us Q I r h
  obtain ⟨e, C, c, u, b, rfl, hu, he, L, k, q⟩ := h
  obtain ⟨u1, v, rfl, ru, rv⟩ := Vals.two r
  obtain rfl : u1 = Value.ref e := ru
  obtain rfl := hu v rv
  have x : XF e C s.heap := (I.hok e _ he).1
  exact PySem.W.kia_one (kitx_exc L) I.kIn x k (fun z => nomatch z) fun tk => ⟨.bl b, H, I.tok _, rfl, q⟩
end L2
namespace Ms
def BadT (s n : Int) (row : List Int) : Prop := (row.length : Int) ≠ n ∨ ∃ m ∈ row, ¬ (0 ≤ m ∧ m < s)
def BadC (n k : Int) (row : List Int) : Prop := (row.length : Int) ≠ n ∨ (∃ m ∈ row, m ≠ 0 ∧ m ≠ 1) ∨ row.sum ≠ k
end Ms
namespace My
open PySem L2
structure XT (K : PySem.W.Frag) (mg : Str → Option Value) (R NF NP NR NC : Addr) : Prop where
  x_NoForm : xclsIn K NF R = true
  g_NoForm : mg "NoForm" = some (.ref NF)
  x_NoPlace : xclsIn K NP R = true
  g_NoPlace : mg "NoPlace" = some (.ref NP)
  x_NoRow : xclsIn K NR R = true
  g_NoRow : mg "NoRow" = some (.ref NR)
  x_NoChange : xclsIn K NC R = true
  g_NoChange : mg "NoChange" = some (.ref NC)
abbrev BLot := Hp → Addr → List Int → Prop
def BT (C : Addr) : BLot := fun H p row => ∃ s n, TAt C H p s n ∧ Ms.BadT s n row
def BC (C : Addr) : BLot := fun H p row => ∃ n k, CAt C H p n k ∧ Ms.BadC n k row
def GT (C : Addr) : BLot := fun H p row => ∃ s n, TAt C H p s n ∧ (row.length : Int) = n ∧ ∀ m ∈ row, 0 ≤ m ∧ m < s
def GC (C : Addr) : BLot := fun H p row => ∃ n k, CAt C H p n k ∧ (row.length : Int) = n ∧ Ms.BitsI row ∧ row.sum = k
section
variable (K : PySem.W.Frag) (B G : BLot) (X : Addr)
def sxRow : Sp := fun vs H _ E => ∃ (p r : Addr) (row : List Int), vs = [.ref p, .ref r] ∧ B H p row ∧ SqL K H r (row.map V.int) ∧ ∀ H', Same H H' → E (.ref X) none H'
def sxLeap : Sp := fun vs H _ E => ∃ (p r : Addr) (j : Int) (row : List Int), vs = [.ref p, .ref r, .int j] ∧ B H p row ∧ SqL K H r (row.map V.int) ∧ ∀ H', Same H H' → E (.ref X) none H'
def sxDone : Sp := fun vs H _ E => ∃ (p r : Addr) (c : V) (row : List Int), vs = [.ref p, .ref r, c] ∧ B H p row ∧ SqL K H r (row.map V.int) ∧ ∀ H', Same H H' → E (.ref X) none H'
def sxBy : Sp := fun vs H _ E => ∃ (p r : Addr) (c b : V) (row : List Int), vs = [.ref p, .ref r, c, b] ∧ B H p row ∧ SqL K H r (row.map V.int) ∧ ∀ H', Same H H' → E (.ref X) none H'
def sxSteps1 : Sp := fun vs H _ E => ∃ (p r r2 : Addr) (row row2 : List Int), vs = [.ref p, .ref r, .ref r2] ∧ B H p row ∧ SqL K H r (row.map V.int) ∧ G H p row2 ∧ SqL K H r2 (row2.map V.int) ∧ ∀ H', Same H H' → E (.ref X) none H'
def sxSteps2 : Sp := fun vs H _ E => ∃ (p r2 : Addr) (v : V) (row2 : List Int), vs = [.ref p, v, .ref r2] ∧ B H p row2 ∧ SqL K H r2 (row2.map V.int) ∧ ∀ H', Same H H' → E (.ref X) none H'
end
def sxPlaceT (C X : Addr) : Sp := fun vs H _ E => ∃ (p : Addr) (k s n : Int), vs = [.ref p, .int k] ∧ TAt C H p s n ∧ ¬ (0 ≤ k ∧ k < s ^ n.toNat) ∧ ∀ H', Same H H' → E (.ref X) none H'
def sxPlaceC (C X : Addr) : Sp := fun vs H _ E => ∃ (p : Addr) (i n k : Int), vs = [.ref p, .int i] ∧ CAt C H p n k ∧ ¬ (0 ≤ i ∧ i < Ms.cho n k) ∧ ∀ H', Same H H' → E (.ref X) none H'
def sxInitT (X : Addr) : Sp := fun vs H _ E => ∃ (x : V) (s n : Int), vs = [x, .int s, .int n] ∧ ¬ (2 ≤ s ∧ s ≤ 1000000000000 ∧ 0 ≤ n ∧ n ≤ 200) ∧ ∀ H', Same H H' → E (.ref X) none H'
def sxInitC (X : Addr) : Sp := fun vs H _ E => ∃ (x : V) (n k : Int), vs = [x, .int n, .int k] ∧ ¬ (0 ≤ n ∧ n ≤ 200 ∧ 0 ≤ k ∧ k ≤ n) ∧ ∀ H', Same H H' → E (.ref X) none H'
def NoTurn (K : PySem.W.Frag) (H : Hp) (c : V) (n : Int) : Prop := ∃ t, c = .ref t ∧ ((∃ (w : Str) (xs : List V), SqT K H t (.str w :: xs) ∧ ¬ w = "turn") ∨ ∃ j : Int, SqT K H t [.str "turn", .int j] ∧ ¬ (0 ≤ j ∧ j < n))
def NoSpots (row : List Int) (n o i : Int) : Prop := ¬ (0 ≤ o ∧ o < n ∧ 0 ≤ i ∧ i < n ∧ row[o.toNat]? = some 1 ∧ row[i.toNat]? = some 0)
def NoSwap (K : PySem.W.Frag) (H : Hp) (c : V) (row : List Int) (n : Int) (back : Bool) : Prop := ∃ t, c = .ref t ∧ ((∃ (w : Str) (xs : List V), SqT K H t (.str w :: xs) ∧ ¬ w = "swap") ∨
  ∃ o i : Int, SqT K H t [.str "swap", .int o, .int i] ∧ NoSpots row n (if back then i else o) (if back then o else i))
section
variable (K : PySem.W.Frag) (C X : Addr)
def sxTurnOk : Sp := fun vs H _ E => ∃ (p : Addr) (c : V) (s n : Int), vs = [.ref p, c] ∧ TAt C H p s n ∧ NoTurn K H c n ∧ ∀ H', Same H H' → E (.ref X) none H'
def sxTurned : Sp := fun vs H _ E => ∃ (p r : Addr) (c b : V) (s n : Int) (row : List Int), vs = [.ref p, .ref r, c, b] ∧ TAt C H p s n ∧ SqL K H r (row.map V.int) ∧ (row.length : Int) = n ∧ (∀ m ∈ row, 0 ≤ m ∧ m < s) ∧ NoTurn K H c n ∧ ∀ H', Same H H' → E (.ref X) none H'
def sxDoneT : Sp := fun vs H _ E => ∃ (p r : Addr) (c : V) (s n : Int) (row : List Int), vs = [.ref p, .ref r, c] ∧ TAt C H p s n ∧ SqL K H r (row.map V.int) ∧ (row.length : Int) = n ∧ (∀ m ∈ row, 0 ≤ m ∧ m < s) ∧ NoTurn K H c n ∧ ∀ H', Same H H' → E (.ref X) none H'
def sxSpots : Sp := fun vs H _ E => ∃ (p r : Addr) (n k o i : Int) (row : List Int), vs = [.ref p, .ref r, .int o, .int i] ∧ CAt C H p n k ∧ SqL K H r (row.map V.int) ∧ (row.length : Int) = n ∧ NoSpots row n o i ∧ ∀ H', Same H H' → E (.ref X) none H'
def sxSwapped (back : Bool) : Sp := fun vs H _ E => ∃ (p r : Addr) (c : V) (n k : Int) (row : List Int), vs = [.ref p, .ref r, c, .bl back] ∧ CAt C H p n k ∧ RowC K H r n k row ∧ NoSwap K H c row n back ∧ ∀ H', Same H H' → E (.ref X) none H'
def sxDoneC (back : Bool) : Sp := fun vs H _ E => ∃ (p r : Addr) (c : V) (n k : Int) (row : List Int), vs = [.ref p, .ref r, c] ∧ CAt C H p n k ∧ RowC K H r n k row ∧ NoSwap K H c row n back ∧ ∀ H', Same H H' → E (.ref X) none H'
end
end My
namespace My
open PySem L2
theorem intX_of_get {xs : List Int} {i : Nat} {y : V} (h : (xs.map V.int)[i]? = some y) : ∃ z, xs[i]? = some z ∧ y = V.int z := by
  rw [List.getElem?_map] at h
  cases e : xs[i]? with
  | none => rw [e] at h; cases h
  | some z => rw [e] at h; exact ⟨z, rfl, (Option.some.inj h).symm⟩
end My
namespace L2
open PySem PySem.Spec PyProof.Rows
theorem entry_unchain : entryFor table "proto.unchain" = some Builtin.«proto.unchain» := entryFor_of_tree (by kernel_rfl)
section
variable {prog : Program} {w : World} {A : Around} {E : Value → Shared → Prop} {s : Shared}
theorem raiseNew_h {α : Type} {a ex C : Addr} {o : Obj} {vs : Array Value} {Q : α → Shared → Prop} (hh : A.handled = some (.ref ex)) (hx : XF ex C s.heap) (hne : ex ≠ a) (ho : s.heap.get? a = some o) (hd : o.data = .fields vs) (hz : 2 < vs.size)
    (h : E (.ref a) { s with heap := s.heap.update a (Obj.mapFields (·.setIfInBounds 2 (.ref ex))) }) : wpAny (model prog w) A (raiseNew (.ref a)) Q E s := by
  obtain ⟨tb, t0, he⟩ := hx
  unfold raiseNew
  refine wpAny_bind (wpAny_handled ?_)
  rw [hh]
  dsimp only
  rw [if_pos (by simpa using hne)]
  refine wpAny_bind (wpAny_holding (wpAny_runValue (codeAny_builtin entry_unchain ?_)))
  unfold Builtin.«proto.unchain»
  dsimp only
  refine wpAny_bind (wpAny_field he rfl (x := .none) rfl ?_)
  rw [if_pos (by decide)]
  refine wpAny_pure ?_
  dsimp only
  refine wpAny_bind ?_
  unfold updateField
  refine wpAny_bind (wpAny_load ho ?_)
  rw [hd]
  dsimp only
  rw [if_pos hz]
  exact wpAny_update ho (wpAny_throw h)
theorem range_end_h {it ex C : Addr} {x left step : Int} {Q : Option Value → Shared → Prop} (hh : A.handled = some (.ref ex)) (hx : XF ex C s.heap) (hit : IsRangeIter s.heap it x left step) (hleft : left ≤ 0)
    (hQ : ∀ h', Heap.ExtBut it s.heap h' → Q none { s with heap := h' }) : wpAny (model prog w) A (pyNext (.ref it)) Q E s := by
  have hty : s.TypeIs (.ref it) "range_iterator" := ⟨_, hit, rfl⟩
  have hlt : ex < s.heap.objs.size := by
    obtain ⟨tb, t0, he⟩ := hx
    exact Heap.lt_size he
  unfold pyNext
  refine wpAny_bind (wpAny_attempt (wpAny_callSpecial?_slot (name := Str.ofString "__next__") hty F.slot_range_iterator_next
    (wpAny_call_entry F.slot_range_iterator_next hty F.entry_range_iterator_next ?g0 (F.args_range_iterator_next_1 _))))
  case g0 =>
  show wpAny _ _ (field (Value.ref it) 0 >>= _) _ _ s
  refine wpAny_bind (wpAny_field hit rfl (x := rawInt x) (by rfl) ?_)
  show wpAny _ _ (field (Value.ref it) 1 >>= _) _ _ s
  refine wpAny_bind (wpAny_field hit rfl (x := rawInt left) (by rfl) ?_)
  show wpAny _ _ (field (Value.ref it) 2 >>= _) _ _ s
  refine wpAny_bind (wpAny_field hit rfl (x := rawInt step) (by rfl) ?_)
  show wpAny _ _ (if left ≤ 0 then _ else _) _ _ s
  rw [if_pos hleft]
  refine wpAny_bind (wpAny_rule (wpAny_bind ?_))
  show wpAny _ _ (newExc (Value.type "StopIteration") [] >>= _) _ _ _
  refine wpAny_bind ?_
  (unfold newExc); (unfold newTuple)
  refine wpAny_bind (wpAny_newObj_type ?g1 (by size_fits))
  case g1 =>
  refine wpAny_bind (m := firstArgMember _ _) (wpAny_of_eq (a := Value.none) (by first | rfl | (unfold firstArgMember; rfl)) ?g2)
  case g2 =>
  refine wpAny_newObj_type ?g3 (by size_fits)
  case g3 =>
  dsimp only
  generalize hO : ({ cls := Value.type "StopIteration", data := Data.fields _ } : Obj) = O
  have e1 : ∀ h : Heap, (h.push O).get? h.objs.size = some O := fun h => Heap.get?_push_size h (by rw [← hO]; rfl)
  obtain ⟨vs, hd, hz⟩ : ∃ vs, O.data = .fields vs ∧ 2 < vs.size := ⟨_, by rw [← hO], by first | decide | (show 2 < 6; decide)⟩
  have hc : O.cls = .type "StopIteration" := by rw [← hO]
  refine raiseNew_h (C := C) (show A.in1.handled = _ from hh) ?_ ?_ (e1 _) hd hz ?_
  · obtain ⟨tb, t0, he⟩ := hx
    exact ⟨tb, t0, Heap.get?_push_of_some _ (Heap.get?_push_of_some _ he)⟩
  · rw [Heap.size_push]
    exact Nat.ne_of_lt (Nat.lt_succ_of_lt hlt)
  · refine wpAny_bind (wpAny_isInstance (T := "StopIteration") (b := true) ⟨_, Heap.get?_update_self _ (e1 _) (Obj.isFreed_of_fields (Obj.data_mapFields hd _)), by rw [Obj.cls_mapFields]; exact hc⟩ isSubtype_stop ?_)
    refine wpAny_pure (hQ _ fun b o hb e => ?_)
    rw [Heap.get?_update_other _ _ (by rw [Heap.size_push]; exact Nat.ne_of_gt (Nat.lt_succ_of_lt (Heap.lt_size e)))]
    exact Heap.get?_push_of_some _ (Heap.get?_push_of_some _ e)
end
structure TurnH (ex Ce : Addr) (P : Program) (w : World) (K : PySem.W.Frag) (tg : Expr) (J : It) (fp : List Addr) (it : Addr) (tn : Nat → Heap → Prop) : Prop where
  mem : it ∈ fp
  obj : ∀ i h, tn i h → ∀ b ∈ fp, ∃ o, h.get? b = some o ∧ ∀ v, o.data ≠ .cell v
  keep : ∀ i h h', tn i h → (∀ b ∈ fp, ∀ o, h.get? b = some o → h'.get? b = some o) → tn i h'
  item : ∀ (X : Cx), X.prog = P → X.w = w → X.K = K → X.A.handled = some (.ref ex) → ∀ (i : Nat) (pins : List (Addr × Obj)) (s : Shared) (σ : St) (H : Hp) (E : Value → Shared → Prop), Inv X pins σ H s → H ex = some (.ext (XF ex Ce)) → (∀ b ∈ fp, FpOk X pins H b) → tn i s.heap → J.go i H →
    wpAny (model P w) X.A (pyNext (.ref it)) (fun r s1 => ∃ u, r = some u ∧
      wpAny (model P w) X.A (letOwnedTupleGo tg (.ref it) u) (fun _ s2 => ∃ x H', Inv X pins σ H' s2 ∧ RelV x u ∧ J.yld i H x H' ∧ tn (i + 1) s2.heap ∧ ∀ b ∈ fp, H' b = none) E s1) E s
  done : ∀ (X : Cx), X.prog = P → X.w = w → X.K = K → X.A.handled = some (.ref ex) → ∀ (i : Nat) (pins : List (Addr × Obj)) (s : Shared) (σ : St) (H : Hp) (E : Value → Shared → Prop), Inv X pins σ H s → H ex = some (.ext (XF ex Ce)) → (∀ b ∈ fp, FpOk X pins H b) → tn i s.heap → J.stop i H →
    wpAny (model P w) X.A (pyNext (.ref it)) (fun r s1 => r = none ∧ Inv X pins σ H s1) E s
  self : ∀ (A : Around) (i : Nat) (s : Shared) (Q : Value → Shared → Prop) (E : Value → Shared → Prop), tn i s.heap → Q (.ref it) s → wpAny (model P w) A (pyIter (.ref it)) Q E s
theorem turn_rangeH {ex Ce : Addr} {P : Program} {w : World} {K : PySem.W.Frag} {tg : Expr} (it : Addr) (lo : Int) (n : Nat) : TurnH ex Ce P w K tg (Itr lo n) [it] it (fun i h => IsRangeIter h it (lo + (i : Nat) * 1) ((n : Int) - (i : Nat)) 1) where
  mem := (turn_range (P := P) (w := w) (K := K) (tg := tg) it lo n).mem
  obj := (turn_range (P := P) (w := w) (K := K) (tg := tg) it lo n).obj
  keep := (turn_range (P := P) (w := w) (K := K) (tg := tg) it lo n).keep
  item := by
    intro X hP hw hK hh i pins s σ H E I he hf st hg
    subst hP hw hK
    obtain ⟨f0, f1, f2, f3, f4, f5⟩ := hf it (by simp)
    have hg' : i < n := hg
    refine wpAny_pyNext_range_item st (by omega) fun h' st' sb => ?_
    have I1 : Inv X pins σ H { s with heap := h', toks := s.toks + 1 } := I.turned (fun b o hb e => (sb.2 b hb).trans e) f0 f1 f3 f4 f5
    have st2 : IsRangeIter h' it (lo + ((i + 1 : Nat) : Int) * 1) ((n : Int) - ((i + 1 : Nat) : Int)) 1 := by
      rw [show lo + ((i + 1 : Nat) : Int) * 1 = lo + (i : Nat) * 1 + 1 by omega, show (n : Int) - ((i + 1 : Nat) : Int) = (n : Int) - (i : Nat) - 1 by omega]
      exact st'
    refine ⟨_, rfl, go_of (s := { s with heap := h', toks := s.toks + 1 }) (n := "range_iterator") st2 rfl rfl (by decide) ⟨.int (lo + i), H, I1, ⟨s.toks, ?_⟩, ⟨rfl, rfl⟩, st2, fun b hb => (hf b hb).1⟩⟩
    rw [Int.mul_one]
  done := by
    intro X hP hw hK hh i pins s σ H E I he hf st hg
    subst hP hw hK
    obtain ⟨f0, f1, f2, f3, f4, f5⟩ := hf it (by simp)
    exact range_end_h hh (I.hok ex _ he).1 st (by have : n ≤ i := hg; omega) fun h' eb => ⟨rfl, I.turned (t' := s.toks) (fun b o hb e => eb b o hb e) f0 f1 f3 f4 f5⟩
  self := (turn_range (P := P) (w := w) (K := K) (tg := tg) it lo n).self
section
variable {X : Cx} {pins : List (Addr × Obj)} {σ : St} {H : Hp} {s : Shared} {scope : Scope} {x : Str} {ns : List Str} {is : List Nat} {elt iter : Expr} {ifs : List Expr} {px pos : Pos} {tt : TT} {te : TE} {J : It} {fp : List Addr} {it : Addr} {tn : Nat → Heap → Prop}
theorem comp_blockH {ex Ce : Addr} (S : CompScope X scope x ns is) (hh : X.A.handled = some (.ref ex)) (I : Inv X pins σ H s) (T : TurnH ex Ce X.prog X.w X.K (.Name x px) J fp it tn) (st : tn 0 s.heap) (hf : ∀ b ∈ fp, FpOk X pins H b)
    (hb1 : ∀ C s H fp, PIfs (cxComp X scope C (x :: ns) s H fp) ifs tt) (hb2 : ∀ C s H fp, PE (cxComp X scope C (x :: ns) s H fp) elt te)
    (W : Nat → Nat → List V → Hp → Prop) (Fin : List V → Hp → Prop) {m0 : Nat} (w0 : W 0 m0 [] H) (hW : ∀ i m ys G, W i m ys G → G ex = some (.ext (XF ex Ce)))
    (turn : ∀ i m ys G, W i m ys G → ys.length < sizeLine ∧ ((J.stop i G ∧ Fin ys G) ∨ (J.go i G ∧ ∃ N : List V → Hp → Prop, (∀ ys' H', N ys' H' → ∃ m', m' < m ∧ W (i + 1) m' ys' H') ∧ ∀ v H3, J.yld i G v H3 → tt (some v :: capt is σ) H3 fun b H4 =>
      if b = true then te (some v :: capt is σ) H4 fun y H5 => N (ys ++ [y]) H5 else N ys H4)))
    {E : Value → Shared → Prop} {RR : Value → Addr → Result → Shared → Prop}
    (hRR : ∀ (D C : Addr) (s' : Shared) (G : Hp) (ys : List V), G D = none → Inv X pins σ (upd G D (.lst ys)) s' → (∃ m, s'.heap.Ns C m) → (upd G D (.lst ys)) C = none → C ≠ X.env.locals → X.s₀.heap.objs.size ≤ C →
      (∀ y c, X.env.cells.lookup y = some c → c ≠ C) → (∀ p ∈ X.pn ++ pins, p.1 ≠ C) → Fin ys G → RR (.ref D) C (.ok .next) s') :
    wpAny (model X.prog X.w) X.A (newList []) (fun acc s₃ => wpAny (model X.prog X.w) X.A (newFunctionEnv scope X.env.globals (clsOf X.env scope.names []) [] X.env.qual none .none (some X.env)) (fun cenv s₄ =>
      codeAny (model X.prog X.w) X.A (.compStart (.ListComp elt [⟨.Name x px, iter, ifs, 0⟩] scope pos) 0 (.ref it) acc { cenv with scope := relabel scope X.env }) (RR acc cenv.locals) s₄) E s₃) E s := by
  refine wpAny_newObj_type (wpAny_newFunctionEnv S.nocell (by intro y hy; simp at hy) (fun h₁ hns₁ hsb₁ => ?_) S.kind)
  dsimp only at hns₁ hsb₁ ⊢
  generalize hH2 : s.heap.push { cls := .type "list", dict := none, data := .seq ([] : List Value).toArray } = H2 at hns₁ hsb₁ ⊢
  have hC : H2.objs.size = s.heap.objs.size + 1 := by rw [← hH2, Heap.size_push]
  have hDC : s.heap.objs.size ≠ H2.objs.size := by rw [hC]; exact Nat.ne_of_lt (Nat.lt_succ_self _)
  have hCle : s.heap.objs.size ≤ H2.objs.size := by rw [hC]; exact Nat.le_succ _
  have below : ∀ b, b < s.heap.objs.size → b ≠ H2.objs.size := fun b hb => by rw [hC]; exact Nat.ne_of_lt (Nat.lt_succ_of_lt hb)
  have old : ∀ b o, s.heap.get? b = some o → h₁.get? b = some o := fun b o e => hsb₁.extBut b o (below b (Heap.lt_size e)) (Heap.get?_push_of_some _ (hH2 ▸ Heap.get?_push_of_some _ e))
  have hacc : h₁.get? s.heap.objs.size = some (lobj [] 0) := hsb₁.extBut _ _ hDC (Heap.get?_push_of_some _ (hH2 ▸ Heap.get?_push_size _ rfl))
  have hns₁' : h₁.Ns H2.objs.size fun _ => none := hns₁
  have ho : ∀ b ∈ fp, ∃ o, s.heap.get? b = some o := fun b hb => by obtain ⟨o, e, _⟩ := T.obj 0 _ st b hb; exact ⟨o, e⟩
  have hlt : ∀ b ∈ fp, b < s.heap.objs.size := fun b hb => by obtain ⟨o, e⟩ := ho b hb; exact Heap.lt_size e
  have freshD : s.heap.get? s.heap.objs.size = none := Heap.get?_none_of_le (Nat.le_refl _)
  have st₁ : tn 0 h₁ := T.keep 0 _ _ st fun b _ o e => old b o e
  have loop : ∀ s₃ : Shared, s₃ = { s with heap := h₁, toks := s.toks + ([] : List (Str × Value)).length } →
      codeAny (model X.prog X.w) X.A (.compLoop (.ListComp elt [⟨.Name x px, iter, ifs, 0⟩] scope pos) 0 (.ref it) (.ref s.heap.objs.size) (compEnvC scope (clsOf X.env scope.names []) H2.objs.size X.env))
        (RR (.ref s.heap.objs.size) H2.objs.size) s₃ := by
    rintro s₃ rfl
    let Y := cxComp X scope H2.objs.size (x :: ns) s H fp
    have J0 : Inv Y [(s.heap.objs.size, lobj [] 0)] (none :: capt is σ) H { s with heap := h₁, toks := s.toks + ([] : List (Str × Value)).length } := comp_start S I hCle (Nat.le_refl _) hDC hf ho old hns₁' hacc
    have fpY : ∀ {G : Hp} {us : List Value} {k : Nat}, (∀ b ∈ fp, G b = none) → ∀ b ∈ fp, FpOk Y [(s.heap.objs.size, lobj us k)] G b := fun {G us k} hn b hb => by
      refine ⟨hn b hb, below b (hlt b hb), (comp_ok S I hCle hf ho (x :: ns)).exfs b hb, .inl hb, fun y c h => (hf b hb).2.2.2.2.1 y c (S.cell I.ok h), fun p hp => ?_⟩
      have e : p = (s.heap.objs.size, lobj us k) := by simpa using (show p ∈ [(s.heap.objs.size, lobj us k)] from hp)
      rw [e]
      exact Nat.ne_of_gt (hlt b hb)
    refine compLoop_go (fun n s' => ∃ (i : Nat) (ys : List V) (us : List Value) (k : Nat) (G : Hp) (v0 : Option V), Inv Y [(s.heap.objs.size, lobj us k)] (v0 :: capt is σ) G s' ∧ Vals ys us ∧ tn i s'.heap ∧ (∀ b ∈ fp, G b = none) ∧ W i n ys G) ?_ m0
      ⟨0, [], [], 0, H, none, J0, .nil, st₁, fun b hb => (hf b hb).1, w0⟩
    rintro n s' ⟨i, ys, us, k, G, v0, J1, rv, st1, fr1, w1⟩
    obtain ⟨hz, hcase⟩ := turn i n ys G w1
    rcases hcase with ⟨stop, fin⟩ | ⟨go, N, hN, step⟩
    · refine wpAny_mono (T.done Y rfl rfl rfl hh i _ s' _ G (fun _ _ => False) J1 (hW _ _ _ _ w1) (fpY fr1) st1 stop) (fun r s1 h1 => ?_) fun _ _ z => z
      obtain ⟨hr, J2⟩ := h1
      subst hr
      obtain ⟨eD, hGD, _⟩ := J2.pin (s.heap.objs.size, lobj us k) (List.mem_append_right _ List.mem_cons_self)
      have hok : HOk X.prog X.w (upd G s.heap.objs.size (.lst ys)) s1.heap := HOk.track J2.hok hGD ⟨Nat.le_of_lt hz, us, k, rv, eD⟩
      have un : Un (frs X.stack) fp H (upd G s.heap.objs.size (.lst ys)) s.heap s1.heap := Un.track (show Un (frs X.stack) fp H G s.heap s1.heap from J2.base) hGD freshD
      have IX : Inv X pins σ (upd G s.heap.objs.size (.lst ys)) s1 := I.call' (ch := fp) J2.os un hok J2.bare fun b hb => ⟨(hf b hb).2.2.2.1, (hf b hb).2.1, (hf b hb).2.2.2.2.1, (hf b hb).2.2.2.2.2⟩
      obtain ⟨m, hm, _⟩ := J2.loc
      refine hRR _ _ s1 G ys hGD IX ⟨m, hm⟩ ?_ (Nat.ne_of_gt (Nat.lt_of_lt_of_le I.lt hCle)) (Nat.le_trans I.sz hCle) (fun y c h z => ?_) (fun p hp z => ?_) fin
      · rw [upd_ne (Ne.symm hDC)]
        exact J2.free
      · obtain ⟨v, q⟩ := I.cell y c h
        exact absurd (Nat.lt_of_lt_of_le q.lt (by rw [z]; exact hCle)) (Nat.lt_irrefl _)
      · exact absurd (Nat.lt_of_lt_of_le (Heap.lt_size (I.pin p hp).1) (by rw [z]; exact hCle)) (Nat.lt_irrefl _)
    · refine wpAny_mono (T.item Y rfl rfl rfl hh i _ s' _ G (fun _ _ => False) J1 (hW _ _ _ _ w1) (fpY fr1) st1 go) (fun r s1 h1 => ?_) fun _ _ z => z
      obtain ⟨u, hr, h4⟩ := h1
      subst hr
      refine wpAny_mono h4 (fun _ s5 h5 => ?_) fun _ _ z => z
      obtain ⟨v, H5, J5, r5, y5, st5, fr5⟩ := h5
      have J5' := J5.pinned (fpY fr5) (T.obj _ _ st5)
      have own : Y.env.scope.names.lookup x = some .local := lookup_relabel_local S.own
      refine wpAny_mono (pg_name (X := Y) (i := 0) (pos := px) S.nd rfl (.inl own) (.inr own) _ s5 _ H5 v u (fun σ6 H6 => σ6 = some v :: capt is σ ∧ H6 = H5) J5' r5 ⟨rfl, rfl⟩) (fun _ s6 h6 => ?_) fun _ _ z => z
      obtain ⟨σ6, H6, J6, rfl, rfl⟩ := h6
      refine wpAny_mono (hb1 H2.objs.size s H fp _ s6 _ _ _ J6 (step v _ y5)) (fun ok s7 h7 => ?_) fun _ _ z => z
      obtain ⟨H7, J7, q7⟩ := h7
      have again : ∀ {G9 : Hp} {s9 : Shared} {us9 : List Value} {k9 : Nat} {τ : Option V}, Inv Y ((s.heap.objs.size, lobj us9 k9) :: pinsAt fp s5.heap) (τ :: capt is σ) G9 s9 →
          Inv Y [(s.heap.objs.size, lobj us9 k9)] (τ :: capt is σ) G9 s9 ∧ tn (i + 1) s9.heap ∧ ∀ b ∈ fp, G9 b = none := fun {G9 s9 us9 k9 τ} J9 => by
        refine ⟨J9.pins_of fun p hp => J9.pin p (List.mem_append_right _ (by rcases List.mem_cons.mp hp with e | e; exact e ▸ List.mem_cons_self; cases e)), T.keep _ _ _ st5 fun b hb o e => (J9.pin (b, o) (List.mem_append_right _ (List.mem_cons_of_mem _ (mem_pinsAt hb e)))).1, fun b hb => ?_⟩
        obtain ⟨o, e, d⟩ := T.obj _ _ st5 b hb
        exact (J9.pin (b, o) (List.mem_append_right _ (List.mem_cons_of_mem _ (mem_pinsAt hb e)))).2.1
      cases ok with
      | false =>
        rw [if_neg Bool.false_ne_true] at q7
        obtain ⟨m', hm, w7⟩ := hN _ _ q7
        obtain ⟨J8, t8, f8⟩ := again J7
        exact ⟨m', hm, i + 1, ys, us, k, H7, some v, J8, rv, t8, f8, w7⟩
      | true =>
        rw [if_pos rfl] at q7
        refine wpAny_mono (hb2 H2.objs.size s H fp _ s7 _ _ _ J7 q7) (fun z s8 h8 => ?_) fun _ _ z => z
        obtain ⟨y, H8, J8, r8, q8⟩ := h8
        obtain ⟨m', hm, w8⟩ := hN _ _ q8
        refine comp_append (Y := Y) (pl := pinsAt fp s5.heap) J8 (by have := rv.length; omega) (Nat.le_refl _) (fun p hp => ?_) fun s9 n9 J9 => ?_
        · obtain ⟨hb, _⟩ := of_pinsAt (show p ∈ pinsAt fp s5.heap from hp)
          exact Nat.ne_of_lt (hlt p.1 hb)
        · obtain ⟨J9', t9, f9⟩ := again J9
          exact ⟨m', hm, i + 1, ys ++ [y], us ++ [z], n9, H8, some v, J9', rv.append (.cons r8 .nil), t9, f9, w8⟩
  exact codeAny_compStart_list (loop _ rfl) (T.self X.A 0 _ _ _ st₁ (loop _ rfl))
end
def PIEH (ex Ce : Addr) (X : Cx) (pins : List (Addr × Obj)) (σ : St) (tg : Expr) (R : It → Hp → Prop) (itv : Value) (s2 : Shared) : Prop :=
  ∃ (it : Addr) (fp : List Addr) (tn : Nat → Heap → Prop) (J : It) (H' : Hp), itv = .ref it ∧ Inv X pins σ H' s2 ∧ TurnH ex Ce X.prog X.w X.K tg J fp it tn ∧ tn 0 s2.heap ∧ (∀ b ∈ fp, FpOk X pins H' b) ∧ R J H'
def PIH (ex Ce : Addr) (X : Cx) (tg iter : Expr) (wi : TI) : Prop :=
  ∀ (pins : List (Addr × Obj)) (s : Shared) (σ : St) (H : Hp) (R : It → Hp → Prop), Inv X pins σ H s → wi σ H R →
    wpAny (model X.prog X.w) X.A (eval iter X.env) (fun v s1 => wpAny (model X.prog X.w) X.A (pyIter v) (PIEH ex Ce X pins σ tg R) X.xe s1) X.xe s
section
variable {X : Cx} {tg : Expr} {ex Ce : Addr}
theorem range_itH {pins : List (Addr × Obj)} {σ : St} {H : Hp} {s : Shared} {R : It → Hp → Prop} {E : Value → Shared → Prop} {lo hi : Int} {t u v : Tok} {tk : Nat} (I : Inv X pins σ H s) (h1 : -(2 ^ 62) ≤ lo) (h2 : lo < 2 ^ 62) (h3 : -(2 ^ 62) ≤ hi) (h4 : hi < 2 ^ 62)
    (q : R (Itr lo (hi - lo).toNat) H) : wpAny (model X.prog X.w) X.A (pyIter (.ref s.heap.objs.size)) (PIEH ex Ce X pins σ tg R) E { s with heap := s.heap.push { cls := .type "range", data := .fields #[.int lo t, .int hi u, .int 1 v] }, toks := tk } := by
  refine wpAny_pyIter_range (IsRange.new ..) (small_one h1 h2 h3 h4) ?_
  generalize hH : s.heap.push { cls := .type "range", data := .fields #[.int lo t, .int hi u, .int 1 v] } = H2
  have I1 : Inv X pins σ H { s with heap := H2, toks := tk } := I.kept fun b o e => by rw [← hH]; exact Heap.get?_push_of_some _ e
  refine ⟨H2.objs.size, [H2.objs.size], _, _, H, rfl, I1.kept (t' := tk) fun b o e => Heap.get?_push_of_some _ e, turn_rangeH _ lo (hi - lo).toNat, ?_, fun b hb => ?_, q⟩
  · have e1 : lo + ((0 : Nat) : Int) * 1 = lo := by simp
    have e2 : (((hi - lo).toNat : Nat) : Int) - ((0 : Nat) : Int) = Builtin.Range.rangeSize lo hi 1 := by rw [rangeSize_one]; split <;> omega
    show IsRangeIter _ _ (lo + ((0 : Nat) : Int) * 1) ((((hi - lo).toNat : Nat) : Int) - ((0 : Nat) : Int)) 1
    rw [e1, e2]
    exact Heap.get?_push_size _ rfl
  · have e : b = H2.objs.size := by simpa using hb
    subst e
    exact I1.fpOk (Nat.le_refl _) (I1.hok.fresh (Nat.le_refl _))
theorem pi_range1H {a : Expr} {ta : TA} {p pos : Pos} (hg : Gl X "range") (hm : X.mg "range" = none) (ha : PA X [a] ta) (hs : starEach [a] X.env = [(false, eval a X.env)] := by rfl) : PIH ex Ce X tg (.Call (.Name "range" p) [a] [] pos) (iRng1 ta) := by
  intro pins s σ H R I h
  refine Call_ (ld_blt I hg hm boot_range (PyProof.Rows.callWith_type1 (thn (ha pos pins s σ H _ I h) fun us s1 ⟨vs, H1, I1, r1, q1⟩ => ?_) hs rfl))
  obtain ⟨j, e, q1, q2, q⟩ := q1
  subst e
  cases r1 with
  | cons r rr =>
    cases rr
    obtain ⟨t, rfl⟩ := r
    exact call_range_1 (range_itH I1 (by omega) (by omega) q1 q2 (by simpa using q))
end
section
variable {X : Cx} {ex Ce : Addr} {scope : Scope} {x : Str} {ns : List Str} {is : List Nat} {elt iter : Expr} {ifs : List Expr} {px pos : Pos} {tt : TT} {te : TE}
def tCompH (ex Ce : Addr) (wi : TI) (tt : TT) (te : TE) (is : List Nat) : TE := fun σ H Q => wi σ H fun J H1 => ∃ W : Nat → Nat → List V → Hp → Prop, (∃ m, W 0 m [] H1) ∧ (∀ i m ys G, W i m ys G → G ex = some (.ext (XF ex Ce))) ∧ ∀ i m ys G, W i m ys G → ys.length < sizeLine ∧
  ((J.stop i G ∧ ∀ l, G l = none → Q (.ref l) (upd G l (.lst ys))) ∨
   (J.go i G ∧ ∃ N : List V → Hp → Prop, (∀ ys' H', N ys' H' → ∃ m', m' < m ∧ W (i + 1) m' ys' H') ∧ ∀ v H3, J.yld i G v H3 → tt (some v :: capt is σ) H3 fun b H4 => if b = true then te (some v :: capt is σ) H4 fun y H5 => N (ys ++ [y]) H5 else N ys H4))
theorem pe_compH {wi : TI} (S : CompScope X scope x ns is) (hh : X.A.handled = some (.ref ex)) (hi : PIH ex Ce X (.Name x px) iter wi) (hb1 : ∀ C s H fp, PIfs (cxComp X scope C (x :: ns) s H fp) ifs tt) (hb2 : ∀ C s H fp, PE (cxComp X scope C (x :: ns) s H fp) elt te)
    (hs : ∀ x, foldedSetIterable iter X.env x = pure x := by intro _; rfl) : PE X (.ListComp elt [⟨.Name x px, iter, ifs, 0⟩] scope pos) (tCompH ex Ce wi tt te is) := by
  intro pins s σ H Q I h
  rw [eval_ListComp]
  refine wpAny_comprehension_free (use := none) rfl hs (closure_cls (S.closes I.ok)) S.kind S.names (thn (hi pins s σ H _ I h) fun v s1 h1 => thn h1 fun itv s2 h2 => ?_)
  obtain ⟨it, fp, tn, J, H2, e, I2, T, st2, f2, W, ⟨m0, w0⟩, hW, turn⟩ := h2
  subst e
  refine comp_blockH S hh I2 T st2 f2 hb1 hb2 W (fun ys G => ∀ l, G l = none → Q (.ref l) (upd G l (.lst ys))) w0 hW turn (RR := fun acc C => compPost (model X.prog X.w) X.A X.xe none (EP X pins σ Q) acc C) ?_
  intro D C s' G ys hD I' hn hCn hL h0 hcl hp fin
  obtain ⟨m, hm⟩ := hn
  exact ⟨m, hm, fun h' sb => ⟨.ref D, _, I'.turned (it := C) (t' := s'.toks) (fun b o hb e => (sb.2 b hb).trans e) hCn hL (.inr h0) hcl hp, rfl, fin D hD⟩⟩
end
end L2
namespace L2
open PySem PySem.Spec PyProof.Rows
abbrev cxH (X : Cx) (e : Addr) : Cx := { X with A := X.A.mark (some (.ref e)), calm := false, xe := fun _ _ => False }
theorem Cx.Ok.toH {X : Cx} {e : Addr} (ok : X.Ok) : (cxH X e).Ok :=
  ⟨ok.mod, ok.kind, ok.glob, ok.blt, ok.above, ok.inj, ok.has, ok.cab, (fun z => nomatch z), ok.frames, ok.stk, ok.exf, ok.bs, ok.bsz, ok.noex, ok.exfs, ok.funs, ok.frf⟩
section
variable {X : Cx} {pins : List (Addr × Obj)} {σ : St} {H : Hp} {s : Shared} {e : Addr}
theorem Inv.toH (I : Inv X pins σ H s) : Inv (cxH X e) pins σ H s := ⟨I.ok.toH, I.os, I.bare, I.base, I.loc, I.cell, I.free, I.freeC, I.pin, I.hok, I.len⟩
theorem Inv.ofH (I : Inv (cxH X e) pins σ H s) (ok : X.Ok) : Inv X pins σ H s := ⟨ok, I.os, I.bare, I.base, I.loc, I.cell, I.free, I.freeC, I.pin, I.hok, I.len⟩
theorem Inv.trackX {o : HO} {u : Obj} (I : Inv X pins σ H s) (hn : H e = none) (h0 : X.s₀.heap.get? e = none) (he : s.heap.get? e = some u) (hu : ∀ v, u.data ≠ .cell v) (hL : e ≠ X.env.locals) (hp : ∀ p ∈ X.pn ++ pins, p.1 ≠ e) (new : ObjOk X.prog X.w (upd H e o) s.heap e o) : Inv X pins σ (upd H e o) s := by
  refine ⟨I.ok, I.os, I.bare, Un.track I.base hn h0, I.loc, I.cell, by rw [upd_ne (Ne.symm hL)]; exact I.free, fun y c q => ?_, fun p q => ?_, HOk.track I.hok hn new, I.len⟩
  · rw [upd_ne (fun z => ?_)]
    · exact I.freeC y c q
    · obtain ⟨v, o2, ho, hd⟩ := I.cell y c q
      rw [z, he] at ho
      cases ho
      exact hu v hd
  · obtain ⟨e1, n, ne, nf, d⟩ := I.pin p q
    exact ⟨e1, by rw [upd_ne (hp p q)]; exact n, ne, nf, d⟩
end
structure RoomH (k : Nat) (A : Around) : Prop where
  dp : A.depth + 3 * k + 5 < recursionLimit
  un : A.units + 16 * k + 200 < cLine
theorem Room.toH {k : Nat} {A : Around} {h : Option Value} (r : Room k A) : RoomH k (A.mark h) := ⟨r.dp, r.un⟩
structure FnOkH (ex : Addr) (P : Program) (w : World) (K : PySem.W.Frag) (mg : Str → Option Value) (base : Heap) (k : Nat) (f : Addr) (fd : FuncData) (ps : List Str) (sp : Sp) : Prop where
  len : ∀ vs H Q E, sp vs H Q E → vs.length = ps.length
  run : ∀ (A : Around) (outer : List Env) (s : Shared) (H : Hp) (args : Args) (us : List Value) (vs : List V) (Q : VK), RoomH k A → A.handled = some (.ref ex) → Env0 P w K mg base A outer s H → BindsTo s fd args (ps.zip us) → Vals vs us → sp vs H Q E0 →
    codeAny (model P w) A (.call (.ref f) args) (CR CX0 outer P w H s Q E0) s
abbrev cxHf (P : Program) (w : World) (K : PySem.W.Frag) (mg : Str → Option Value) (base : Heap) (N : List Str) (qual : Str) (scope : Scope) (f : Addr) (cd : Value) (A : Around) (outer : List Env) (s : Shared) (H : Hp) : Cx :=
  { cxOf CX0 P w K mg base N qual scope f cd { A with handled := none } outer s H E0 with A := A.deeper (envOfC qual scope s.heap.objs.size f cd), calm := false, xe := fun _ _ => False }
theorem fn_ofH {ex : Addr} {P : Program} {w : World} {K : PySem.W.Frag} {mg : Str → Option Value} {base : Heap} {k : Nat} {f : Addr} {name qual : Str} {params : Arguments} {body : List Stmt} {scope : Scope} {dV kV doc pm cdv ct oc : Value} {an od : Option Addr}
    {osl : Array (Option Value)} {N ps : List Str} {sp : Sp} (lk : K.lookup f = some ⟨oc, od, .func (PySem.W.fnOf name qual params body scope dV kV doc pm an cdv ct), osl⟩) (hcd : PySem.W.codeIn K cdv qual = true) (S : FnScope N ps scope)
    (len : ∀ vs H Q E, sp vs H Q E → vs.length = ps.length)
    (hbody : ∀ (A : Around) (outer : List Env) (s : Shared) (H : Hp) (vs : List V) (Q : VK), (A.deeper (envOfC qual scope s.heap.objs.size f cdv)).handled = some (.ref ex) → sp vs H Q E0 →
      ∃ t, PSs (cxHf P w K mg base N qual scope f cdv A outer s H) body t ∧ t { nx := fun _ H' => Q .non H', rt := Q } (start N vs) H) :
    FnOkH ex P w K mg base (k + 1) f (PySem.W.fnOf name qual params body scope dV kV doc pm an cdv ct) ps sp := by
  refine ⟨len, fun A outer s H args us vs Q hr hh e0 hb r hsp => ?_⟩
  have hl := len _ _ _ _ hsp
  have KX : K.In s.heap := e0.mod.kin.keeps fun b o e => (e0.bs b o e).1
  have lim : s.heap.NoLimit := e0.mod.nolimit.keeps fun b o e => (e0.bs b o e).1
  have hkind : ∀ y ∈ ps.zip us, scope.names.lookup y.1 = some .local ∨ (scope.names.lookup y.1 = some .cell ∧ ((cellsFrom (s.heap.objs.size + 1) scope.names []).lookup y.1).isSome = true) := fun ⟨n, v⟩ hy => by
    rcases S.par n (List.of_mem_zip hy).1 with q | q
    · exact .inl q
    · exact .inr ⟨q, PySem.W.cellsFrom_some _ _ _ (.inl q)⟩
  refine codeAny_call_function (by have := hr.dp; omega) (KX _ _ lk) rfl S.co S.gen rfl (PySem.W.codeRec_of KX hcd) (hb _ _ _ _ ?_)
  refine wpAny_newFunctionEnv_cells S.kind hkind fun env he s1 x => ?_
  subst he
  refine ⟨lim.keeps x.toInCall.keep, codeAny_func ?_⟩
  obtain ⟨t, ht, hq⟩ := hbody A outer s H vs Q hh hsp
  have I0 : Inv (cxOf CX0 P w K mg base N qual scope f cdv { A with handled := none } outer s H E0) [] (start N vs) H s1 := inv_start S rfl ⟨e0.frames, e0.mod, e0.bs, e0.bsz, e0.funs, e0.frf, e0.hok, e0.bare⟩ hl r x
  have ok0 := I0.ok
  have I : Inv (cxHf P w K mg base N qual scope f cdv A outer s H) [] (start N vs) H s1 :=
    ⟨⟨ok0.mod, ok0.kind, ok0.glob, ok0.blt, ok0.above, ok0.inj, ok0.has, ok0.cab, (fun z => nomatch z), Around.frames_deeper e0.frames, ok0.stk, ok0.exf, ok0.bs, ok0.bsz, ok0.noex, ok0.exfs, ok0.funs, ok0.frf⟩, I0.os, I0.bare, I0.base, I0.loc, I0.cell, I0.free, I0.freeC, I0.pin, I0.hok, I0.len⟩
  refine wpAny_mono (ht [] s1 (start N vs) H _ I hq) (fun fl s' hs => ?_) fun e s' hs => hs.elim
  have fin : ∀ {σ' : St} {H' : Hp} {v : V} {u : Value}, Inv (cxHf P w K mg base N qual scope f cdv A outer s H) [] σ' H' s' → RelV v u → Q v H' → CE outer P w H s Q u s' :=
    fun {σ' H' v u} J rv q => ⟨v, H', J.os, J.bare, J.base, J.hok, rv, q⟩
  cases fl with
  | ret u =>
    obtain ⟨v, σ', H', J, rv, q⟩ := hs
    exact fin J rv q
  | next =>
    obtain ⟨σ', H', J, q⟩ := hs
    exact fin (v := V.non) (u := Value.none) J rfl q
  | brk =>
    obtain ⟨_, _, _, q⟩ := hs
    exact False.elim q
  | cont =>
    obtain ⟨_, _, _, q⟩ := hs
    exact False.elim q
theorem Fun.okH {ex : Addr} {P : Program} {w : World} {K : PySem.W.Frag} {mg : Str → Option Value} {base : Heap} {x qual : Str} {st : Stmt} {f : Addr} {fd : FuncData} {N ps : List Str} {k : Nat} {sp : Sp} (F : Fun K x qual st f fd) (S : FnScope N ps (defScope st)) (len : ∀ vs H Q E, sp vs H Q E → vs.length = ps.length)
    (hbody : ∀ (cdv : Value) (A : Around) (outer : List Env) (s : Shared) (H : Hp) (vs : List V) (Q : VK), (A.deeper (envOfC qual (defScope st) s.heap.objs.size f cdv)).handled = some (.ref ex) → sp vs H Q E0 →
      ∃ t, PSs (cxHf P w K mg base N qual (defScope st) f cdv A outer s H) (defBody st) t ∧ t { nx := fun _ H' => Q .non H', rt := Q } (start N vs) H) : FnOkH ex P w K mg base (k + 1) f fd ps sp := by
  obtain ⟨oc, od, kV, doc, pm, an, cdv, ct, osl, rfl, lk, hcd⟩ := F.ex
  exact fn_ofH lk hcd S len fun A outer s H vs Q hh hsp => hbody cdv A outer s H vs Q hh hsp
structure FnH (P : Program) (w : World) (K : PySem.W.Frag) (mg : Str → Option Value) (base : Heap) (k : Nat) (x : Str) (ps : List Str) (sp : Addr → Sp) : Prop where
  ex : ∃ (f : Addr) (fd : FuncData), mg x = some (.ref f) ∧ PySem.W.keepIn K (.ref f) = true ∧ (∀ ex, FnOkH ex P w K mg base k f fd ps (sp ex)) ∧ Binds K fd ps []
section
variable {X : Cx} {ex : Addr} {k : Nat} {x : Str} {ps : List Str} {sp : Addr → Sp} {e : Expr} {es : List Expr} {t : TA} {p pos : Pos}
theorem pe_fnH (F : FnH X.prog X.w X.K X.mg X.base k x ps sp) (hr : RoomH k X.A) (hh : X.A.handled = some (.ref ex)) (hg : Gl X x) (ha : PA X (e :: es) t) (hdb : (x == ("__debug__" : Str)) = false := by decide)
    (he : starEach (e :: es) X.env = (false, eval e X.env) :: starEach es X.env := by rfl) (hpl : (backTo pos (starEach es X.env)).any (·.1) = false := by rfl) : PE X (.Call (.Name x p) (e :: es) [] pos) (tCall (sp ex) [] E0 t) := by
  intro pins s σ H Q I h
  obtain ⟨f, fd, h1, h2, h3, hb⟩ := F.ex
  refine wpAny_Call_Name_kw (ld_glob I hg h1 ?_ hdb)
  refine PySem.W.callWith_K (h₀ := X.base) I.ok.mod.kin h2 (thn (ha pos pins s σ H _ I h) fun us s1 ⟨vs, H1, I1, r, q⟩ => ⟨I1.kIn, ?_⟩) he hpl
  have q' : sp ex vs H1 Q E0 := by
    have q2 : sp ex (vs ++ []) H1 Q E0 := q
    rw [List.append_nil] at q2
    exact q2
  have hl : us.length = ps.length := by rw [← r.length]; exact (h3 ex).len _ _ _ _ q'
  have hb' := hb s1 us I1.kIn (by rw [List.append_nil]; exact hl)
  rw [List.append_nil] at hb'
  refine wpAny_call (codeAny_mono ((h3 ex).run X.A X.stack s1 H1 ⟨us, []⟩ us vs Q hr hh I1.env0 hb' r q') fun r s' hq => ?_)
  cases r with
  | error e => exact hq.elim
  | ok fl =>
    cases fl with
    | ret u => exact I1.after hq
    | next => exact False.elim hq
    | brk => exact False.elim hq
    | cont => exact False.elim hq
end
theorem flight_ok {M : Model} {A : Around} {E : Value → Shared → Prop} {s : Shared} {e C T : Addr} {Q : Unit → Shared → Prop} (hx : XOb s.heap e C (.ref T)) (hne : T ≠ e) (ht : TbN s.heap T)
    (h : ∀ h', (∀ b o, b ≠ T → s.heap.get? b = some o → h'.get? b = some o) → XOb h' e C (.ref T) → Q () { s with heap := h' }) : wpAny M A (setFlight (.ref e) none) Q E s := by
  obtain ⟨t, he⟩ := hx
  obtain ⟨oT, ts, hT, hd, h3⟩ := ht
  unfold setFlight
  refine wpAny_bind (wpAny_field he rfl (x := .ref T) rfl ?_)
  rw [if_pos (by simp)]
  refine wpAny_setField hT hd (Array.getElem?_eq_some_iff.mp h3).1 (h _ (fun b o hb q => ?_) ⟨t, ?_⟩)
  · rw [Heap.get?_update_other _ _ (Ne.symm hb)]; exact q
  · rw [Heap.get?_update_other _ _ hne]; exact he
theorem Inv.forget {X : Cx} {pins : List (Addr × Obj)} {σ : St} {H : Hp} {s : Shared} {h' : Heap} {m' : Str → Option Value} {t' : Nat} (I : Inv X pins σ H s) (hn : h'.Ns X.env.locals m') (hs : Heap.SameBut X.env.locals s.heap h') : Inv X pins (List.replicate X.N.length none) H { s with heap := h', toks := t' } := by
  have neL : ∀ b o, X.s₀.heap.get? b = some o → b ≠ X.env.locals := fun b o e => Nat.ne_of_lt (Nat.lt_of_lt_of_le (Heap.lt_size e) I.ok.above)
  refine ⟨I.ok, I.os, I.bare, ⟨fun b o e n hb hx => ?_, fun b o e n hb hx => ?_, I.base.free, fun b o e hx => ?_, I.base.tups, I.base.frzs, I.base.tbls⟩, ⟨m', hn, fun j y v e1 e2 e3 => ?_⟩, fun y c q => ?_, I.free, I.freeC, fun p q => ?_, fun b u q => ?_, by rw [List.length_replicate]⟩
  · exact (hs.2 b (neL b o e)).trans (I.base.keep b o e n hb hx)
  · obtain ⟨sl, q⟩ := I.base.slot b o e n hb hx
    exact ⟨sl, (hs.2 b (neL b o e)).trans q⟩
  · obtain ⟨o2, q⟩ := I.base.there b o e hx
    exact ⟨o2, (hs.2 b (neL b o e)).trans q⟩
  · rw [List.getElem?_replicate] at e2
    split at e2 <;> cases e2
  · obtain ⟨v, z⟩ := I.cell y c q
    exact ⟨v, z.sameBut hs (I.cne y c q)⟩
  · obtain ⟨e, n, ne, nf, d⟩ := I.pin p q
    exact ⟨(hs.2 p.1 ne).trans e, n, ne, nf, d⟩
  · refine (I.hok b u q).stay (fun c v hc z => (hs.2 c fun w => ?_).trans z) (fun _ z => z) fun _ _ z => z
    rcases hc with y | y
    · rw [← y, w, I.free] at q; cases q
    · rw [w, I.free] at y; cases y
def PS0 (X : Cx) (st : Stmt) (t : TS) : Prop :=
  ∀ (s : Shared) (σ : St) (H : Hp) (D : Ends), Inv X [] σ H s → t D σ H → wpAny (model X.prog X.w) X.A (exec st X.env) (SP X [] D) X.xe s
def PSs0 (X : Cx) (st : List Stmt) (t : TS) : Prop :=
  ∀ (s : Shared) (σ : St) (H : Hp) (D : Ends), Inv X [] σ H s → t D σ H → wpAny (model X.prog X.w) X.A (execs st X.env) (SP X [] D) X.xe s
theorem pss0_cons {X : Cx} {st : Stmt} {rest : List Stmt} {t u : TS} (h1 : PS0 X st t) (h2 : PSs X rest u) : PSs0 X (st :: rest) (tSeq t u) := by
  intro s σ H D I h
  refine wpAny_execs_cons (thn (h1 s σ H { D with nx := u D } I h) fun f s1 q => ?_)
  cases f with
  | next =>
    obtain ⟨σ', H', I', q⟩ := q
    exact h2 [] s1 σ' H' D I' q
  | ret v => exact q
  | brk => exact q
  | cont => exact q
def landW (X : Cx) (Eh : Addr → Hp → Prop) (ev : Value) (s' : Shared) : Prop := ∃ (e C : Addr) (H' : Hp) (T : Addr) (σ' : St), ev = .ref e ∧ Inv X [] σ' H' s' ∧ XIn X H' s' e C (.ref T) ∧ Eh C H'
section
variable {X : Cx} {body : List Stmt} {tb : TS} {Ra : Addr} {xR n f : Str} {i k : Nat} {np ep fp cp rp hp pos : Pos} {ps : List Str} {sp : Addr → Sp} {Eh : Addr → Hp → Prop} {rt : VK}
theorem land_pass (hx : X.ex = []) : Passes (CXE X.prog X.w) (X.wish (landW X Eh)) (fun cv _ H' => ∃ C, cv = .ref C ∧ Eh C H') := fun pins σ H s ev s' I h => by
  obtain ⟨e, C, H', T, rfl, os, bare, un, hok, new, free, ob, tnew, tfree, ne, nn, C2, z, q⟩ := h
  cases z
  have I' := (I.call' (ch := []) os un hok bare (fun _ z => nomatch z)).unwish
  have old : ∀ b, s.heap.get? b = none → X.s₀.heap.get? b = none := fun b hb => by
    cases z : X.s₀.heap.get? b with
    | none => rfl
    | some o =>
      obtain ⟨o', z2⟩ := I.base.there b o z (by show b ∉ X.ex; rw [hx]; exact fun z => nomatch z)
      rw [hb] at z2
      cases z2
  exact ⟨e, C, H', T, σ, rfl, I'.pins_of (fun _ z => nomatch z), ⟨ob, .inr ⟨T, rfl, ne, nn⟩, free, old _ new, fun T2 z => by cases z; exact ⟨old _ tnew, tfree⟩⟩, q⟩
theorem ps_tryR (hpn : X.pn = []) (hstk : X.stack = X.env :: X.outer ∧ X.env.frame = some X.env.locals) (hN : X.N.Nodup) (hi : X.N[i]? = some n) (hl : X.env.scope.names.lookup n = some .local) (hd1 : (n == ("__debug__" : Str)) = false) (hd2 : (n == ("__classdict__" : Str)) = false)
    (hgR : Gl X xR) (hmR : X.mg xR = some (.ref Ra)) (hd3 : (xR == ("__debug__" : Str)) = false) (hb : PSs (X.wish (landW X Eh)) body tb) (hF : FnH X.prog X.w X.K X.mg X.base k f ps sp) (hr : Room k X.A) (hgf : Gl X f) (hd4 : (f == ("__debug__" : Str)) = false)
    (hE : ∀ C H', Eh C H' → PySem.W.exmOne X.K (.ref C) (.ref Ra) = some true ∧ ∀ e, H' e = none → sp e [.ref e] (upd H' e (.ext (XF e C))) rt E0) :
    PS0 X (.Try body [.ExceptHandler (some (.Name xR np)) (some n) [.Return (some (.Call (.Name f fp) [.Name n ep] [] cp)) rp] hp] [] [] pos) (fun D σ H => (∀ v H', rt v H' → D.rt v H') ∧ tb D σ H) := by
  intro s σ H D I ⟨hrt, h⟩
  refine wpAny_Try_except (wpAny_mono (hb [] s σ H D (I.wish _) h) (fun fl s1 q => ?_) (fun ev s1 q => ?_))
  · cases fl with
    | next => exact wpAny_execs_nil q.unwish
    | ret v => exact q.unwish
    | brk => exact q.unwish
    | cont => exact q.unwish
  · obtain ⟨e, C, H1, T, σ1, rfl, I1, xi, hh⟩ := q
    obtain ⟨hm1, hsp⟩ := hE C H1 hh
    have hst : frs (X.env :: X.outer) = frs X.stack := by rw [hstk.1]
    have nop : ∀ {P : Addr × Obj → Prop}, ∀ p ∈ X.pn ++ [], P p := fun {P} p z => by rw [hpn] at z; exact nomatch z
    refine note_ok (base := X.base) (by rw [← hstk.1]; exact I1.ok.frames) (by rw [← hstk.1]; exact I1.stack) hstk.2 xi.ob xi.ok fun h2 T' N => ?_
    rw [hst] at N
    have I2 : Inv X [] σ1 H1 { s1 with heap := h2 } := I1.noted N xi nop
    have hTL : T' ≠ X.env.locals := Nat.ne_of_gt (Nat.lt_of_lt_of_le I1.lt N.new)
    refine wpAny_handleBy_cons (codeAny_handlers_test ?_) (by intro q; cases q)
    refine ld_glob (X := cxH X e) I2.toH hgR hmR ?_ hd3
    refine (PySem.W.exm_one (M := model X.prog X.w) (h := h2) I2.kIn (XF.ty ⟨_, N.ob⟩) hm1).here ?_
    refine codeAny_handlers_suite_as ?_
    refine flight_ok N.ob N.ne N.nn fun h3 k3 x3 => ?_
    have I3 : Inv X [] σ1 H1 { s1 with heap := h3 } := Inv.turned (s := { s1 with heap := h2 }) (it := T') (t' := s1.toks) I2 k3 (I1.hok.fresh N.new) hTL (.inr (Nat.le_trans I1.sz N.new)) (fun y c q z => by
      obtain ⟨v, w⟩ := I1.cell y c q
      exact absurd (Nat.lt_of_lt_of_le w.lt (by rw [z]; exact N.new)) (Nat.lt_irrefl _)) nop
    obtain ⟨t3, he3⟩ := id x3
    have heL : e ≠ X.env.locals := fun z => by
      obtain ⟨m, ⟨o, es, ep, ho, hd, _⟩, _⟩ := I3.loc
      have ho' : h3.get? X.env.locals = some o := ho
      rw [← z, he3] at ho'
      cases ho'
      cases hd
    have I4 : Inv X [] σ1 (upd H1 e (.ext (XF e C))) { s1 with heap := h3 } := I3.trackX xi.free xi.new he3 (fun v z => by cases z) heL nop ⟨⟨_, x3⟩, ⟨_, he3⟩, fun g1 g2 ⟨tb, t, q⟩ kk => ⟨tb, t, kk _ q⟩⟩
    refine store_ok (v := .ref e) I4 hN hi (.inl hl) rfl (fun s4 I5 => ?_) (.inr hl)
    have hs : PSs (cxH X e) [.Return (some (.Call (.Name f fp) [.Name n ep] [] cp)) rp] _ := pss_one (ps_ret (pe_fnH (X := cxH X e) hF hr.toH rfl hgf (pa_cons (pe_var (X := cxH X e) hi (.inl hl) hd1 hd2) pa_nil) hd4))
    have hiσ : i < σ1.length := by rw [I1.len]; exact (List.getElem?_eq_some_iff.mp hi).1
    refine wpAny_mono (hs [] s4 _ _ { nx := fun _ _ => False, rt := rt } I5.toH ⟨.ref e, List.getElem?_set_self hiσ, hsp e xi.free⟩) (fun fl s5 q => ?_) fun _ _ z => z.elim
    cases fl with
    | ret u =>
      obtain ⟨v, σ5, H5, I6, rv, q5⟩ := q
      have J := I6.ofH I.ok
      obtain ⟨m, hn, _⟩ := id J.loc
      refine wpAny_nameGoes hl hn (by rw [I.ok.kind]; rfl) fun h6 m6 hn6 sb => ?_
      exact ⟨v, _, H5, J.forget hn6 sb, rv, hrt _ _ q5⟩
    | next => obtain ⟨_, _, _, z⟩ := q; exact z.elim
    | brk => obtain ⟨_, _, _, z⟩ := q; exact z.elim
    | cont => obtain ⟨_, _, _, z⟩ := q; exact z.elim
end
theorem fn_of0 {CX : CXT} {P : Program} {w : World} {K : PySem.W.Frag} {mg : Str → Option Value} {base : Heap} {k : Nat} {f : Addr} {name qual : Str} {params : Arguments} {body : List Stmt} {scope : Scope} {dV kV doc pm cdv ct oc : Value} {an od : Option Addr}
    {osl : Array (Option Value)} {N ps : List Str} {sp : Sp} (lk : K.lookup f = some ⟨oc, od, .func (PySem.W.fnOf name qual params body scope dV kV doc pm an cdv ct), osl⟩) (hcd : PySem.W.codeIn K cdv qual = true) (S : FnScope N ps scope)
    (len : ∀ vs H Q E, sp vs H Q E → vs.length = ps.length)
    (hbody : ∀ (A : Around) (outer : List Env) (s : Shared) (H : Hp) (vs : List V) (Q : VK) (E : XK), Room k (A.deeper (envOfC qual scope s.heap.objs.size f cdv)) → sp vs H Q E →
      ∃ t, PSs0 (cxOf CX P w K mg base N qual scope f cdv A outer s H E) body t ∧ t { nx := fun _ H' => Q .non H', rt := Q } (start N vs) H) :
    FnOk P w K mg base CX (k + 1) f (PySem.W.fnOf name qual params body scope dV kV doc pm an cdv ct) ps sp := by
  refine ⟨len, fun A outer s H args us vs Q E hr e0 hb r hsp => ?_⟩
  have hl := len _ _ _ _ hsp
  have KX : K.In s.heap := e0.mod.kin.keeps fun b o e => (e0.bs b o e).1
  have lim : s.heap.NoLimit := e0.mod.nolimit.keeps fun b o e => (e0.bs b o e).1
  have hkind : ∀ y ∈ ps.zip us, scope.names.lookup y.1 = some .local ∨ (scope.names.lookup y.1 = some .cell ∧ ((cellsFrom (s.heap.objs.size + 1) scope.names []).lookup y.1).isSome = true) := fun ⟨n, v⟩ hy => by
    rcases S.par n (List.of_mem_zip hy).1 with q | q
    · exact .inl q
    · exact .inr ⟨q, PySem.W.cellsFrom_some _ _ _ (.inl q)⟩
  refine codeAny_call_function hr.depth (KX _ _ lk) rfl S.co S.gen rfl (PySem.W.codeRec_of KX hcd) (hb _ _ _ _ ?_)
  refine wpAny_newFunctionEnv_cells S.kind hkind fun env he s1 x => ?_
  subst he
  refine ⟨lim.keeps x.toInCall.keep, codeAny_func ?_⟩
  obtain ⟨t, ht, hq⟩ := hbody A outer s H vs Q E (hr.deeper _) hsp
  have I : Inv (cxOf CX P w K mg base N qual scope f cdv A outer s H E) [] (start N vs) H s1 := inv_start S hr.hd e0 hl r x
  refine wpAny_mono (ht s1 (start N vs) H _ I hq) (fun fl s' hs => ?_) fun e s' hs => hs
  have fin : ∀ {σ' : St} {H' : Hp} {v : V} {u : Value}, Inv (cxOf CX P w K mg base N qual scope f cdv A outer s H E) [] σ' H' s' → RelV v u → Q v H' → CE outer P w H s Q u s' :=
    fun {σ' H' v u} J rv q => ⟨v, H', J.os, J.bare, J.base, J.hok, rv, q⟩
  cases fl with
  | ret u =>
    obtain ⟨v, σ', H', J, rv, q⟩ := hs
    exact fin J rv q
  | next =>
    obtain ⟨σ', H', J, q⟩ := hs
    exact fin (v := V.non) (u := Value.none) J rfl q
  | brk =>
    obtain ⟨_, _, _, q⟩ := hs
    exact False.elim q
  | cont =>
    obtain ⟨_, _, _, q⟩ := hs
    exact False.elim q
theorem PSs0.nox {X : Cx} {st : List Stmt} {t : TS} (h : PSs0 X.nox st t) : PSs0 X st t := fun s σ H D I hw =>
  wpAny_mono (h s σ H D (I.wish _) hw) (fun _ _ q => q.unwish) fun _ _ z => False.elim z
theorem Fun.ok0 {P : Program} {w : World} {K : PySem.W.Frag} {mg : Str → Option Value} {base : Heap} {x qual : Str} {st : Stmt} {f : Addr} {fd : FuncData} {N ps : List Str} {k : Nat} {sp : Sp} (F : Fun K x qual st f fd) (S : FnScope N ps (defScope st)) (len : ∀ vs H Q E, sp vs H Q E → vs.length = ps.length)
    (hbody : ∀ (cdv : Value) (A : Around) (outer : List Env) (s : Shared) (H : Hp) (vs : List V) (Q : VK) (E : XK), Room k (A.deeper (envOfC qual (defScope st) s.heap.objs.size f cdv)) → sp vs H Q E →
      ∃ t, PSs0 (cxOf CX0 P w K mg base N qual (defScope st) f cdv A outer s H E).nox (defBody st) t ∧ t { nx := fun _ H' => Q .non H', rt := Q } (start N vs) H) : FnOk P w K mg base CX0 (k + 1) f fd ps sp := by
  obtain ⟨oc, od, kV, doc, pm, an, cdv, ct, osl, rfl, lk, hcd⟩ := F.ex
  refine fn_of0 lk hcd S len fun A outer s H vs Q E hr hsp => ?_
  obtain ⟨t, h, q⟩ := hbody cdv A outer s H vs Q E hr hsp
  exact ⟨t, h.nox, q⟩
theorem FnOk.orE {P : Program} {w : World} {K : PySem.W.Frag} {mg : Str → Option Value} {base : Heap} {k : Nat} {f : Addr} {fd : FuncData} {ps : List Str} {sp sp' : Sp} (F : FnOk P w K mg base (CXE P w) k f fd ps sp) (G : FnOk P w K mg base (CXE P w) k f fd ps sp') :
    FnOk P w K mg base (CXE P w) k f fd ps (fun vs H Q E => sp vs H Q E ∨ sp' vs H Q E) :=
  ⟨fun vs H Q E h => h.elim (F.len vs H Q E) (G.len vs H Q E), fun A outer s H args us vs Q E hr he hb hv hs => hs.elim (F.run A outer s H args us vs Q E hr he hb hv) (G.run A outer s H args us vs Q E hr he hb hv)⟩
end L2
namespace My
open PySem L2
theorem bt_ValueError : bootBuiltins "ValueError" = some (.type "ValueError") := by decide +kernel
structure XW (K : PySem.W.Frag) (mg : Str → Option Value) (R NF NP NR NC : Addr) : Prop where
  gR : mg "RowError" = some (.ref R)
  lk : ∀ C, C = NF ∨ C = NP ∨ C = NR ∨ C = NC → XLook K C ∧ PySem.W.exmOne K (.ref C) (.ref R) = some true ∧ PySem.W.kitOne K (.ref C) (.type "ValueError") = some true ∧
    PySem.W.kitOne K (.ref C) (.ref NF) = some (decide (C = NF)) ∧ PySem.W.kitOne K (.ref C) (.ref NP) = some (decide (C = NP)) ∧ PySem.W.kitOne K (.ref C) (.ref NR) = some (decide (C = NR)) ∧ PySem.W.kitOne K (.ref C) (.ref NC) = some (decide (C = NC))
  ne : NF ≠ NP ∧ NF ≠ NR ∧ NF ≠ NC ∧ NP ≠ NR ∧ NP ≠ NC ∧ NR ≠ NC
def Idx (NF NP NR NC C : Addr) (k : Int) : Prop := (C = NF ∧ k = 1) ∨ (C = NP ∧ k = 2) ∨ (C = NR ∧ k = 3) ∨ (C = NC ∧ k = 4)
section
variable (K : PySem.W.Frag) (NF NP NR NC : Addr)
def spWhich (ex : Addr) : Sp := fun vs H Q _ => ∃ (C : Addr) (k : Int), vs = [.ref ex] ∧ H ex = some (.ext (XF ex C)) ∧ Idx NF NP NR NC C k ∧ ∀ (l : Addr) (H' : Hp), Same H H' → H l = none → H' l = some (.lst [.int 0, .int k]) → Q (.ref l) H'
def spFormed : Sp := fun vs H Q _ => ∃ (b : Bool) (x y : Int), vs = [.bl b, .int x, .int y] ∧ (b = true → ¬ (2 ≤ x ∧ x ≤ 1000000000000 ∧ 0 ≤ y ∧ y ≤ 200)) ∧ (b = false → ¬ (0 ≤ x ∧ x ≤ 200 ∧ 0 ≤ y ∧ y ≤ x)) ∧
  ∀ (l : Addr) (H' : Hp), Same H H' → H l = none → H' l = some (.lst [.int 0, .int 1]) → Q (.ref l) H'
abbrev Ask := Hp → Addr → Int → V → V → Option Addr → Prop
def spAsk (Ak : Ask) : Sp := fun vs H Q E => ∃ (p : Addr) (way : Int) (rv mv : V) (o : Option Addr), vs = [.ref p, .int way, rv, mv] ∧ Ak H p way rv mv o ∧ (∀ X, o = some X → ∀ H', Same H H' → E (.ref X) none H') ∧ (o = none → ∀ v H', Same H H' → Q v H')
def spRefused (Ak : Ask) : Sp := fun vs H Q _ => ∃ (p : Addr) (way : Int) (rv mv : V) (o : Option Addr) (told : List Int), vs = [.ref p, .int way, rv, mv] ∧ Ak H p way rv mv o ∧ (∀ X, o = some X → ∃ k, Idx NF NP NR NC X k ∧ told = [0, k]) ∧ (o = none → told = []) ∧
  ∀ (l : Addr) (H' : Hp), Same H H' → H l = none → H' l = some (.lst (told.map V.int)) → Q (.ref l) H'
def AkT (C : Addr) : Ask := fun H p way rv mv o =>
  (way = 0 ∧ ∃ k s n, mv = .int k ∧ TAt C H p s n ∧ ¬ (0 ≤ k ∧ k < s ^ n.toNat) ∧ o = some NP) ∨
  (∃ (r : Addr) (row : List Int), rv = .ref r ∧ SqL K H r (row.map V.int) ∧ ((BT C H p row ∧ o = some NR ∧ ((1 ≤ way ∧ way ≤ 4) ∨ (way = 5 ∧ ∃ j, mv = .int j) ∨ ((way = 6 ∨ way = 7) ∧ ∃ (r2 : Addr) (row2 : List Int), mv = .ref r2 ∧ SqL K H r2 (row2.map V.int) ∧ GT C H p row2) ∨ way = 8 ∨ way = 9)) ∨
    (∃ s n, TAt C H p s n ∧ (row.length : Int) = n ∧ (∀ m ∈ row, 0 ≤ m ∧ m < s) ∧ (way = 8 ∨ way = 9) ∧ NoTurn K H mv n ∧ o = some NC)))
def AkC (C : Addr) : Ask := fun H p way rv mv o =>
  (way = 0 ∧ ∃ i n k, mv = .int i ∧ CAt C H p n k ∧ ¬ (0 ≤ i ∧ i < Ms.cho n k) ∧ o = some NP) ∨
  (∃ (r : Addr) (row : List Int), rv = .ref r ∧ ((BC C H p row ∧ SqL K H r (row.map V.int) ∧ o = some NR ∧ ((1 ≤ way ∧ way ≤ 4) ∨ (way = 5 ∧ ∃ j, mv = .int j) ∨ ((way = 6 ∨ way = 7) ∧ ∃ (r2 : Addr) (row2 : List Int), mv = .ref r2 ∧ SqL K H r2 (row2.map V.int) ∧ GC C H p row2) ∨ way = 8 ∨ way = 9)) ∨
    (∃ n k, CAt C H p n k ∧ RowC K H r n k row ∧ ((way = 8 ∧ ((NoSwap K H mv row n false ∧ o = some NC) ∨ (o = none ∧ ∃ (t : Addr) (x y : Nat) (made : List Int), mv = .ref t ∧ SqT K H t [.str "swap", .int x, .int y] ∧ Ms.SwI row made x y))) ∨
      (way = 9 ∧ ((NoSwap K H mv row n true ∧ o = some NC) ∨ (o = none ∧ ∃ (t : Addr) (x y : Nat) (made : List Int), mv = .ref t ∧ SqT K H t [.str "swap", .int x, .int y] ∧ Ms.SwI made row x y)))))))
end
end My
namespace My
open PySem L2
def sel (bs : List Bool) (i : Nat) : List V := ((List.range i).filter fun j => bs.getD j false).map fun j => V.int (j : Nat)
theorem sel_succ (bs : List Bool) (i : Nat) : sel bs (i + 1) = if bs.getD i false = true then sel bs i ++ [V.int (i : Nat)] else sel bs i := by
  unfold sel
  rw [List.range_succ, List.filter_append]
  split
  · rename_i h
    rw [List.filter_cons_of_pos (by exact h), List.filter_nil, List.map_append]
    rfl
  · rename_i h
    rw [List.filter_cons_of_neg (by exact h), List.filter_nil, List.append_nil]
theorem sel_len (bs : List Bool) (i : Nat) : (sel bs i).length ≤ i := by
  unfold sel
  rw [List.length_map]
  exact Nat.le_trans (List.length_filter_le _ _) (by rw [List.length_range]; exact Nat.le_refl _)
end My
namespace L2
open PySem PyProof
def rInsert : V → List V → Hp → VK → Prop := fun x vs H Q => ∃ l xs i y, x = .ref l ∧ vs = [.int i, y] ∧ H l = some (.lst xs) ∧ 0 ≤ i ∧ i ≤ xs.length ∧ xs.length < sizeLine ∧ Q .non (upd H l (.lst (xs.take i.toNat ++ y :: xs.drop i.toNat)))
theorem mt_insert {X : Cx} : MtM X "list.insert" rInsert := by
  intro pins s σ H x vs v us Q I rx rv h
  obtain ⟨l, xs, i, y, rfl, rfl, hH, h0, h1, hz, q⟩ := h
  cases rx
  obtain ⟨u, us', rfl, ru, rv'⟩ : ∃ u us', us = u :: us' ∧ RelV (.int i) u ∧ Vals [y] us' := by cases rv with | cons a b => exact ⟨_, _, rfl, a, b⟩
  obtain ⟨t, rfl⟩ := ru
  obtain ⟨u, rfl, ru⟩ := rv'.one
  obtain ⟨z, its, n, r, hl, e⟩ := I.lstM hH
  have hs : (sizeLine : Int) < 2 ^ 63 := by decide
  refine call_meets F.slot_list_insert ⟨_, e, rfl⟩ F.entry_list_insert (F.args_list_insert_3 _ _ _)
    (AutoSeq1.list_insert_list_int_val_1 l its.toArray n i t u (by rw [fitsIndex_both (by omega) (by omega)]; decide) (by rw [List.size_toArray]; omega)) ⟨e, ?_⟩
  refine ⟨.non, _, I.lset (its' := its.take i.toNat ++ u :: its.drop i.toNat) hH e ?_ ((r.take _).append (.cons ru (r.drop _))) ?_, rfl, q⟩
  · show (its.toArray.extract 0 (if i < 0 then (i + (its.toArray.size : Int)).toNat else min i.toNat its.toArray.size)).push u ++ its.toArray.extract (if i < 0 then (i + (its.toArray.size : Int)).toNat else min i.toNat its.toArray.size) = _
    rw [if_neg (by omega), List.size_toArray, Nat.min_eq_left (by omega)]
    apply Array.toList_inj.mp
    simp [List.take_of_length_le]
  · simp only [List.length_append, List.length_cons, List.length_take, List.length_drop]
    omega
theorem upd_tup {G : Hp} {u t : Addr} {xs ys zs : List V} (ht : G t = some (.tup xs)) (hu : G u = some (.lst ys)) : upd G u (.lst zs) t = some (.tup xs) := by
  rw [upd_ne (fun e => by rw [e, hu] at ht; cases ht)]
  exact ht
end L2
namespace Ms
theorem list4 {α : Type} : ∀ (l : List α), l.length = 4 → ∃ a b c d, l = [a, b, c, d]
  | [a, b, c, d], _ => ⟨a, b, c, d, rfl⟩
theorem snoc_get {α : Type} {xs : List α} {u v : α} {k : Nat} (h : (xs ++ [u])[k]? = some v) : xs[k]? = some v ∨ (k = xs.length ∧ v = u) := by
  by_cases hk : k < xs.length
  · rw [List.getElem?_append_left hk] at h
    exact .inl h
  · rw [List.getElem?_append_right (by omega)] at h
    have e := (List.getElem?_eq_some_iff.mp h).1
    have e0 : k - xs.length = 0 := by simp at e; omega
    rw [e0] at h
    exact .inr ⟨by omega, (Option.some.inj h).symm⟩
theorem ref_of_get {xs : List PySem.Addr} {i : Nat} {y : L2.V} (h : (xs.map L2.V.ref)[i]? = some y) : ∃ z, xs[i]? = some z ∧ y = L2.V.ref z := by
  rw [List.getElem?_map] at h
  cases e : xs[i]? with
  | none => rw [e] at h; cases h
  | some z => rw [e] at h; exact ⟨z, rfl, (Option.some.inj h).symm⟩
theorem at_some {xs : List PySem.Addr} {j : Int} (h0 : 0 ≤ j) (h1 : j < xs.length) : ∃ u, u ∈ xs ∧ L2.atI (xs.map L2.V.ref) j = some (L2.V.ref u) := by
  have e : xs[j.toNat]? = some (xs[j.toNat]'(by omega)) := List.getElem?_eq_getElem (by omega)
  refine ⟨_, List.mem_of_getElem? e, ?_⟩
  have := L2.atI_nat (xs := xs.map L2.V.ref) (j := j.toNat) (v := L2.V.ref (xs[j.toNat]'(by omega))) (by rw [List.getElem?_map, e]; rfl)
  rwa [show ((j.toNat : Nat) : Int) = j by omega] at this
theorem map_get {α β : Type} {f : α → β} {xs : List α} {i : Nat} {y : β} (h : (xs.map f)[i]? = some y) : ∃ z, xs[i]? = some z ∧ y = f z := by
  rw [List.getElem?_map] at h
  cases e : xs[i]? with
  | none => rw [e] at h; cases h
  | some z => rw [e] at h; exact ⟨z, rfl, (Option.some.inj h).symm⟩
theorem ins_len {α : Type} (xs : List α) (v : α) (k : Nat) : (xs.take k ++ v :: xs.drop k).length = xs.length + 1 := by
  simp only [List.length_append, List.length_cons, List.length_take, List.length_drop]
  omega
theorem map_ins {α β : Type} (f : α → β) (xs : List α) (v : α) (k : Nat) : (xs.map f).take k ++ f v :: (xs.map f).drop k = (xs.take k ++ v :: xs.drop k).map f := by
  rw [List.map_append, List.map_cons, List.map_take, List.map_drop]
theorem badT_ins (s : Int) (row : List Int) (v : Int) (k : Nat) : BadT s row.length (row.take k ++ v :: row.drop k) := .inl (by rw [ins_len]; omega)
theorem badC_ins (c : Int) (row : List Int) (v : Int) (k : Nat) : BadC row.length c (row.take k ++ v :: row.drop k) := .inl (by rw [ins_len]; omega)
theorem badT_pop (s : Int) {row : List Int} {k : Nat} (h : k < row.length) : BadT s row.length (row.eraseIdx k) := .inl (by rw [List.length_eraseIdx_of_lt h]; omega)
theorem badC_pop (c : Int) {row : List Int} {k : Nat} (h : k < row.length) : BadC row.length c (row.eraseIdx k) := .inl (by rw [List.length_eraseIdx_of_lt h]; omega)
theorem badT_set {s : Int} {row : List Int} {k : Nat} {v : Int} (h : k < row.length) (hv : ¬ (0 ≤ v ∧ v < s)) : BadT s row.length (row.set k v) := .inr ⟨v, List.mem_set h _, hv⟩
theorem map_set' (xs : List Int) (k : Nat) (v : Int) : (xs.map L2.V.int).set k (L2.V.int v) = (xs.set k v).map L2.V.int := List.map_set.symm
theorem map_pop {α β : Type} (f : α → β) : ∀ (xs : List α) (k : Nat), (xs.map f).eraseIdx k = (xs.eraseIdx k).map f
  | [], _ => rfl
  | _ :: _, 0 => rfl
  | x :: xs, k + 1 => congrArg (f x :: ·) (map_pop f xs k)
theorem badC_mem {n c : Int} {row : List Int} {k : Nat} {v : Int} (h : row[k]? = some v) (h0 : v ≠ 0) (h1 : v ≠ 1) : BadC n c row := .inr (.inl ⟨v, List.mem_of_getElem? h, h0, h1⟩)
theorem sum_setX : ∀ {row : List Int} {k : Nat} {x v : Int}, row[k]? = some x → (row.set k v).sum = row.sum - x + v
  | [], _, _, _, h => by cases h
  | y :: r, 0, x, v, h => by
    cases h
    rw [List.set_cons_zero, List.sum_cons, List.sum_cons]
    omega
  | y :: r, k + 1, x, v, h => by
    rw [List.set_cons_succ, List.sum_cons, List.sum_cons, sum_setX (row := r) (k := k) (x := x) (v := v) h]
    omega
theorem badC_flip {n : Int} {row : List Int} {k : Nat} {x : Int} (h : row[k]? = some x) : BadC n row.sum (row.set k (1 - x)) := .inr (.inr (by rw [sum_setX h]; omega))
theorem other_spot {a d m : Int} (a0 : 0 ≤ a) (a1 : a < m) (d0 : 0 ≤ d) (d1 : d < m - 1) : 0 ≤ (a + 1 + d) % m ∧ (a + 1 + d) % m < m ∧ (a + 1 + d) % m ≠ a := by
  by_cases h : a + 1 + d < m
  · rw [Int.emod_eq_of_lt (by omega) h]
    omega
  · rw [show a + 1 + d = (a + 1 + d - m) + m by omega, Int.add_emod_right, Int.emod_eq_of_lt (by omega) (by omega)]
    omega
theorem other_spot' {a d m : Int} (m0 : 0 < m) (d0 : 0 ≤ d) (d1 : d < m - 1) : (a + 1 + d) % m ≠ a % m := by
  have h := (other_spot (Int.emod_nonneg a (show m ≠ 0 by omega)) (Int.emod_lt_of_pos a m0) d0 d1).2.2
  rwa [show a % m + 1 + d = a % m + (1 + d) by omega, Int.emod_add_emod, show a + (1 + d) = a + 1 + d by omega] at h
theorem nodup_ne {zs : List Int} (h : zs.Nodup) {i j : Nat} {x y : Int} (hi : zs[i]? = some x) (hj : zs[j]? = some y) (ne : i ≠ j) : x ≠ y := fun e =>
  ne ((List.getElem?_inj (List.getElem?_eq_some_iff.mp hi).1 h).mp (by rw [hi, hj, e]))
end Ms
namespace Hd
open PySem PySem.W PyProof.Rows
noncomputable def bootT (P : Params) : BT := (.node (boot_o_0 P) (.node (boot_o_1 P) (.node (boot_o_3 P) (.node (boot_o_7 P) .nil .nil) .nil) (.node (boot_o_5 P) (.node (boot_o_9 P) .nil .nil) .nil)) (.node (boot_o_2 P) (.node (boot_o_4 P) (.node (boot_o_8 P) .nil .nil) .nil) (.node (boot_o_6 P) (.node (boot_o_10 P) .nil .nil) .nil)))
def runG (th ok : Thread → Bool) (st : SharedT → Thread → Option (SharedT × Thread)) (n : Nat) : SharedT → Thread → Option SharedT :=
  Nat.rec (fun _ _ => none) (fun _ ih s t => match th t with
    | true => some s
    | false => match ok t with
      | false => none
      | true => match st s t with
        | some (s', t') => ih s' t'
        | none => none) n
theorem runG_top {tb : String → Option Builtin} {p : Program} {w : World} {m : Nat} {ann : Option Value} : ∀ {n : Nat} {s s' : SharedT} {t : Thread}, runG through (stepOk m ann) (stepT (denote tb) p w) n s t = some s' → topRun tb p w m ann n s.abs t = some s'.abs
  | 0, s, s', t, h => by cases h
  | n + 1, s, s', t, h => by
    change (match through t with | true => some s | false => match stepOk m ann t with | false => none | true => match stepT (denote tb) p w s t with | some (s', t') => runG through (stepOk m ann) (stepT (denote tb) p w) n s' t' | none => none) = some s' at h
    unfold topRun
    cases ht : through t with
    | true => rw [ht] at h; cases h; rfl
    | false =>
      rw [ht] at h
      cases hk : stepOk m ann t with
      | false => rw [hk] at h; cases h
      | true =>
        rw [hk] at h
        cases hs : stepT (denote tb) p w s t with
        | none => rw [hs] at h; cases h
        | some r => obtain ⟨s₂, t₂⟩ := r; rw [hs] at h; rw [stepT_spec hs]; exact runG_top h
noncomputable abbrev s0 (w : World) (os : OsState) : SharedT := ⟨bootT w.params, 11, {}, Array.mk [], boot_drawn, boot_toks, os⟩
theorem boot_size (P : Params) : ((boot_heap P).isNs mainGlobals, (boot_heap P).objs.size, (boot_heap P).nsMap mainGlobals "__annotations__") = (true, 11, some (.ref 6)) := by kernel_rfl
theorem left_of {p q : Program} {loose : List Str} {Xt : Shared → Bool} {α : Type} {Yf : Shared → α} {Ya : World → α} {N : Nat} (e : opening p = plainProg p.main.scope.names) (hN : Nat.ble 600 N = true) (f : ∀ s, fenceModules? p s = some s)
    (run : ∀ w : World, (fun os => (runG through (stepOk 11 (some (.ref 6))) (stepT (denote treeTable) p w) N (s0 w os) (topStub p)).map fun s =>
      (staticsOk (importedModules p.main.body) (boot_heap w.params) s.abs.heap && namesBound p s.abs.heap && gensDone s.abs && laidKept (boot_heap w.params) s.abs.heap, openSeen q loose (importedModules p.main.body) Xt true s.abs, Yf s.abs)) = fun _ => some (true, openGood q loose, Ya w)) :
    LeftO p q loose Xt Yf Ya N := fun w => by
  obtain ⟨⟨h, gs, d, k, os⟩, e1, e2⟩ := Option.map_eq_some_iff.mp (boot_open e hN f w)
  obtain ⟨rfl, rfl, rfl, rfl⟩ : h = boot_heap w.params ∧ gs = Array.mk [] ∧ d = boot_drawn ∧ k = boot_toks := by simpa using e2
  obtain ⟨s, r1, r2⟩ := Option.map_eq_some_iff.mp (congrFun (run w) os)
  obtain ⟨l1, l2, l3⟩ : _ ∧ _ ∧ _ := by simpa only [Prod.mk.injEq] using r2
  have r3 : topRun treeTable p w 11 (some (.ref 6)) N ⟨boot_heap w.params, Array.mk [], boot_drawn, boot_toks, os⟩ (topStub p) = some s.abs := runG_top r1
  obtain ⟨z1, z2, z3⟩ : _ ∧ _ ∧ _ := by simpa only [Prod.mk.injEq] using boot_size w.params
  have t : topFrom treeTable p w N ⟨boot_heap w.params, Array.mk [], boot_drawn, boot_toks, os⟩ = some s.abs := by
    unfold topFrom
    dsimp only
    rw [z1, z2, z3, r3]
    show (match staticsOk (importedModules p.main.body) (boot_heap w.params) s.abs.heap && namesBound p s.abs.heap && gensDone s.abs && laidKept (boot_heap w.params) s.abs.heap with | true => _ | false => _) = _
    rw [l1]
  unfold openEnds
  rw [e1]
  show (topFrom treeTable p w N _).map _ = _
  rw [t]
  exact congrArg some (Prod.ext l2 l3)
def fragAt (h : Heap) (as : List Addr) : Frag := as.filterMap fun a => (h.get? a).map fun o => (a, o)
theorem fragAt_in (h : Heap) : ∀ as : List Addr, (fragAt h as).In h
  | [], a, o, e => by cases e
  | b :: as, a, o, e => by
    unfold fragAt at e
    cases hb : h.get? b with
    | none =>
      rw [List.filterMap_cons_none (by rw [hb]; rfl)] at e
      exact fragAt_in h as a o e
    | some x =>
      rw [List.filterMap_cons_some (b := (b, x)) (by rw [hb]; rfl)] at e
      rw [List.lookup_cons] at e
      cases q : a == b with
      | true => rw [q] at e; cases e; rw [beq_iff_eq.mp q]; exact hb
      | false => rw [q] at e; exact fragAt_in h as a o e
def obsHook {α : Type} (as : List Addr) (obs : Frag → α) (v : α) : Hook :=
  ⟨α, fun s => obs (fragAt s.heap as), fun _ => v, fun _ h => ∃ K : Frag, K.In h ∧ obs K = v, fun _ s e => ⟨_, fragAt_in s.heap as, e⟩, fun _ _ _ ⟨K, k, e⟩ st => ⟨K, k.keeps st, e⟩⟩
abbrev big {T α : Type} (im : List Stmt → List Str) (sn : Program → List Str → List Str → (Shared → Bool) → Bool → Shared → T) (ok : Nat → Option Value → Thread → Bool) (st : (Code → Sem Fin) → Program → World → SharedT → Thread → Option (SharedT × Thread)) (den : (String → Option Builtin) → Code → Sem Fin) (tb : String → Option Builtin) (p : Program)
    (good : Program → List Str → T) (keep : List Nat) (N : Nat) (as : List Addr) (obs : Frag → α) (vals : Program → α) (w : World) : Prop :=
  (fun os => (runG through (ok 11 (some (.ref 6))) (st (den tb) p w) N (s0 w os) (topStub p)).map fun s =>
    (staticsOk (im p.main.body) (boot_heap w.params) s.abs.heap && namesBound p s.abs.heap && gensDone s.abs && laidKept (boot_heap w.params) s.abs.heap, sn (view p keep) [] (im p.main.body) (fun s => xlAt (view p keep) [] s && recOk [] s) true s.abs, obs (fragAt s.abs.heap as))) = fun _ => some (true, good (view p keep) [], vals p)
theorem big_of {α : Type} {p p' : Program} {keep : List Nat} {N : Nat} {as : List Addr} {obs : Frag → α} {vals : Program → α} (e : p = p')
    (h : ∀ w, big PySem.W.Fast.tw5923862056798008813 PySem.W.Fast.tw4187177175401517315 PySem.W.Fast.tw6613529449190102663 PySem.W.Fast.tw10156331382660048174 PySem.W.Fast.tw11892475500146522536 PySem.W.Fast.tw14364793385576792824 p' openGood keep N as obs vals w) :
    ∀ w, big importedModules openSeen stepOk stepT denote treeTable p openGood keep N as obs vals w := by
  subst e
  rewrite [PySem.W.Fast.te5923862056798008813, PySem.W.Fast.te4187177175401517315, PySem.W.Fast.te6613529449190102663, PySem.W.Fast.te10156331382660048174, PySem.W.Fast.te11892475500146522536, PySem.W.Fast.te14364793385576792824]
  exact h
theorem at_ {α : Type} {l l' : List α} {a b : α} (h : l = l') (i : Nat) (x : l[i]? = some a) (y : l'[i]? = some b) : a = b := by
  rw [h, y] at x
  exact (Option.some.inj x).symm
def tp (p : Program) (i : Nat) : Stmt := p.main.body.getD i (.Pass ⟨0, 0, 0, 0⟩)
end Hd
set_option maxHeartbeats 4000000
local macro_rules | `(tactic| walk_at "rd1") => `(tactic| first
  | ((with_reducible refine' L2.rd_var ?rdh ?_); (case rdh => with_unfolding_all rfl))
  | with_reducible refine' L2.rd_C ?_
  | with_reducible refine' L2.rd_op ?_
  | with_reducible refine' L2.rd_I0 ?_
  | ((with_reducible refine' L2.rd_I ?rdc ?_); (case rdc => first | (show (0 : Int) < _; omega) | exact ⟨by omega, by omega⟩ | exact .inl ⟨by omega, by omega⟩ | exact .inr ⟨by omega, by omega⟩ | exact ⟨by omega, L2.Fits.small (by omega) (by omega)⟩ | exact ⟨by decide, by decide, by decide⟩))
  | with_reducible refine' L2.rd_un ?_
  | with_reducible refine' L2.rd_U ?_
  | with_reducible refine' L2.rd_test ?_
  | with_reducible refine' L2.rd_tB ?_
  | with_reducible refine' L2.rd_bl ?_
  | with_reducible refine' L2.rd_eqI ?_
  | with_reducible refine' L2.rd_neI ?_
  | with_reducible refine' L2.rd_and ?_
  | with_reducible refine' L2.rd_or ?_
  | with_reducible refine' L2.rd_not ?_
  | with_reducible refine' L2.rd_andV ?_
  | with_reducible refine' L2.rd_orV ?_
  | with_reducible refine' L2.rd_notV ?_
  | with_reducible refine' L2.rd_seq ?_
  | with_reducible refine' L2.rd_ret ?_
  | with_reducible refine' L2.rd_drop ?_
  | with_reducible refine' L2.rd_ifS ?_
  | with_reducible refine' L2.rd_next ?_
  | with_reducible refine' L2.rd_asg ?_
  | with_reducible refine' L2.rd_gName ?_
  | with_reducible refine' L2.rd_call ?_
  | with_reducible refine' L2.rd_cons ?_
  | with_reducible refine' L2.rd_nil ?_
  | with_reducible refine' L2.rd_CB ?_
  | with_reducible refine' L2.rd_tif ?_
  | with_reducible refine' L2.rd_for ?_
  | with_reducible refine' L2.rd_rng1 ?_
  | with_reducible refine' L2.rd_rng2 ?_
  | with_reducible refine' L2.rd_iList ?_
  | with_reducible refine' L2.rd_meth ?_
  | with_reducible refine' L2.rd_make ?_
  | with_reducible refine' L2.rd_lst ?_
  | with_reducible refine' L2.rd_sl ?_
  | with_reducible refine' L2.rd_part ?_
  | with_reducible refine' L2.rd_noPart ?_
  | with_reducible refine' L2.rd_someI ?_
  | with_reducible refine' L2.rd_LR ?_
  | with_reducible refine' L2.rd_yes ?_
  | with_reducible refine' L2.rd_comp ?_
  | with_reducible refine' L2.rd_tup ?_
  | with_reducible refine' L2.rd_BM ?_
  | with_reducible refine' L2.rd_sub ?_
  | with_reducible refine' L2.rd_T (b := true) rfl ?_
  | with_reducible refine' L2.rd_F (b := false) rfl ?_
  | with_reducible refine' L2.rd_F (b := !true) rfl ?_
  | with_reducible refine' L2.rd_T (b := !false) rfl ?_
  | dsimp only)
local macro_rules | `(tactic| walk_at "rd") => `(tactic| repeat walk_at "rd1")
namespace My
open PySem L2
def spCell (K : PySem.W.Frag) : Sp := fun vs H Q _ => ∃ (a : Addr) (ns : List Int) (k : Int), vs = [.ref a, .int k] ∧ SqL K H a (ns.map V.int) ∧ 0 ≤ k ∧ Q (.int (ns.getD k.toNat 0)) H
def spWhole : Sp := fun vs H Q _ => ∃ i : Int, vs = [.int i] ∧ Q (.bl true) H
def spLength : Sp := fun vs H Q _ => ∃ c : Int, vs = [.int c] ∧ ∀ n : Int, 0 ≤ n → n ≤ 200 → Q (.int n) H
def spSigns : Sp := fun vs H Q _ => ∃ c : Int, vs = [.int c] ∧ ∀ s : Int, 2 ≤ s → s ≤ 1000000000000 → Q (.int s) H
def spPower : Sp := fun vs H Q _ => ∃ s t : Int, vs = [.int s, .int t] ∧ 0 ≤ s ∧ s ≤ 1000000000000 ∧ 0 ≤ t ∧ t ≤ 200 ∧ Q (.int (s ^ t.toNat)) H
def spFold (K : PySem.W.Frag) : Sp := fun vs H Q _ => ∃ (a : Addr) (ns : List Int) (m : Int), vs = [.ref a, .int m] ∧ SqL K H a (ns.map V.int) ∧ 0 < m ∧ Fits m ∧ ∀ r : Int, 0 ≤ r → r < m → Q (.int r) H
def spPlace (K : PySem.W.Frag) : Sp := fun vs H Q _ => ∃ (a : Addr) (ns : List Int) (s n m : Int), vs = [.ref a, .int s, .int n, .int m] ∧ SqL K H a (ns.map V.int) ∧ 2 ≤ s ∧ s ≤ 1000000000000 ∧ 0 ≤ n ∧ n ≤ 200 ∧ m = s ^ n.toNat ∧ ∀ p : Int, 0 ≤ p → p < m → Q (.int p) H
end My
namespace My
open PySem L2
theorem atI0 {xs : List Int} {i : Nat} {x : Int} (h : xs[i]? = some x) : atI (xs.map V.int) (0 + (i : Int)) = some (V.int x) := by
  rw [Int.zero_add]
  exact atI_nat (by rw [List.getElem?_map, h]; rfl)
theorem atI1 {xs : List Int} {j x : Int} (h0 : 0 ≤ j) (h : xs[j.toNat]? = some x) : atI (xs.map V.int) j = some (V.int x) := by
  have := atI_nat (xs := xs.map V.int) (j := j.toNat) (v := V.int x) (by rw [List.getElem?_map, h]; rfl)
  rw [show ((j.toNat : Nat) : Int) = j by omega] at this
  exact this
theorem get_lt {xs : List Int} {i : Nat} (h : i < xs.length) : xs[i]? = some (xs.getD i 0) := by
  rw [List.getD, List.getElem?_eq_getElem h]
  rfl
theorem ixN_in {n : Nat} {j : Int} (h0 : 0 ≤ j) (h1 : j < n) : ixN n j = some j.toNat := by
  unfold ixN
  rw [if_pos h0, if_pos h1]
def spIsRow : Sp := fun vs H Q _ => ∃ (r : Addr) (s n : Int) (row : List Int), vs = [.ref r, .int s, .int n] ∧ H r = some (.lst (row.map V.int)) ∧ (row.length : Int) = n ∧ row.length ≤ 1000 ∧ (∀ m ∈ row, 0 ≤ m ∧ m < s) ∧ ∀ H', Same H H' → Q (.bl true) H'
def spSame (K : PySem.W.Frag) : Sp := fun vs H Q _ => ∃ (r d : Addr) (xs : List Int), vs = [.ref r, .ref d] ∧ H r = some (.lst (xs.map V.int)) ∧ SqL K H d (xs.map V.int) ∧ xs.length ≤ 1000 ∧ ∀ H', Same H H' → Q (.bl true) H'
def spGiven (K : PySem.W.Frag) : Sp := fun vs H Q _ => ∃ (l d h r : Addr) (xs row : List Int), vs = [.ref l, .ref d, .ref h, .ref r] ∧ H l = some (.lst (xs.map V.int)) ∧ SqL K H d (xs.map V.int) ∧ SqL K H h (row.map V.int) ∧ SqL K H r (row.map V.int) ∧ h ≠ l ∧ r ≠ l ∧ xs.length ≤ 1000 ∧ ∀ H', SameX l H H' → Q (.bl true) H'
end My
namespace My
open PySem L2
section
variable (K : PySem.W.Frag) (NF NP NR NC : Addr) (Ak : Ask)
def spRows : Sp := fun vs H Q _ => ∃ (p r bd : Addr) (j : Int) (c : V) (row bad : List Int), vs = [.ref p, .ref r, .ref bd, .int j, c] ∧ SqL K H r (row.map V.int) ∧ SqL K H bd (bad.map V.int) ∧ row.length ≤ 1000 ∧ bad.length ≤ 1000 ∧
  (∀ (H' : Hp) (way : Int) (mv : V), Same H H' → ((1 ≤ way ∧ way ≤ 5 ∧ mv = .int j) ∨ ((way = 6 ∨ way = 7) ∧ ∃ r2, mv = .ref r2 ∧ H' r2 = some (.lst (row.map V.int))) ∨ ((way = 8 ∨ way = 9) ∧ mv = c)) → Ak H' p way (.ref bd) mv (some NR)) ∧ ∀ H', Same H H' → Q (.bl true) H'
def spPlaces : Sp := fun vs H Q _ => ∃ (p : Addr) (m far : Int), vs = [.ref p, .int m, .int far] ∧ 0 ≤ far ∧ (∀ (H' : Hp) (k : Int), Same H H' → k < 0 ∨ m ≤ k → Ak H' p 0 .non (.int k) (some NP)) ∧ ∀ H', Same H H' → Q (.bl true) H'
def spChanges : Sp := fun vs H Q _ => ∃ (p r lc lf : Addr) (row : List Int) (cs fs : List Addr) (bs : List (Bool × Bool)), vs = [.ref p, .ref r, .ref lc, .ref lf] ∧ SqL K H r (row.map V.int) ∧ row.length ≤ 1000 ∧ H lc = some (.lst (cs.map V.ref)) ∧ H lf = some (.lst (fs.map V.ref)) ∧ cs.length ≤ 1000 ∧ fs.length = cs.length ∧ bs.length = cs.length ∧
  (∀ (i : Nat) (f : Addr) (b : Bool × Bool), fs[i]? = some f → bs[i]? = some b → H f = some (.tup [.bl b.1, .bl b.2])) ∧
  (∀ (H' : Hp) (i : Nat) (c r2 : Addr) (b : Bool × Bool), Same H H' → cs[i]? = some c → bs[i]? = some b → H' r2 = some (.lst (row.map V.int)) → Ak H' p 8 (.ref r2) (.ref c) (if b.1 then none else some NC) ∧ Ak H' p 9 (.ref r2) (.ref c) (if b.2 then none else some NC)) ∧
  ∀ H', Same H H' → Q (.bl true) H'
theorem atR {xs : List Addr} {i : Nat} {x : Addr} (h : xs[i]? = some x) : atI (xs.map V.ref) (0 + (i : Int)) = some (V.ref x) := by
  rw [Int.zero_add]
  exact atI_nat (by rw [List.getElem?_map, h]; rfl)
theorem due_at (a c : Addr) (b : Bool) : atI [V.ref a, V.ref c] (if b then 1 else 0) = some (V.ref (if b then c else a)) := by cases b <;> rfl
theorem due_is {H : Hp} {a c : Addr} (h1 : H a = some (.lst [.int 0, .int 4])) (h2 : H c = some (.lst [])) (b : Bool) : H (if b then c else a) = some (.lst ((if b then ([] : List Int) else [0, 4]).map V.int)) := by
  cases b
  · exact h1
  · exact h2
theorem bs_ff {i : Nat} {b : Bool × Bool} (h : ([(false, false), (false, false), (false, false), (false, false)] : List (Bool × Bool))[i]? = some b) : b = (false, false) := by
  have := List.mem_of_getElem? h
  simpa using this
def spForms : Sp := fun vs H Q _ => ∃ n s far : Int, vs = [.int n, .int s, .int far] ∧ 0 ≤ n ∧ n ≤ 200 ∧ 2 ≤ s ∧ s ≤ 1000000000000 ∧ 0 ≤ far ∧ ∀ H', Same H H' → Q (.bl true) H'
def spBadRow : Sp := fun vs H Q _ => ∃ (r : Addr) (cell s far : Int) (row : List Int), vs = [.ref r, .int cell, .int s, .int far] ∧ SqL K H r (row.map V.int) ∧ row.length ≤ 200 ∧ 2 ≤ s ∧ 0 ≤ far ∧
  ∀ (l : Addr) (H' : Hp) (bad : List Int), Same H H' → H l = none → H' l = some (.lst (bad.map V.int)) → bad.length ≤ 201 → Ms.BadT s row.length bad → Q (.ref l) H'
def spBadOnes : Sp := fun vs H Q _ => ∃ (r : Addr) (cell oth far : Int) (row : List Int), vs = [.ref r, .int cell, .int oth, .int far] ∧ SqL K H r (row.map V.int) ∧ row.length ≤ 200 ∧ Ms.BitsI row ∧ 0 ≤ far ∧
  ∀ (l : Addr) (H' : Hp) (bad : List Int), Same H H' → H l = none → H' l = some (.lst (bad.map V.int)) → bad.length ≤ 201 → Ms.BadC row.length row.sum bad → Q (.ref l) H'
def spSwaps : Sp := fun vs H Q _ => ∃ (a : Addr) (n far : Int) (ns : List Int), vs = [.ref a, .int n, .int far] ∧ SqL K H a (ns.map V.int) ∧ 0 ≤ n ∧ n ≤ 200 ∧ 0 ≤ far ∧
  ∀ (l : Addr) (H' : Hp) (ts : List Addr) (ps : List (Int × Int)), Same H H' → H l = none → H' l = some (.lst (ts.map V.ref)) → ts.length = 4 → ps.length = 4 → (∀ (i : Nat) (t : Addr) (p : Int × Int), ts[i]? = some t → ps[i]? = some p → H' t = some (.tup [.int p.1, .int p.2])) → Q (.ref l) H'
def fitB (row : List Int) (o i : Int) : Bool := decide (0 ≤ o ∧ o < row.length ∧ 0 ≤ i ∧ i < row.length ∧ row[o.toNat]? = some 1 ∧ row[i.toNat]? = some 0)
def spFit : Sp := fun vs H Q _ => ∃ (r : Addr) (o i : Int) (row : List Int), vs = [.ref r, .int o, .int i] ∧ SqL K H r (row.map V.int) ∧ Q (.bl (fitB row o i)) H
theorem rep_bits {n : Nat} {x : Int} (h : x = 0 ∨ x = 1) : Ms.BitsI (List.replicate n x) := fun m hm => by rw [List.eq_of_mem_replicate hm]; exact h
theorem fit_ask {C NR' : Addr} {H : Hp} {x r2 c : Addr} {n o : Int} {row : List Int} {p : Int × Int} (cA : CAt C H x n o) (hr : RowC K H r2 n o row) (hc : H c = some (.tup [.str "swap", .int p.1, .int p.2])) :
    AkC K NP NR' NC C H x 8 (.ref r2) (.ref c) (if fitB row p.1 p.2 = true then none else some NC) ∧ AkC K NP NR' NC C H x 9 (.ref r2) (.ref c) (if fitB row p.2 p.1 = true then none else some NC) := by
  have hl := hr.2.1
  constructor
  · refine .inr ⟨r2, row, rfl, .inr ⟨n, o, cA, hr, .inl ⟨rfl, ?_⟩⟩⟩
    cases e : fitB row p.1 p.2 with
    | true =>
      obtain ⟨a1, a2, a3, a4, a5, a6⟩ := of_decide_eq_true e
      refine .inr ⟨rfl, c, p.1.toNat, p.2.toNat, _, rfl, ?_, Ms.swI_of a5 a6⟩
      rw [Int.toNat_of_nonneg a1, Int.toNat_of_nonneg a3]
      exact SqT.of hc
    | false =>
      exact .inl ⟨⟨c, rfl, .inr ⟨_, _, SqT.of hc, fun z => of_decide_eq_false e ⟨z.1, hl ▸ z.2.1, z.2.2.1, hl ▸ z.2.2.2.1, z.2.2.2.2⟩⟩⟩, rfl⟩
  · refine .inr ⟨r2, row, rfl, .inr ⟨n, o, cA, hr, .inr ⟨rfl, ?_⟩⟩⟩
    cases e : fitB row p.2 p.1 with
    | true =>
      obtain ⟨a1, a2, a3, a4, a5, a6⟩ := of_decide_eq_true e
      refine .inr ⟨rfl, c, p.1.toNat, p.2.toNat, _, rfl, ?_, (Ms.swI_of a5 a6).symm⟩
      rw [Int.toNat_of_nonneg a1, Int.toNat_of_nonneg a3]
      exact SqT.of hc
    | false =>
      exact .inl ⟨⟨c, rfl, .inr ⟨_, _, SqT.of hc, fun z => of_decide_eq_false e ⟨z.1, hl ▸ z.2.1, z.2.2.1, hl ▸ z.2.2.2.1, z.2.2.2.2⟩⟩⟩, rfl⟩
theorem turn_ask {C NR' : Addr} {H : Hp} {x r2 c : Addr} {n o : Int} {row : List Int} {xs : List V} (cA : CAt C H x n o) (hr : RowC K H r2 n o row) (hc : H c = some (.tup (.str "turn" :: xs))) :
    AkC K NP NR' NC C H x 8 (.ref r2) (.ref c) (some NC) ∧ AkC K NP NR' NC C H x 9 (.ref r2) (.ref c) (some NC) :=
  ⟨.inr ⟨r2, row, rfl, .inr ⟨n, o, cA, hr, .inl ⟨rfl, .inl ⟨⟨c, rfl, .inl ⟨_, _, SqT.of hc, by decide⟩⟩, rfl⟩⟩⟩⟩, .inr ⟨r2, row, rfl, .inr ⟨n, o, cA, hr, .inr ⟨rfl, .inl ⟨⟨c, rfl, .inl ⟨_, _, SqT.of hc, by decide⟩⟩, rfl⟩⟩⟩⟩⟩
def spLaw : Sp := fun vs H Q _ => ∃ (a : Addr) (ns : List Int), vs = [.ref a] ∧ SqL K H a (ns.map V.int) ∧ ns.length ≤ 63 ∧ ∀ H', Q (.bl true) H'
def spTurningL : Sp := fun vs H Q _ => ∃ (a : Addr) (n s far : Int) (ns : List Int), vs = [.ref a, .int n, .int s, .int far] ∧ SqL K H a (ns.map V.int) ∧ 0 ≤ n ∧ n ≤ 200 ∧ 2 ≤ s ∧ s ≤ 1000000000000 ∧ 0 ≤ far ∧ ∀ H', Same H H' → Q (.bl true) H'
def spChoosingL : Sp := fun vs H Q _ => ∃ (a : Addr) (n far : Int) (ns : List Int), vs = [.ref a, .int n, .int far] ∧ SqL K H a (ns.map V.int) ∧ 0 ≤ n ∧ n ≤ 200 ∧ 0 ≤ far ∧ ∀ H', Same H H' → Q (.bl true) H'
end
end My
local macro_rules | `(tactic| walk_at "md1") => `(tactic| first
  | walk_at "rd1"
  | with_reducible refine' L2.rd_fld ?_
  | with_reducible refine' L2.rd_rev ?_
  | with_reducible refine' L2.rd_sFld ?_
  | with_reducible refine' L2.rd_retN ?_
  | with_reducible refine' L2.rd_BM0 ?_
  | with_reducible refine' L2.rd_notN ?_
  | ((refine' ⟨_, _, _, _, _, rfl, My.TAt.ob ?fa, My.CT.cl ?fb, My.CT.size ?fc, My.fldT_size, ?_⟩); (case fa => assumption); (case fb => assumption); (case fc => assumption))
  | ((refine' ⟨_, _, _, _, _, rfl, My.TAt.ob ?fa, My.CT.cl ?fb, My.CT.signs ?fc, My.fldT_signs, ?_⟩); (case fa => assumption); (case fb => assumption); (case fc => assumption))
  | ((refine' ⟨_, _, _, _, _, rfl, My.TAt.ob ?fa, My.CT.cl ?fb, My.CT.length ?fc, My.fldT_length, ?_⟩); (case fa => assumption); (case fb => assumption); (case fc => assumption))
  | ((refine' ⟨_, _, _, rfl, My.TAt.ob ?fa, My.fldT_no ?f1 ?f2 ?f3, ?_⟩); (case fa => assumption); (case f1 => decide +kernel); (case f2 => decide +kernel); (case f3 => decide +kernel)))
local macro_rules | `(tactic| walk_at "md") => `(tactic| repeat walk_at "md1")
local macro_rules | `(tactic| walk_at "mc1") => `(tactic| first
  | walk_at "rd1"
  | with_reducible refine' L2.rd_fld ?_
  | with_reducible refine' L2.rd_rev ?_
  | with_reducible refine' L2.rd_iTup ?_
  | with_reducible refine' L2.rd_rngD ?_
  | with_reducible refine' L2.rd_enum ?_
  | with_reducible refine' L2.rd_zip ?_
  | with_reducible refine' L2.rd_comp2 ?_
  | with_reducible refine' L2.rd_sFld ?_
  | with_reducible refine' L2.rd_retN ?_
  | with_reducible refine' L2.rd_BM0 ?_
  | with_reducible refine' L2.rd_notN ?_
  | ((refine' ⟨_, _, _, _, _, rfl, My.CAt.ob ?fa, My.CC.cl ?fb, My.CC.size ?fc, My.fldC_size, ?_⟩); (case fa => assumption); (case fb => assumption); (case fc => assumption))
  | ((refine' ⟨_, _, _, _, _, rfl, My.CAt.ob ?fa, My.CC.cl ?fb, My.CC.ones ?fc, My.fldC_ones, ?_⟩); (case fa => assumption); (case fb => assumption); (case fc => assumption))
  | ((refine' ⟨_, _, _, _, _, rfl, My.CAt.ob ?fa, My.CC.cl ?fb, My.CC.length ?fc, My.fldC_length, ?_⟩); (case fa => assumption); (case fb => assumption); (case fc => assumption))
  | ((refine' ⟨_, _, _, rfl, My.CAt.ob ?fa, My.fldC_no ?f1 ?f2 ?f3, ?_⟩); (case fa => assumption); (case f1 => decide +kernel); (case f2 => decide +kernel); (case f3 => decide +kernel)))
local macro_rules | `(tactic| walk_at "mc") => `(tactic| repeat walk_at "mc1")
local macro_rules | `(tactic| walk_at "mx1") => `(tactic| first
  | with_reducible refine' L2.rd_raise ?_
  | walk_at "md1"
  | walk_at "mc1")
local macro_rules | `(tactic| walk_at "mx") => `(tactic| repeat walk_at "mx1")
namespace My
open PySem L2
def top (i : Nat) : Stmt := PySem.Challenge.pw_marksteps_k07_refusals.main.body.getD i (.Pass ⟨0, 0, 0, 0⟩)
abbrev s_count_all : Stmt := top 14
abbrev s_Listing___init : Stmt := inClass (top 10) 0
abbrev s_Listing_many : Stmt := inClass (top 10) 1
abbrev s_Listing_check_place : Stmt := inClass (top 10) 6
abbrev s_Turning___init : Stmt := inClass (top 15) 0
abbrev s_Turning_row_at : Stmt := inClass (top 15) 1
abbrev s_Turning_check_row : Stmt := inClass (top 15) 8
abbrev s_Turning_figures_of : Stmt := inClass (top 15) 7
abbrev s_Turning_place_of : Stmt := inClass (top 15) 2
abbrev s_Turning_check_turn : Stmt := inClass (top 15) 9
abbrev s_choose : Stmt := top 1
abbrev s_Choosing___init : Stmt := inClass (top 12) 0
abbrev s_Choosing_row_at : Stmt := inClass (top 12) 1
abbrev s_Choosing_check_row : Stmt := inClass (top 12) 8
abbrev s_Choosing_place_of : Stmt := inClass (top 12) 2
abbrev s_Choosing_check_spots : Stmt := inClass (top 12) 7
abbrev s_Choosing_swapped : Stmt := inClass (top 12) 6
abbrev s_Choosing_done : Stmt := inClass (top 12) 4
abbrev s_Choosing_undone : Stmt := inClass (top 12) 5
abbrev s_Turning_change : Stmt := inClass (top 15) 3
abbrev s_Listing_leap : Stmt := inClass (top 10) 2
abbrev s_Listing_next_row : Stmt := inClass (top 10) 3
abbrev s_Listing_row_before : Stmt := inClass (top 10) 4
abbrev s_Listing_steps_to : Stmt := inClass (top 10) 5
abbrev s_Turning_turned : Stmt := inClass (top 15) 6
abbrev s_Turning_done : Stmt := inClass (top 15) 4
abbrev s_Turning_undone : Stmt := inClass (top 15) 5
abbrev s_Choosing_change : Stmt := inClass (top 12) 3
abbrev s_l_cell_at : Stmt := top 17
abbrev s_l_length : Stmt := top 18
abbrev s_l_signs : Stmt := top 19
abbrev s_l_which : Stmt := top 20
abbrev s_l_formed : Stmt := top 21
abbrev s_l_ask : Stmt := top 22
abbrev s_l_refused : Stmt := top 23
abbrev s_l_forms : Stmt := top 24
abbrev s_l_bad_row : Stmt := top 25
abbrev s_l_bad_ones : Stmt := top 26
abbrev s_l_rows : Stmt := top 27
abbrev s_l_places : Stmt := top 28
abbrev s_l_changes : Stmt := top 29
abbrev s_l_swaps : Stmt := top 30
abbrev s_l_fit : Stmt := top 31
abbrev s_l_turning : Stmt := top 32
abbrev s_l_choosing : Stmt := top 33
abbrev s_law : Stmt := top 34
theorem sc_count_all : FnScope ["signs", "length", "rows", "spot"] ["signs", "length"] (defScope s_count_all) := ⟨rfl, rfl, rfl, by decide +kernel, rfl, by decide +kernel, by decide +kernel⟩
theorem sc_Listing___init : FnScope ["self", "size"] ["self", "size"] (defScope s_Listing___init) := ⟨rfl, rfl, rfl, by decide +kernel, rfl, by decide +kernel, by decide +kernel⟩
theorem sc_Listing_many : FnScope ["self"] ["self"] (defScope s_Listing_many) := ⟨rfl, rfl, rfl, by decide +kernel, rfl, by decide +kernel, by decide +kernel⟩
theorem sc_Listing_check_place : FnScope ["self", "place"] ["self", "place"] (defScope s_Listing_check_place) := ⟨rfl, rfl, rfl, by decide +kernel, rfl, by decide +kernel, by decide +kernel⟩
theorem sc_Turning___init : FnScope ["self", "signs", "length"] ["self", "signs", "length"] (defScope s_Turning___init) := ⟨rfl, rfl, rfl, by decide +kernel, rfl, by decide +kernel, by decide +kernel⟩
theorem sc_Turning_row_at : FnScope ["self", "place", "row", "figure", "rest", "spot", "behind"] ["self", "place"] (defScope s_Turning_row_at) := ⟨rfl, rfl, rfl, by decide +kernel, rfl, by decide +kernel, by decide +kernel⟩
theorem sc_Turning_check_row : FnScope ["self", "row", "mark"] ["self", "row"] (defScope s_Turning_check_row) := ⟨rfl, rfl, rfl, by decide +kernel, rfl, by decide +kernel, by decide +kernel⟩
theorem sc_Turning_figures_of : FnScope ["self", "row", "figures", "figure", "mark"] ["self", "row"] (defScope s_Turning_figures_of) := ⟨rfl, rfl, rfl, by decide +kernel, rfl, by decide +kernel, by decide +kernel⟩
theorem sc_Turning_place_of : FnScope ["self", "row", "place", "figure"] ["self", "row"] (defScope s_Turning_place_of) := ⟨rfl, rfl, rfl, by decide +kernel, rfl, by decide +kernel, by decide +kernel⟩
theorem sc_Turning_check_turn : FnScope ["self", "change"] ["self", "change"] (defScope s_Turning_check_turn) := ⟨rfl, rfl, rfl, by decide +kernel, rfl, by decide +kernel, by decide +kernel⟩
theorem sc_choose : FnScope ["length", "ones", "many", "got"] ["length", "ones"] (defScope s_choose) := ⟨rfl, rfl, rfl, by decide +kernel, rfl, by decide +kernel, by decide +kernel⟩
theorem sc_Choosing___init : FnScope ["self", "length", "ones"] ["self", "length", "ones"] (defScope s_Choosing___init) := ⟨rfl, rfl, rfl, by decide +kernel, rfl, by decide +kernel, by decide +kernel⟩
theorem sc_Choosing_row_at : FnScope ["self", "place", "row", "rows", "ones", "inner", "length", "without"] ["self", "place"] (defScope s_Choosing_row_at) := ⟨rfl, rfl, rfl, by decide +kernel, rfl, by decide +kernel, by decide +kernel⟩
theorem sc_Choosing_check_row : FnScope ["self", "row", "mark"] ["self", "row"] (defScope s_Choosing_check_row) := ⟨rfl, rfl, rfl, by decide +kernel, rfl, by decide +kernel, by decide +kernel⟩
theorem sc_Choosing_place_of : FnScope ["self", "row", "place", "rows", "ones", "length", "mark"] ["self", "row"] (defScope s_Choosing_place_of) := ⟨rfl, rfl, rfl, by decide +kernel, rfl, by decide +kernel, by decide +kernel⟩
theorem sc_Choosing_check_spots : FnScope ["self", "row", "out", "into", "spot"] ["self", "row", "out", "into"] (defScope s_Choosing_check_spots) := ⟨rfl, rfl, rfl, by decide +kernel, rfl, by decide +kernel, by decide +kernel⟩
theorem sc_Choosing_swapped : FnScope ["self", "row", "change", "back", "told", "out", "into"] ["self", "row", "change", "back"] (defScope s_Choosing_swapped) := ⟨rfl, rfl, rfl, by decide +kernel, rfl, by decide +kernel, by decide +kernel⟩
theorem sc_Choosing_done : FnScope ["self", "row", "change"] ["self", "row", "change"] (defScope s_Choosing_done) := ⟨rfl, rfl, rfl, by decide +kernel, rfl, by decide +kernel, by decide +kernel⟩
theorem sc_Choosing_undone : FnScope ["self", "row", "change"] ["self", "row", "change"] (defScope s_Choosing_undone) := ⟨rfl, rfl, rfl, by decide +kernel, rfl, by decide +kernel, by decide +kernel⟩
theorem sc_Turning_change : FnScope ["self", "row", "figures", "spot"] ["self", "row"] (defScope s_Turning_change) := ⟨rfl, rfl, rfl, by decide +kernel, rfl, by decide +kernel, by decide +kernel⟩
theorem sc_Listing_leap : FnScope ["self", "row", "steps"] ["self", "row", "steps"] (defScope s_Listing_leap) := ⟨rfl, rfl, rfl, by decide +kernel, rfl, by decide +kernel, by decide +kernel⟩
theorem sc_Listing_next_row : FnScope ["self", "row"] ["self", "row"] (defScope s_Listing_next_row) := ⟨rfl, rfl, rfl, by decide +kernel, rfl, by decide +kernel, by decide +kernel⟩
theorem sc_Listing_row_before : FnScope ["self", "row"] ["self", "row"] (defScope s_Listing_row_before) := ⟨rfl, rfl, rfl, by decide +kernel, rfl, by decide +kernel, by decide +kernel⟩
theorem sc_Listing_steps_to : FnScope ["self", "row", "other"] ["self", "row", "other"] (defScope s_Listing_steps_to) := ⟨rfl, rfl, rfl, by decide +kernel, rfl, by decide +kernel, by decide +kernel⟩
theorem sc_Turning_turned : FnScope ["self", "row", "change", "by", "told", "spot"] ["self", "row", "change", "by"] (defScope s_Turning_turned) := ⟨rfl, rfl, rfl, by decide +kernel, rfl, by decide +kernel, by decide +kernel⟩
theorem sc_Turning_done : FnScope ["self", "row", "change"] ["self", "row", "change"] (defScope s_Turning_done) := ⟨rfl, rfl, rfl, by decide +kernel, rfl, by decide +kernel, by decide +kernel⟩
theorem sc_Turning_undone : FnScope ["self", "row", "change"] ["self", "row", "change"] (defScope s_Turning_undone) := ⟨rfl, rfl, rfl, by decide +kernel, rfl, by decide +kernel, by decide +kernel⟩
theorem sc_Choosing_change : FnScope ["self", "row", "after", "gone"] ["self", "row"] (defScope s_Choosing_change) := ⟨rfl, rfl, rfl, by decide +kernel, rfl, by decide +kernel, by decide +kernel⟩
theorem sc_l_cell_at : FnScope ["_law_script", "_law_k"] ["_law_script", "_law_k"] (defScope s_l_cell_at) := ⟨rfl, rfl, rfl, by decide +kernel, rfl, by decide +kernel, by decide +kernel⟩
theorem sc_l_length : FnScope ["_law_cell"] ["_law_cell"] (defScope s_l_length) := ⟨rfl, rfl, rfl, by decide +kernel, rfl, by decide +kernel, by decide +kernel⟩
theorem sc_l_signs : FnScope ["_law_cell"] ["_law_cell"] (defScope s_l_signs) := ⟨rfl, rfl, rfl, by decide +kernel, rfl, by decide +kernel, by decide +kernel⟩
theorem sc_l_which : FnScope ["_law_error", "_law_some"] ["_law_error"] (defScope s_l_which) := ⟨rfl, rfl, rfl, by decide +kernel, rfl, by decide +kernel, by decide +kernel⟩
theorem sc_l_formed : FnScope ["_law_turning_here", "_law_one", "_law_two", "e"] ["_law_turning_here", "_law_one", "_law_two"] (defScope s_l_formed) := ⟨rfl, rfl, rfl, by decide +kernel, rfl, by decide +kernel, by decide +kernel⟩
theorem sc_l_ask : FnScope ["_law_lot", "_law_way", "_law_row", "_law_more"] ["_law_lot", "_law_way", "_law_row", "_law_more"] (defScope s_l_ask) := ⟨rfl, rfl, rfl, by decide +kernel, rfl, by decide +kernel, by decide +kernel⟩
theorem sc_l_refused : FnScope ["_law_lot", "_law_way", "_law_row", "_law_more", "e"] ["_law_lot", "_law_way", "_law_row", "_law_more"] (defScope s_l_refused) := ⟨rfl, rfl, rfl, by decide +kernel, rfl, by decide +kernel, by decide +kernel⟩
theorem sc_l_forms : FnScope ["_law_length_here", "_law_signs_here", "_law_far", "_law_bad", "_law_one", "_law_two"] ["_law_length_here", "_law_signs_here", "_law_far"] (defScope s_l_forms) := ⟨rfl, rfl, rfl, by decide +kernel, rfl, by decide +kernel, by decide +kernel⟩
theorem sc_l_bad_row : FnScope ["_law_row", "_law_cell", "_law_signs_here", "_law_far", "_law_bad", "_law_at"] ["_law_row", "_law_cell", "_law_signs_here", "_law_far"] (defScope s_l_bad_row) := ⟨rfl, rfl, rfl, by decide +kernel, rfl, by decide +kernel, by decide +kernel⟩
theorem sc_l_bad_ones : FnScope ["_law_row", "_law_cell", "_law_other", "_law_far", "_law_bad", "_law_at", "_law_full"] ["_law_row", "_law_cell", "_law_other", "_law_far"] (defScope s_l_bad_ones) := ⟨rfl, rfl, rfl, by decide +kernel, rfl, by decide +kernel, by decide +kernel⟩
theorem sc_l_rows : FnScope ["_law_lot", "_law_row", "_law_bad", "_law_steps", "_law_change", "_law_kept", "_law_way", "_law_more"] ["_law_lot", "_law_row", "_law_bad", "_law_steps", "_law_change"] (defScope s_l_rows) := ⟨rfl, rfl, rfl, by decide +kernel, rfl, by decide +kernel, by decide +kernel⟩
theorem sc_l_places : FnScope ["_law_lot", "_law_many", "_law_far", "_law_place"] ["_law_lot", "_law_many", "_law_far"] (defScope s_l_places) := ⟨rfl, rfl, rfl, by decide +kernel, rfl, by decide +kernel, by decide +kernel⟩
theorem sc_l_changes : FnScope ["_law_lot", "_law_row", "_law_changes_here", "_law_fits", "_law_k", "_law_due"] ["_law_lot", "_law_row", "_law_changes_here", "_law_fits"] (defScope s_l_changes) := ⟨rfl, rfl, rfl, by decide +kernel, rfl, by decide +kernel, by decide +kernel⟩
theorem sc_l_swaps : FnScope ["_law_script", "_law_length_here", "_law_far", "_law_wide", "_law_pairs"] ["_law_script", "_law_length_here", "_law_far"] (defScope s_l_swaps) := ⟨rfl, rfl, rfl, by decide +kernel, rfl, by decide +kernel, by decide +kernel⟩
theorem sc_l_fit : FnScope ["_law_row", "_law_out", "_law_into"] ["_law_row", "_law_out", "_law_into"] (defScope s_l_fit) := ⟨rfl, rfl, rfl, by decide +kernel, rfl, by decide +kernel, by decide +kernel⟩
theorem sc_l_turning : FnScope ["_law_script", "_law_length_here", "_law_signs_here", "_law_far", "_law_row", "_law_lot", "_law_place", "_law_bad", "_law_changes_here", "_law_fits"] ["_law_script", "_law_length_here", "_law_signs_here", "_law_far"] (defScope s_l_turning) := ⟨rfl, rfl, rfl, by decide +kernel, rfl, by decide +kernel, by decide +kernel⟩
theorem sc_l_choosing : FnScope ["_law_script", "_law_length_here", "_law_far", "_law_ones", "_law_ahead", "_law_row", "_law_lot", "_law_place", "_law_bad", "_law_pairs", "_law_changes_here", "_law_fits"] ["_law_script", "_law_length_here", "_law_far"] (defScope s_l_choosing) := ⟨rfl, rfl, rfl, by decide +kernel, rfl, by decide +kernel, by decide +kernel⟩
theorem sc_law : FnScope ["_law_script", "_law_length_here", "_law_signs_here", "_law_far"] ["_law_script"] (defScope s_law) := ⟨rfl, rfl, rfl, by decide +kernel, rfl, by decide +kernel, by decide +kernel⟩
section
variable {P : Program} {w : World} {K : PySem.W.Frag} {mg : Str → Option Value} {base : Heap}
theorem fn_count_all {f : Addr} {fd : FuncData} (T : TB mg)  
    (F : Fun K "count_all" "count_all" s_count_all f fd) (g : mg "count_all" = some (.ref f)) (b : Binds K fd ["signs", "length"] []) : Fn P w K mg base 1 "count_all" ["signs", "length"] spCountAll := by
  have nd := sc_count_all.nd
  refine ⟨f, fd, g, F.kp, F.ok sc_count_all (fun vs H Q E h => ?_) (fun cdv A outer s H vs Q E hr h => ?_), b⟩
  · obtain ⟨s0, t, rfl, _⟩ := h
    rfl
  · obtain ⟨s0, t, rfl, h0, h1, h2, h3, q⟩ := h
    refine ⟨_, (pss_cons (ps_set (i := 2) nd rfl (Or.inl rfl) pe_int)
      (pss_cons (ps_for PassesOwn.never rfl (pi_range1 (by rfl) T.n_range (pa_cons (pv 1) pa_nil)) (pg_name (i := 3) nd rfl (Or.inl rfl)) (pss_one (ps_set (i := 2) nd rfl (Or.inl rfl) (pe_op op_mulB (pv 2) (pv 0)))))
      (pss_one (ps_ret (pv 2))))), ?_⟩
    walk_at "md"
    refine ⟨_, rfl, by omega, by omega, for_rng (n := t.toNat) (fun i σ' H' => H' = H ∧ ∃ k : Option V, σ' = [some (.int s0), some (.int t), some (.int (s0 ^ i)), k]) ⟨rfl, none, by show _ = [some (V.int s0), some (V.int t), some (V.int (s0 ^ 0)), none]; rw [Int.pow_zero]; rfl⟩ (fun i σ' H' hi hP => ?_) fun σ' H' hP => ?_⟩
    · obtain ⟨rfl, k, rfl⟩ := hP
      walk_at "md"
      refine rd_I ⟨?_, ?_⟩ ?_
      · exact Ms.fits_pow h0 h1 (by omega)
      · exact Fits.small (by omega) (by omega)
      walk_at "md"
      exact ⟨rfl, some (.int (0 + (i : Int))), by rw [Int.pow_succ]; rfl⟩
    · obtain ⟨rfl, k, rfl⟩ := hP
      walk_at "md"
      exact q
theorem ok_Listing___initT {C f : Addr} {fd : FuncData} (T : TB mg) (T2 : TB2 mg) (TC : CT K C)  
    (F : Fun K "__init__" "Listing.__init__" s_Listing___init f fd) : FnOk P w K mg base CX0 1 f fd ["self", "size"] (spBaseInit C) := by
  have nd := sc_Listing___init.nd
  obtain ⟨tL, eL⟩ := T2.longest
  refine F.ok sc_Listing___init (fun vs H Q E h => ?_) (fun cdv A outer s H vs Q E hr h => ?_)
  · obtain ⟨x, dx, z, fs, rfl, _⟩ := h
    rfl
  · obtain ⟨x, dx, z, fs, rfl, hx, hl, q⟩ := h
    refine ⟨_, (pss_one (ps_fld (pv 0) (pv 1) rfl)), ?_⟩
    walk_at "md"
    exact ⟨x, C, dx, fs, rfl, hx, TC.cl, TC.size, hl, q⟩
theorem ok_Listing_manyT {C f : Addr} {fd : FuncData} (T : TB mg) (T2 : TB2 mg) (TC : CT K C)  
    (F : Fun K "many" "Listing.many" s_Listing_many f fd) : FnOk P w K mg base CX0 1 f fd ["self"] (spManyT (TAt C)) := by
  have nd := sc_Listing_many.nd
  obtain ⟨tL, eL⟩ := T2.longest
  refine F.ok sc_Listing_many (fun vs H Q E h => ?_) (fun cdv A outer s H vs Q E hr h => ?_)
  · obtain ⟨p, s0, n, rfl, _⟩ := h
    rfl
  · obtain ⟨p, s0, n, rfl, tA, q⟩ := h
    refine ⟨_, (pss_one (ps_ret (pe_fld (pv 0) rfl))), ?_⟩
    walk_at "md"
    exact q _ (Same.refl H)
theorem ok_Listing_check_placeT {C f : Addr} {fd : FuncData} (T : TB mg) (T2 : TB2 mg) (TC : CT K C)  
    (F : Fun K "check_place" "Listing.check_place" s_Listing_check_place f fd) : FnOk P w K mg base CX0 1 f fd ["self", "place"] (spPlaceOkT C) := by
  have nd := sc_Listing_check_place.nd
  obtain ⟨tL, eL⟩ := T2.longest
  refine F.ok sc_Listing_check_place (fun vs H Q E h => ?_) (fun cdv A outer s H vs Q E hr h => ?_)
  · obtain ⟨p, k, s0, n, rfl, _⟩ := h
    rfl
  · obtain ⟨p, k, s0, n, rfl, tA, h0, h1, q⟩ := h
    refine ⟨_, (pss_one (ps_if (PW.pt (pw_or (pt_cmpR op_lt (pv 1) pe_int (nomark _)) (pw_or1 (pt_cmpR op_ge (pv 1) (pe_fld (pv 0) rfl) (nomark _))))) (pss_one ps_never) pss_nil)), ?_⟩
    walk_at "md"
    refine rd_D (fun c => absurd c (by omega)) (fun c => ?_)
    walk_at "md"
    refine rd_D (fun c => absurd c (by omega)) (fun c => ?_)
    walk_at "md"
    exact q
theorem ok_Turning___init {C f : Addr} {fd : FuncData} (T : TB mg) (T2 : TB2 mg) (TC : CT K C)  (D_count_all : Fn P w K mg base 1 "count_all" ["signs", "length"] spCountAll) (B_Listing___init : Base P w K mg base 1 "Listing" "__init__" (spBaseInit C))
    (F : Fun K "__init__" "Turning.__init__" s_Turning___init f fd) : FnOk P w K mg base CX0 2 f fd ["self", "signs", "length"] (spInitT C (TAt C)) := by
  have nd := sc_Turning___init.nd
  obtain ⟨tL, eL⟩ := T2.longest
  refine F.ok sc_Turning___init (fun vs H Q E h => ?_) (fun cdv A outer s H vs Q E hr h => ?_)
  · obtain ⟨x, dx, s0, n, rfl, _⟩ := h
    rfl
  · obtain ⟨x, dx, s0, n, rfl, hx, h0, h1, h2, h3, q⟩ := h
    refine ⟨_, (pss_cons (ps_if (PW.pt (pw_or (pt_cmpR op_lt (pv 1) pe_int (nomark _)) (pw_or1 (pt_cmpR op_gt (pv 1) (pe_op op_pow pe_int pe_int) (nomark _))))) (pss_one ps_never) pss_nil)
      (pss_cons (ps_if (PW.pt (pw_or (pt_cmpR op_lt (pv 2) pe_int (nomark _)) (pw_or1 (pt_cmpR op_gt (pv 2) (pe_glob (v := .int 200) (by rfl) eL ⟨_, rfl⟩) (nomark _))))) (pss_one ps_never) pss_nil)
      (pss_cons (ps_expr (pe_base B_Listing___init (hr.mono (by decide)) (by rfl) (pa_cons (pv 0) (pa_cons (pe_fn D_count_all (hr.mono (by decide)) (by rfl) (pa_cons (pv 1) (pa_cons (pv 2) pa_nil))) pa_nil))))
      (pss_cons (ps_fld (pv 0) (pv 1) rfl)
      (pss_one (ps_fld (pv 0) (pv 2) rfl)))))), ?_⟩
    have e12 : (10 : Int) ^ (12 : Int).toNat = 1000000000000 := by decide +kernel
    walk_at "md"
    refine rd_D (fun c => absurd c (by omega)) (fun c => ?_)
    walk_at "md"
    refine rd_D (fun c => absurd c (by omega)) (fun c => ?_)
    walk_at "md"
    refine rd_D (fun c => absurd c (by omega)) (fun c => ?_)
    walk_at "md"
    refine rd_D (fun c => absurd c (by omega)) (fun c => ?_)
    walk_at "md"
    refine ⟨s0, n, rfl, by omega, h1, h2, h3, ?_⟩
    walk_at "md"
    refine ⟨x, dx, _, [], rfl, hx, by decide, ?_⟩
    walk_at "md"
    refine ⟨x, C, dx, _, rfl, upd_same, TC.cl, TC.signs, by show 1 < 1000; decide, ?_⟩
    walk_at "md"
    refine ⟨x, C, dx, _, rfl, upd_same, TC.cl, TC.length, Nat.lt_of_le_of_lt (length_putF _ _ _) (by show 1 + 1 < 1000; decide), ?_⟩
    walk_at "md"
    refine q _ (fun b o e hb => ?_) ⟨⟨h0, h1, h2, h3⟩, dx, upd_same⟩
    rw [upd_ne hb, upd_ne hb, upd_ne hb]
    exact e
theorem ok_Turning_row_at {C f : Addr} {fd : FuncData} (T : TB mg) (T2 : TB2 mg) (TC : CT K C)  (M_check_place : Mt P w K mg base C 1 "check_place" [] (spPlaceOkT C))
    (F : Fun K "row_at" "Turning.row_at" s_Turning_row_at f fd) : FnOk P w K mg base CX0 2 f fd ["self", "place"] (spRowAtT (TAt C)) := by
  have nd := sc_Turning_row_at.nd
  obtain ⟨tL, eL⟩ := T2.longest
  refine F.ok sc_Turning_row_at (fun vs H Q E h => ?_) (fun cdv A outer s H vs Q E hr h => ?_)
  · obtain ⟨p, k, s0, n, rfl, _⟩ := h
    rfl
  · obtain ⟨p, k, s0, n, rfl, tA, h0, h1, q⟩ := h
    refine ⟨_, (pss_cons (ps_expr (pe_mt (pv 0) M_check_place (hr.mono (by decide)) (pa_cons (pv 1) pa_nil)))
      (pss_cons (ps_set (i := 2) nd rfl (Or.inl rfl) (pe_lst pa_nil))
      (pss_cons (ps_set (i := 3) nd rfl (Or.inl rfl) (pe_op op_mod (pv 1) (pe_fld (pv 0) rfl)))
      (pss_cons (ps_set (i := 4) nd rfl (Or.inl rfl) (pe_op op_fdivB (pv 1) (pe_fld (pv 0) rfl)))
      (pss_cons (ps_for PassesOwn.never rfl (pi_range1 (by rfl) T.n_range (pa_cons (pe_fld (pv 0) rfl) pa_nil)) (pg_name (i := 5) nd rfl (Or.inl rfl)) (pss_cons (ps_set (i := 6) nd rfl (Or.inl rfl) (pe_op op_mod (pv 4) (pe_fld (pv 0) rfl)))
      (pss_cons (ps_set (i := 4) nd rfl (Or.inl rfl) (pe_op op_fdivB (pv 4) (pe_fld (pv 0) rfl)))
      (pss_cons (ps_expr (pe_bm PySem.F.plainAttrs_list PySem.F.slot_list_append PySem.F.type_list_append mt_append (pv 2) (pa_cons (pe_op op_mod (pe_op op_sub (pv 3) (pv 6)) (pe_fld (pv 0) rfl)) pa_nil)))
      (pss_one (ps_set (i := 3) nd rfl (Or.inl rfl) (pv 6)))))))
      (pss_one (ps_ret (pv 2)))))))), ?_⟩
    have hf := tA.1
    walk_at "md"
    refine ⟨p, k, s0, n, rfl, tA, h0, h1, ?_⟩
    walk_at "md"
    refine ⟨Nat.zero_le _, fun l nl => ?_⟩
    have tA1 := tA.upd (o := .lst []) nl
    walk_at "md"
    refine ⟨_, rfl, by omega, by omega, for_rng (n := n.toNat) (fun i σ' H' => Same H H' ∧ H' l = some (.lst (((Ms.rowI s0 n k).take i).map V.int)) ∧ ∃ sp be : Option V, σ' = [some (.ref p), some (.int k), some (.ref l), some (.int (Ms.figI s0 k i)), some (.int (k / s0 ^ (i + 1))), sp, be])
      ⟨(Same.refl H).fresh nl, upd_same, none, none, ?_⟩ (fun i σ' H' hi hP => ?_) fun σ' H' hP => ?_⟩
    · rw [Ms.fig_zero, Int.pow_one]
      rfl
    · obtain ⟨S, hl, sp, be, rfl⟩ := hP
      have tA2 := tA.same S
      walk_at "md"
      refine ⟨ty_lst hl, ?_⟩
      walk_at "md"
      refine rd_app hl (small' ?_) ?_
      · rw [List.length_map, List.length_take, Ms.rowI_len]
        omega
      walk_at "md"
      refine ⟨S.fresh nl, ?_, some (.int (0 + (i : Int))), some (.int (Ms.figI s0 k (i + 1))), ?_⟩
      · rw [upd_same, Ms.rowI_take (by omega) h0 (by omega), List.map_append]
        rfl
      · rw [Ms.div_step (by omega) (i + 1)]
        rfl
    · obtain ⟨S, hl, sp, be, rfl⟩ := hP
      walk_at "md"
      rw [Ms.rowI_all] at hl
      exact q l _ S nl hl
theorem ok_Turning_check_row {C f : Addr} {fd : FuncData} (T : TB mg) (T2 : TB2 mg) (TC : CT K C)  
    (F : Fun K "check_row" "Turning.check_row" s_Turning_check_row f fd) : FnOk P w K mg base CX0 1 f fd ["self", "row"] (spRowOkT K C) := by
  have nd := sc_Turning_check_row.nd
  obtain ⟨tL, eL⟩ := T2.longest
  refine F.ok sc_Turning_check_row (fun vs H Q E h => ?_) (fun cdv A outer s H vs Q E hr h => ?_)
  · obtain ⟨p, r, s0, n, row, rfl, _⟩ := h
    rfl
  · obtain ⟨p, r, s0, n, row, rfl, tA, hr', hl, hm, q⟩ := h
    refine ⟨_, (pss_cons (ps_if (pt_cmpR op_ne (pe_callB call_len_seq (by rfl) T.n_len bt_len (pa_cons (pv 1) pa_nil)) (pe_fld (pv 0) rfl) (nomark _)) (pss_one ps_never) pss_nil)
      (pss_one (ps_for PassesOwn.never rfl (pi_list (pv 1)) (pg_name (i := 2) nd rfl (Or.inl rfl)) (pss_one (ps_if (PW.pt (pw_or (pt_cmpR op_lt (pv 2) pe_int (nomark _)) (pw_or1 (pt_cmpR op_ge (pv 2) (pe_fld (pv 0) rfl) (nomark _))))) (pss_one ps_never) pss_nil))))), ?_⟩
    have hf := tA.1
    walk_at "md"
    refine ⟨_, _, rfl, .inl hr', ?_⟩
    walk_at "md"
    rw [List.length_map]
    refine rd_ND (fun c => absurd hl c) (fun _ => ?_)
    walk_at "md"
    refine ⟨r, rfl, ⟨_, hr'⟩, for_lst (K := K) (xs := row.map V.int) (fun i σ' H' => H' = H ∧ ∃ m : Option V, σ' = [some (.ref p), some (.ref r), m]) ⟨rfl, none, rfl⟩ (fun i σ' H' _ hP => by obtain ⟨rfl, _⟩ := hP; exact hr') (fun i y σ' H' hy hP => ?_) fun σ' H' hP => ?_⟩
    · obtain ⟨rfl, m, rfl⟩ := hP
      obtain ⟨z, hz, rfl⟩ : ∃ z, z ∈ row ∧ y = V.int z := by
        rw [List.getElem?_map] at hy
        cases e : row[i]? with
        | none => rw [e] at hy; cases hy
        | some z => rw [e] at hy; exact ⟨z, List.mem_of_getElem? e, (Option.some.inj hy).symm⟩
      have hz' := hm z hz
      walk_at "md"
      refine rd_D (fun c => absurd c (by omega)) (fun c => ?_)
      walk_at "md"
      refine rd_D (fun c => absurd c (by omega)) (fun c => ?_)
      walk_at "md"
      exact ⟨rfl, _, rfl⟩
    · obtain ⟨rfl, m, rfl⟩ := hP
      walk_at "md"
      exact q
theorem ok_Turning_figures_of {C f : Addr} {fd : FuncData} (T : TB mg) (T2 : TB2 mg) (TC : CT K C)  
    (F : Fun K "figures_of" "Turning.figures_of" s_Turning_figures_of f fd) : FnOk P w K mg base CX0 1 f fd ["self", "row"] (spFigsT K C) := by
  have nd := sc_Turning_figures_of.nd
  obtain ⟨tL, eL⟩ := T2.longest
  refine F.ok sc_Turning_figures_of (fun vs H Q E h => ?_) (fun cdv A outer s H vs Q E hr h => ?_)
  · obtain ⟨p, r, s0, n, row, rfl, _⟩ := h
    rfl
  · obtain ⟨p, r, s0, n, row, rfl, tA, hr', hl, hm, q⟩ := h
    refine ⟨_, (pss_cons (ps_set (i := 2) nd rfl (Or.inl rfl) (pe_lst pa_nil))
      (pss_cons (ps_set (i := 3) nd rfl (Or.inl rfl) pe_int)
      (pss_cons (ps_for PassesOwn.never rfl (pi_rev (by rfl) T.n_reversed (pa_cons (pv 1) pa_nil)) (pg_name (i := 4) nd rfl (Or.inl rfl)) (pss_cons (ps_set (i := 3) nd rfl (Or.inl rfl) (pe_op op_mod (pe_op op_add (pv 4) (pv 3)) (pe_fld (pv 0) rfl)))
      (pss_one (ps_expr (pe_bm PySem.F.plainAttrs_list PySem.F.slot_list_append PySem.F.type_list_append mt_append (pv 2) (pa_cons (pv 3) pa_nil))))))
      (pss_cons (ps_expr (pe_bm0 PySem.F.plainAttrs_list PySem.F.slot_list_reverse PySem.F.type_list_reverse mt_reverse (pv 2)))
      (pss_one (ps_ret (pv 2))))))), ?_⟩
    have hf := tA.1
    walk_at "md"
    refine ⟨Nat.zero_le _, fun l nl => ?_⟩
    walk_at "md"
    have nrl : ∀ o, SqL K (upd H l o) r (row.map V.int) := fun o => ((Same.refl H).fresh nl).seq hr'
    refine ⟨r, _, rfl, nrl _, for_rev (K := K) (fun i σ' H' => Same H H' ∧ H' l = some (.lst ((Ms.figR s0 row i).map V.int)) ∧ ∃ m : Option V, σ' = [some (.ref p), some (.ref r), some (.ref l), some (.int (Ms.figI s0 (Ms.plI s0 row) (row.length - i))), m])
      ⟨(Same.refl H).fresh nl, upd_same, none, ?_⟩ (fun i σ' H' _ hP => hP.1.seq hr') (fun i y σ' H' hi hy hP => ?_) fun σ' H' hP => ?_⟩
    · rw [Nat.sub_zero, Ms.fig_top (by omega)]
      rfl
    · obtain ⟨S, hl', m, rfl⟩ := hP
      rw [List.length_map] at hi hy
      obtain ⟨z, hz, rfl⟩ : ∃ z, row[row.length - 1 - i]? = some z ∧ y = V.int z := by
        rw [List.getElem?_map] at hy
        cases e : row[row.length - 1 - i]? with
        | none => rw [e] at hy; cases hy
        | some z => rw [e] at hy; exact ⟨z, rfl, (Option.some.inj hy).symm⟩
      have tA2 := tA.same S
      have e1 : row.length - 1 - i + 1 = row.length - i := by omega
      have fb := Ms.fig_by (s := s0) (by omega) hm hz
      rw [e1] at fb
      walk_at "md"
      refine ⟨ty_lst hl', ?_⟩
      walk_at "md"
      refine rd_app hl' (small' ?_) ?_
      · rw [List.length_map]
        unfold Ms.figR
        rw [List.length_map, List.length_range]
        omega
      walk_at "md"
      refine ⟨S.fresh nl, ?_, some (.int z), ?_⟩
      · rw [upd_same, fb, Ms.figR_succ, List.map_append]
        rfl
      · rw [fb, show row.length - (i + 1) = row.length - 1 - i by omega]
        rfl
    · obtain ⟨S, hl', m, rfl⟩ := hP
      rw [List.length_map] at hl'
      walk_at "md"
      refine ⟨ty_lst hl', l, _, rfl, rfl, hl', ?_⟩
      walk_at "md"
      refine q l _ (S.fresh nl) nl ?_
      rw [upd_same, ← List.map_reverse, Ms.figR_rev]
theorem ok_Turning_place_of {C f : Addr} {fd : FuncData} (T : TB mg) (T2 : TB2 mg) (TC : CT K C)  (M_check_row : Mt P w K mg base C 1 "check_row" [] (spRowOkT K C)) (M_figures_of : Mt P w K mg base C 1 "figures_of" [] (spFigsT K C))
    (F : Fun K "place_of" "Turning.place_of" s_Turning_place_of f fd) : FnOk P w K mg base CX0 2 f fd ["self", "row"] (spPlaceOfT K (TAt C)) := by
  have nd := sc_Turning_place_of.nd
  obtain ⟨tL, eL⟩ := T2.longest
  refine F.ok sc_Turning_place_of (fun vs H Q E h => ?_) (fun cdv A outer s H vs Q E hr h => ?_)
  · obtain ⟨p, r, s0, n, row, rfl, _⟩ := h
    rfl
  · obtain ⟨p, r, s0, n, row, rfl, tA, hr', hl, hm, q⟩ := h
    refine ⟨_, (pss_cons (ps_expr (pe_mt (pv 0) M_check_row (hr.mono (by decide)) (pa_cons (pv 1) pa_nil)))
      (pss_cons (ps_set (i := 2) nd rfl (Or.inl rfl) pe_int)
      (pss_cons (ps_for PassesOwn.never rfl (pi_rev (by rfl) T.n_reversed (pa_cons (pe_mt (pv 0) M_figures_of (hr.mono (by decide)) (pa_cons (pv 1) pa_nil)) pa_nil)) (pg_name (i := 3) nd rfl (Or.inl rfl)) (pss_one (ps_set (i := 2) nd rfl (Or.inl rfl) (pe_op op_add (pe_op op_mulB (pv 2) (pe_fld (pv 0) rfl)) (pv 3)))))
      (pss_one (ps_ret (pv 2)))))), ?_⟩
    have hf := tA.1
    walk_at "md"
    refine ⟨p, r, s0, n, row, rfl, tA, hr', hl, hm, ?_⟩
    walk_at "md"
    refine ⟨p, r, s0, n, row, rfl, tA, hr', hl, hm, fun l H1 S1 nl hl1 => ?_⟩
    walk_at "md"
    refine ⟨l, _, rfl, SqL.of hl1, for_rev (K := K) (fun i σ' H' => H' = H1 ∧ ∃ m : Option V, σ' = [some (.ref p), some (.ref r), some (.int (Ms.plI s0 row / s0 ^ (row.length - i))), m])
      ⟨rfl, none, ?_⟩ (fun i σ' H' _ hP => by rw [hP.1]; exact SqL.of hl1) (fun i y σ' H' hi hy hP => ?_) fun σ' H' hP => ?_⟩
    · rw [Nat.sub_zero, Ms.place_top (by omega)]
      rfl
    · obtain ⟨rfl, m, rfl⟩ := hP
      rw [List.length_map, Ms.figs_len] at hi hy
      rw [List.getElem?_map, Ms.figs_get (by omega)] at hy
      obtain rfl := Option.some.inj hy
      have tA1 := tA.same S1
      have pb := Ms.place_by (s := s0) (P := Ms.plI s0 row) (by omega) (row.length - 1 - i)
      rw [show row.length - 1 - i + 1 = row.length - i by omega] at pb
      have fp : Fits (Ms.plI s0 row) := (Ms.fits_pow (s := s0) (by omega) hf.2.1 (n := row.length) (by omega)).of_le (by
        have a := Ms.plI_lt (s := s0) (r := row) (by omega)
        have b := Ms.plI_nn (s := s0) (r := row)
        omega)
      walk_at "md"
      refine rd_I ⟨fp.of_le ?_, Fits.small (by omega) (by omega)⟩ ?_
      · have b := Ms.plI_nn (s := s0) (r := row)
        have c := Ms.pow_pos' (s := s0) (by omega) (row.length - i)
        have d := Int.ediv_le_self (s0 ^ (row.length - i)) b
        have e := Int.ediv_nonneg b (Int.le_of_lt c)
        omega
      walk_at "md"
      refine ⟨rfl, some (.int (Ms.figI s0 (Ms.plI s0 row) (row.length - 1 - i))), ?_⟩
      rw [← show row.length - 1 - i = row.length - (i + 1) by omega, ← pb]
      rfl
    · obtain ⟨rfl, m, rfl⟩ := hP
      rw [List.length_map, Ms.figs_len, Nat.sub_self, Int.pow_zero, Int.ediv_one]
      walk_at "md"
      exact q _ S1
theorem ok_Turning_check_turn {C f : Addr} {fd : FuncData} (T : TB mg) (T2 : TB2 mg) (TC : CT K C)  
    (F : Fun K "check_turn" "Turning.check_turn" s_Turning_check_turn f fd) : FnOk P w K mg base CX0 1 f fd ["self", "change"] (spTurnOkT K C) := by
  have nd := sc_Turning_check_turn.nd
  obtain ⟨tL, eL⟩ := T2.longest
  refine F.ok sc_Turning_check_turn (fun vs H Q E h => ?_) (fun cdv A outer s H vs Q E hr h => ?_)
  · obtain ⟨p, t, s0, n, j, rfl, _⟩ := h
    rfl
  · obtain ⟨p, t, s0, n, j, rfl, tA, ht, j0, j1, q⟩ := h
    refine ⟨_, (pss_cons (ps_if (pt_cmpR op_ne (pe_ix ix_tup (pv 1) pe_int (fun _ _ => rfl)) pe_str (nomark _)) (pss_one ps_never) pss_nil)
      (pss_one (ps_if (PW.pt (pw_or (pt_cmpR op_lt (pe_ix ix_tup (pv 1) pe_int (fun _ _ => rfl)) pe_int (nomark _)) (pw_or1 (pt_cmpR op_ge (pe_ix ix_tup (pv 1) pe_int (fun _ _ => rfl)) (pe_fld (pv 0) rfl) (nomark _))))) (pss_one ps_never) pss_nil))), ?_⟩
    have hf := tA.1
    walk_at "md"
    refine ⟨t, _, _, _, rfl, rfl, ht, rfl, ?_⟩
    walk_at "md"
    refine ⟨rfl, _, rfl, ?_⟩
    refine rd_ND (fun c => absurd rfl c) (fun _ => ?_)
    walk_at "md"
    refine ⟨t, _, _, _, rfl, rfl, ht, rfl, ?_⟩
    walk_at "md"
    refine rd_D (fun c => absurd c (by omega)) (fun c => ?_)
    walk_at "md"
    refine ⟨t, _, _, _, rfl, rfl, ht, rfl, ?_⟩
    walk_at "md"
    refine rd_D (fun c => absurd c (by omega)) (fun c => ?_)
    walk_at "md"
    exact q
theorem fn_choose {f : Addr} {fd : FuncData} (T : TB mg)  
    (F : Fun K "choose" "choose" s_choose f fd) (g : mg "choose" = some (.ref f)) (b : Binds K fd ["length", "ones"] []) : Fn P w K mg base 1 "choose" ["length", "ones"] spChooseP := by
  have nd := sc_choose.nd
  refine ⟨f, fd, g, F.kp, F.ok sc_choose (fun vs H Q E h => ?_) (fun cdv A outer s H vs Q E hr h => ?_), b⟩
  · obtain ⟨l, o, rfl, _⟩ := h
    rfl
  · obtain ⟨l, o, rfl, h0, h1, q⟩ := h
    refine ⟨_, (pss_cons (ps_if (PW.pt (pw_or (pt_cmpR op_lt (pv 1) pe_int (nomark _)) (pw_or1 (pt_cmpR op_gt (pv 1) (pv 0) (nomark _))))) (pss_one (ps_ret pe_int)) pss_nil)
      (pss_cons (ps_set (i := 2) nd rfl (Or.inl rfl) pe_int)
      (pss_cons (ps_for PassesOwn.never rfl (pi_range1 (by rfl) T.n_range (pa_cons (pe_callB (call_min2 rfl) (by rfl) T.n_min bt_min (pa_cons (pv 1) (pa_cons (pe_op op_sub (pv 0) (pv 1)) pa_nil))) pa_nil)) (pg_name (i := 3) nd rfl (Or.inl rfl)) (pss_one (ps_set (i := 2) nd rfl (Or.inl rfl) (pe_op op_fdiv (pe_op op_mul (pv 2) (pe_op op_sub (pv 0) (pv 3))) (pe_op op_add (pv 3) pe_int)))))
      (pss_one (ps_ret (pv 2)))))), ?_⟩
    walk_at "rd"
    refine rd_D (fun c => ?_) (fun c => ?_)
    · walk_at "rd"
      rw [Ms.cho_out (by omega)] at q
      exact q
    walk_at "rd"
    refine rd_D (fun c2 => ?_) (fun c2 => ?_)
    · walk_at "rd"
      rw [Ms.cho_out (by omega)] at q
      exact q
    walk_at "rd"
    refine ⟨_, _, rfl, ?_⟩
    walk_at "rd"
    generalize hm : (if l - o < o then l - o else o) = m
    have hm' : m = o ∨ m = l - o := by
      rw [← hm]
      split
      · exact .inr rfl
      · exact .inl rfl
    have hb : m ≤ o ∧ m ≤ l - o := by
      rw [← hm]
      split <;> omega
    refine ⟨_, rfl, by omega, by omega, for_rng (n := m.toNat) (fun i σ' H' => H' = H ∧ ∃ g : Option V, σ' = [some (.int l), some (.int o), some (.int (Ms.cho l (i : Int))), g]) ⟨rfl, none, ?_⟩ (fun i σ' H' hi hP => ?_) fun σ' H' hP => ?_⟩
    · show _ = [some (V.int l), some (V.int o), some (V.int (Ms.cho l ((0 : Nat) : Int))), none]
      rw [show ((0 : Nat) : Int) = 0 from rfl, Ms.cho_zero h0]
      rfl
    · obtain ⟨rfl, g, rfl⟩ := hP
      walk_at "rd"
      refine ⟨rfl, some (.int (0 + (i : Int))), ?_⟩
      have e : Ms.cho l (i : Int) * (l - (0 + (i : Int))) / (0 + (i : Int) + 1) = Ms.cho l ((i + 1 : Nat) : Int) := by
        have t := Ms.cho_turn (l := l) (g := i) (by omega)
        rw [Int.fdiv_eq_ediv_of_nonneg _ (by omega)] at t
        rw [Int.zero_add, t]
        rfl
      show [some (V.int l), some (V.int o), some (V.int _), some (V.int _)] = _
      rw [e]
    · obtain ⟨rfl, g, rfl⟩ := hP
      walk_at "rd"
      have e : Ms.cho l ((m.toNat : Nat) : Int) = Ms.cho l o := by
        rw [show ((m.toNat : Nat) : Int) = m by omega]
        rcases hm' with z | z
        · rw [z]
        · rw [z, ← Ms.cho_symm (by omega) (by omega)]
      rw [e]
      exact q
theorem ok_Listing___initC {C f : Addr} {fd : FuncData} (T : TB mg) (T2 : TB2 mg) (TC : CC K C)  
    (F : Fun K "__init__" "Listing.__init__" s_Listing___init f fd) : FnOk P w K mg base CX0 1 f fd ["self", "size"] (spBaseInit C) := by
  have nd := sc_Listing___init.nd
  obtain ⟨tL, eL⟩ := T2.longest
  refine F.ok sc_Listing___init (fun vs H Q E h => ?_) (fun cdv A outer s H vs Q E hr h => ?_)
  · obtain ⟨x, dx, z, fs, rfl, _⟩ := h
    rfl
  · obtain ⟨x, dx, z, fs, rfl, hx, hl, q⟩ := h
    refine ⟨_, (pss_one (ps_fld (pv 0) (pv 1) rfl)), ?_⟩
    walk_at "md"
    exact ⟨x, C, dx, fs, rfl, hx, TC.cl, TC.size, hl, q⟩
theorem ok_Listing_manyC {C f : Addr} {fd : FuncData} (T : TB mg) (T2 : TB2 mg) (TC : CC K C)  
    (F : Fun K "many" "Listing.many" s_Listing_many f fd) : FnOk P w K mg base CX0 1 f fd ["self"] (spManyC (CAt C)) := by
  have nd := sc_Listing_many.nd
  obtain ⟨tL, eL⟩ := T2.longest
  refine F.ok sc_Listing_many (fun vs H Q E h => ?_) (fun cdv A outer s H vs Q E hr h => ?_)
  · obtain ⟨p, n, k, rfl, _⟩ := h
    rfl
  · obtain ⟨p, n, k, rfl, tA, q⟩ := h
    refine ⟨_, (pss_one (ps_ret (pe_fld (pv 0) rfl))), ?_⟩
    walk_at "mc"
    exact q _ (Same.refl H)
theorem ok_Listing_check_placeC {C f : Addr} {fd : FuncData} (T : TB mg) (T2 : TB2 mg) (TC : CC K C)  
    (F : Fun K "check_place" "Listing.check_place" s_Listing_check_place f fd) : FnOk P w K mg base CX0 1 f fd ["self", "place"] (spPlaceOkC C) := by
  have nd := sc_Listing_check_place.nd
  obtain ⟨tL, eL⟩ := T2.longest
  refine F.ok sc_Listing_check_place (fun vs H Q E h => ?_) (fun cdv A outer s H vs Q E hr h => ?_)
  · obtain ⟨p, i, n, k, rfl, _⟩ := h
    rfl
  · obtain ⟨p, i, n, k, rfl, tA, h0, h1, q⟩ := h
    refine ⟨_, (pss_one (ps_if (PW.pt (pw_or (pt_cmpR op_lt (pv 1) pe_int (nomark _)) (pw_or1 (pt_cmpR op_ge (pv 1) (pe_fld (pv 0) rfl) (nomark _))))) (pss_one ps_never) pss_nil)), ?_⟩
    walk_at "mc"
    refine rd_D (fun c => absurd c (by omega)) (fun c => ?_)
    walk_at "mc"
    refine rd_D (fun c => absurd c (by omega)) (fun c => ?_)
    walk_at "mc"
    exact q
theorem ok_Choosing___init {C f : Addr} {fd : FuncData} (T : TB mg) (T2 : TB2 mg) (TC : CC K C)  (D_choose : Fn P w K mg base 1 "choose" ["length", "ones"] spChooseP) (B_Listing___init : Base P w K mg base 1 "Listing" "__init__" (spBaseInit C))
    (F : Fun K "__init__" "Choosing.__init__" s_Choosing___init f fd) : FnOk P w K mg base CX0 2 f fd ["self", "length", "ones"] (spInitC C (CAt C)) := by
  have nd := sc_Choosing___init.nd
  obtain ⟨tL, eL⟩ := T2.longest
  refine F.ok sc_Choosing___init (fun vs H Q E h => ?_) (fun cdv A outer s H vs Q E hr h => ?_)
  · obtain ⟨x, dx, n, k, rfl, _⟩ := h
    rfl
  · obtain ⟨x, dx, n, k, rfl, hx, h0, h1, h2, h3, q⟩ := h
    refine ⟨_, (pss_cons (ps_if (PW.pt (pw_or (pt_cmpR op_lt (pv 1) pe_int (nomark _)) (pw_or1 (pt_cmpR op_gt (pv 1) (pe_glob (v := .int 200) (by rfl) eL ⟨_, rfl⟩) (nomark _))))) (pss_one ps_never) pss_nil)
      (pss_cons (ps_if (PW.pt (pw_or (pt_cmpR op_lt (pv 2) pe_int (nomark _)) (pw_or1 (pt_cmpR op_gt (pv 2) (pv 1) (nomark _))))) (pss_one ps_never) pss_nil)
      (pss_cons (ps_expr (pe_base B_Listing___init (hr.mono (by decide)) (by rfl) (pa_cons (pv 0) (pa_cons (pe_fn D_choose (hr.mono (by decide)) (by rfl) (pa_cons (pv 1) (pa_cons (pv 2) pa_nil))) pa_nil))))
      (pss_cons (ps_fld (pv 0) (pv 1) rfl)
      (pss_one (ps_fld (pv 0) (pv 2) rfl)))))), ?_⟩
    walk_at "mc"
    refine rd_D (fun c => absurd c (by omega)) (fun c => ?_)
    walk_at "mc"
    refine rd_D (fun c => absurd c (by omega)) (fun c => ?_)
    walk_at "mc"
    refine rd_D (fun c => absurd c (by omega)) (fun c => ?_)
    walk_at "mc"
    refine rd_D (fun c => absurd c (by omega)) (fun c => ?_)
    walk_at "mc"
    refine ⟨n, k, rfl, by omega, by omega, ?_⟩
    walk_at "mc"
    refine ⟨x, dx, _, [], rfl, hx, by decide, ?_⟩
    walk_at "mc"
    refine ⟨x, C, dx, _, rfl, upd_same, TC.cl, TC.length, by show 1 < 1000; decide, ?_⟩
    walk_at "mc"
    refine ⟨x, C, dx, _, rfl, upd_same, TC.cl, TC.ones, Nat.lt_of_le_of_lt (length_putF _ _ _) (by show 1 + 1 < 1000; decide), ?_⟩
    walk_at "mc"
    refine q _ (fun b o e hb => ?_) ⟨⟨h0, h1, h2, h3⟩, dx, upd_same⟩
    rw [upd_ne hb, upd_ne hb, upd_ne hb]
    exact e
theorem ok_Choosing_row_at {C f : Addr} {fd : FuncData} (T : TB mg) (T2 : TB2 mg) (TC : CC K C)  (M_check_place : Mt P w K mg base C 1 "check_place" [] (spPlaceOkC C))
    (F : Fun K "row_at" "Choosing.row_at" s_Choosing_row_at f fd) : FnOk P w K mg base CX0 2 f fd ["self", "place"] (spRowAtC (CAt C)) := by
  have nd := sc_Choosing_row_at.nd
  obtain ⟨tL, eL⟩ := T2.longest
  refine F.ok sc_Choosing_row_at (fun vs H Q E h => ?_) (fun cdv A outer s H vs Q E hr h => ?_)
  · obtain ⟨p, k, n, j, rfl, _⟩ := h
    rfl
  · obtain ⟨p, k, n, j, rfl, tA, h0, h1, q⟩ := h
    refine ⟨_, (pss_cons (ps_expr (pe_mt (pv 0) M_check_place (hr.mono (by decide)) (pa_cons (pv 1) pa_nil)))
      (pss_cons (ps_set (i := 2) nd rfl (Or.inl rfl) (pe_op op_rep (pe_lst (pa_cons pe_int pa_nil)) (pe_fld (pv 0) rfl)))
      (pss_cons (ps_set (i := 3) nd rfl (Or.inl rfl) (pe_fld (pv 0) rfl))
      (pss_cons (ps_set (i := 4) nd rfl (Or.inl rfl) (pe_fld (pv 0) rfl))
      (pss_cons (ps_set (i := 5) nd rfl (Or.inl rfl) (pv 1))
      (pss_cons (ps_for PassesOwn.never rfl (pi_rangeD (by rfl) T.n_range (pa_cons (pe_fld (pv 0) rfl) (pa_cons pe_int (pa_cons (pe_un un_neg pe_int) pa_nil)))) (pg_name (i := 6) nd rfl (Or.inl rfl)) (pss_cons (ps_set (i := 7) nd rfl (Or.inl rfl) (pe_op op_fdiv (pe_op op_mul (pv 3) (pe_op op_sub (pv 6) (pv 4))) (pv 6)))
      (pss_one (ps_if (pt_cmpR op_lt (pv 5) (pv 7) (nomark _)) (pss_one (ps_set (i := 3) nd rfl (Or.inl rfl) (pv 7))) (pss_cons (ps_asg pe_int (pg_sub (pv 2) (pe_op op_sub (pv 6) pe_int) set_list))
      (pss_cons (ps_set (i := 5) nd rfl (Or.inl rfl) (pe_op op_sub (pe_op op_sub (pv 3) pe_int) (pv 5)))
      (pss_cons (ps_set (i := 3) nd rfl (Or.inl rfl) (pe_op op_sub (pv 3) (pv 7)))
      (pss_one (ps_set (i := 4) nd rfl (Or.inl rfl) (pe_op op_sub (pv 4) pe_int))))))))))
      (pss_one (ps_ret (pv 2))))))))), ?_⟩
    have hf := tA.1
    walk_at "mc"
    refine ⟨p, k, n, j, rfl, tA, h0, h1, ?_⟩
    walk_at "mc"
    refine ⟨by show 1 ≤ sizeLine; decide, fun l0 n0 => ?_⟩
    have tA1 := tA.upd (o := .lst [.int 0]) n0
    walk_at "mc"
    refine ⟨l0, n, _, rfl, rfl, upd_same, by omega, by omega, Nat.le_of_lt (small' (by simp; omega)), fun l nl => ?_⟩
    have tA2 := tA1.upd (o := .lst (List.replicate n.toNat [V.int 0]).flatten) nl
    have S0 := ((Same.refl H).fresh (o := .lst [.int 0]) n0).trans ((Same.refl _).fresh (o := .lst (List.replicate n.toNat [V.int 0]).flatten) nl)
    have hl0 : (upd (upd H l0 (.lst [.int 0])) l (.lst (List.replicate n.toNat [V.int 0]).flatten)) l = some (.lst ((List.replicate n.toNat (0 : Int)).map V.int)) := by
      rw [upd_same, rep_one, List.map_replicate]
    have nl' : H l = none := ((Same.refl H).fresh (o := .lst [.int 0]) n0).free nl
    generalize upd (upd H l0 (.lst [.int 0])) l (.lst (List.replicate n.toNat [V.int 0]).flatten) = H2 at *
    walk_at "mc"
    refine ⟨n, 0, rfl, ⟨by omega, by omega, by omega, by omega⟩, ?_⟩
    rw [Int.sub_zero]
    refine for_rngD (n := n.toNat) (fun i σ' H' => Same H H' ∧ ∃ (row : List Int) (rows o q' : Int) (le wi : Option V), H' l = some (.lst (row.map V.int)) ∧ Ms.AtC n j k i row rows o q' ∧ σ' = [some (.ref p), some (.int k), some (.ref l), some (.int rows), some (.int o), some (.int q'), le, wi])
      ⟨S0, _, _, _, _, none, none, hl0, Ms.AtC.start hf.2.2.1 hf.2.2.2 h0 h1, rfl⟩ (fun i σ' H' hi hP => ?_) fun σ' H' hP => ?_
    · obtain ⟨S, row, rows, o, q', le, wi, hl, A, rfl⟩ := hP
      have a0 := A.o0
      have a1 := A.o1
      have al := A.len
      have hd := Ms.cho_down A.o0 A.o1 (by omega)
      rw [← A.hr] at hd
      walk_at "mc"
      rw [hd]
      refine rd_D (fun c => ?_) (fun c => ?_)
      · walk_at "mc"
        exact ⟨S, row, _, _, _, _, _, hl, A.low (by omega) c, rfl⟩
      · walk_at "mc"
        refine ⟨l, _, n - (i : Int) - 1, (n - (i : Int) - 1).toNat, rfl, rfl, hl, ixN_of (by omega) (by rw [List.length_map]; omega), ?_⟩
        walk_at "mc"
        refine ⟨S.fresh nl', _, _, _, _, _, _, ?_, A.high (by omega) c, rfl⟩
        rw [upd_same, List.map_set]
    · obtain ⟨S, row, rows, o, q', le, wi, hl, A, rfl⟩ := hP
      walk_at "mc"
      rw [A.fin hf.1] at hl
      exact q l _ S nl' hl
theorem ok_Choosing_check_row {C f : Addr} {fd : FuncData} (T : TB mg) (T2 : TB2 mg) (TC : CC K C)  
    (F : Fun K "check_row" "Choosing.check_row" s_Choosing_check_row f fd) : FnOk P w K mg base CX0 1 f fd ["self", "row"] (spRowOkC K C) := by
  have nd := sc_Choosing_check_row.nd
  obtain ⟨tL, eL⟩ := T2.longest
  refine F.ok sc_Choosing_check_row (fun vs H Q E h => ?_) (fun cdv A outer s H vs Q E hr h => ?_)
  · obtain ⟨p, r, n, k, row, rfl, _⟩ := h
    rfl
  · obtain ⟨p, r, n, k, row, rfl, tA, hR, q⟩ := h
    refine ⟨_, (pss_cons (ps_if (pt_cmpR op_ne (pe_callB call_len_seq (by rfl) T.n_len bt_len (pa_cons (pv 1) pa_nil)) (pe_fld (pv 0) rfl) (nomark _)) (pss_one ps_never) pss_nil)
      (pss_cons (ps_for PassesOwn.never rfl (pi_list (pv 1)) (pg_name (i := 2) nd rfl (Or.inl rfl)) (pss_one (ps_if (PW.pt (pw_and (pt_cmpR op_ne (pv 2) pe_int (nomark _)) (pw_and1 (pt_cmpR op_ne (pv 2) pe_int (nomark _))))) (pss_one ps_never) pss_nil)))
      (pss_one (ps_if (pt_cmpR op_ne (pe_callB (call_sum_int rfl) (by rfl) T.n_sum bt_sum (pa_cons (pv 1) pa_nil)) (pe_fld (pv 0) rfl) (nomark _)) (pss_one ps_never) pss_nil)))), ?_⟩
    have hf := tA.1
    obtain ⟨hr', hl, hb, hs⟩ := hR
    walk_at "mc"
    refine ⟨_, _, rfl, .inl hr', ?_⟩
    walk_at "mc"
    rw [List.length_map]
    refine rd_ND (fun c => absurd hl c) (fun _ => ?_)
    walk_at "mc"
    refine ⟨r, rfl, ⟨_, hr'⟩, for_lst (K := K) (xs := row.map V.int) (fun i σ' H' => H' = H ∧ ∃ m : Option V, σ' = [some (.ref p), some (.ref r), m]) ⟨rfl, none, rfl⟩ (fun i σ' H' _ hP => by obtain ⟨rfl, _⟩ := hP; exact hr') (fun i y σ' H' hy hP => ?_) fun σ' H' hP => ?_⟩
    · obtain ⟨rfl, m, rfl⟩ := hP
      obtain ⟨z, hz, rfl⟩ : ∃ z, z ∈ row ∧ y = V.int z := by
        rw [List.getElem?_map] at hy
        cases e : row[i]? with
        | none => rw [e] at hy; cases hy
        | some z => rw [e] at hy; exact ⟨z, List.mem_of_getElem? e, (Option.some.inj hy).symm⟩
      have hz' := hb z hz
      walk_at "mc"
      refine rd_ND (fun c => ?_) (fun c => ?_)
      · walk_at "mc"
        refine rd_ND (fun c2 => absurd c2 (by omega)) (fun c2 => ?_)
        walk_at "mc"
        exact ⟨rfl, _, rfl⟩
      · walk_at "mc"
        exact ⟨rfl, _, rfl⟩
    · obtain ⟨rfl, m, rfl⟩ := hP
      walk_at "mc"
      refine ⟨r, row, rfl, hr', ?_⟩
      walk_at "mc"
      refine rd_ND (fun c => absurd hs c) (fun _ => ?_)
      walk_at "mc"
      exact q
theorem ok_Choosing_place_of {C f : Addr} {fd : FuncData} (T : TB mg) (T2 : TB2 mg) (TC : CC K C)  (M_check_row : Mt P w K mg base C 1 "check_row" [] (spRowOkC K C))
    (F : Fun K "place_of" "Choosing.place_of" s_Choosing_place_of f fd) : FnOk P w K mg base CX0 2 f fd ["self", "row"] (spPlaceOfC K (CAt C)) := by
  have nd := sc_Choosing_place_of.nd
  obtain ⟨tL, eL⟩ := T2.longest
  refine F.ok sc_Choosing_place_of (fun vs H Q E h => ?_) (fun cdv A outer s H vs Q E hr h => ?_)
  · obtain ⟨p, r, n, k, row, rfl, _⟩ := h
    rfl
  · obtain ⟨p, r, n, k, row, rfl, tA, hR, q⟩ := h
    refine ⟨_, (pss_cons (ps_expr (pe_mt (pv 0) M_check_row (hr.mono (by decide)) (pa_cons (pv 1) pa_nil)))
      (pss_cons (ps_set (i := 2) nd rfl (Or.inl rfl) pe_int)
      (pss_cons (ps_set (i := 3) nd rfl (Or.inl rfl) pe_int)
      (pss_cons (ps_set (i := 4) nd rfl (Or.inl rfl) pe_int)
      (pss_cons (ps_for PassesOwn.never rfl (pi_enum (by rfl) T2.n_enumerate (pa_cons (pv 1) (pa_cons pe_int pa_nil))) (pg_tup rfl (pgs_cons (pg_name (i := 5) nd rfl (Or.inl rfl)) (pgs_cons (pg_name (i := 6) nd rfl (Or.inl rfl)) pgs_nil))) (pss_one (ps_if (pt_cmpR op_eq (pv 6) pe_int (nomark _)) (pss_one (ps_set (i := 3) nd rfl (Or.inl rfl) (pe_op op_fdiv (pe_op op_mul (pv 3) (pv 5)) (pe_op op_sub (pv 5) (pv 4))))) (pss_cons (ps_set (i := 4) nd rfl (Or.inl rfl) (pe_op op_add (pv 4) pe_int))
      (pss_cons (ps_set (i := 3) nd rfl (Or.inl rfl) (pe_op op_fdiv (pe_op op_mul (pv 3) (pv 5)) (pv 4)))
      (pss_one (ps_set (i := 2) nd rfl (Or.inl rfl) (pe_op op_sub (pe_op op_sub (pv 3) pe_int) (pv 2)))))))))
      (pss_one (ps_ret (pv 2)))))))), ?_⟩
    have hf := tA.1
    walk_at "mc"
    refine ⟨p, r, n, k, row, rfl, tA, hR, ?_⟩
    obtain ⟨hr', hl, hb, hs⟩ := hR
    walk_at "mc"
    refine ⟨r, _, rfl, hr', for_enum (K := K) (fun i σ' H' => Same H H' ∧ ∃ (rows o q' : Int) (le ma : Option V), Ms.OfC row i rows o q' ∧ σ' = [some (.ref p), some (.ref r), some (.int q'), some (.int rows), some (.int o), le, ma])
      ⟨Same.refl H, _, _, _, none, none, Ms.OfC.start row, rfl⟩ (fun i σ' H' _ hP => hP.1.seq hr') (fun i y t σ' H' hi hy nt hP => ?_) fun σ' H' hP => ?_⟩
    · obtain ⟨S, rows, o, q', le, ma, A, rfl⟩ := hP
      rw [List.length_map] at hi
      obtain ⟨z, hz, rfl⟩ : ∃ z, row[i]? = some z ∧ y = V.int z := by
        rw [List.getElem?_map] at hy
        cases e : row[i]? with
        | none => rw [e] at hy; cases hy
        | some z => rw [e] at hy; exact ⟨z, rfl, (Option.some.inj hy).symm⟩
      have hz' := hb z (List.mem_of_getElem? hz)
      refine ⟨t, _, rfl, SqT.of upd_same, rfl, _, _, rfl, _, _, rfl, rfl, ?_⟩
      walk_at "mc"
      have S2 := S.trans ((Same.refl _).fresh (o := .tup [.int ((i : Int) + 1), .int z]) nt)
      refine rd_D (fun c => ?_) (fun c => ?_)
      · subst c
        obtain ⟨u1, u2, u3⟩ := A.zero hb hz
        walk_at "mc"
        exact ⟨S2, _, _, _, _, _, u3, rfl⟩
      · obtain rfl : z = 1 := by omega
        obtain ⟨u0, u1, u2⟩ := A.one hb hz
        walk_at "mc"
        exact ⟨S2, _, _, _, _, _, u2, rfl⟩
    · obtain ⟨S, rows, o, q', le, ma, A, rfl⟩ := hP
      rw [List.length_map] at A
      walk_at "mc"
      rw [A.fin]
      exact q _ S
theorem ok_Choosing_check_spots {C f : Addr} {fd : FuncData} (T : TB mg) (T2 : TB2 mg) (TC : CC K C)  
    (F : Fun K "check_spots" "Choosing.check_spots" s_Choosing_check_spots f fd) : FnOk P w K mg base CX0 1 f fd ["self", "row", "out", "into"] (spSpotsOkC K C) := by
  have nd := sc_Choosing_check_spots.nd
  obtain ⟨tL, eL⟩ := T2.longest
  refine F.ok sc_Choosing_check_spots (fun vs H Q E h => ?_) (fun cdv A outer s H vs Q E hr h => ?_)
  · obtain ⟨p, r, n, k, o, i, row, rfl, _⟩ := h
    rfl
  · obtain ⟨p, r, n, k, o, i, row, rfl, tA, hR, ho, hi, q⟩ := h
    refine ⟨_, (pss_cons (ps_for PassesOwn.never rfl (pi_tup (pe_tup (pa_cons (pv 2) (pa_cons (pv 3) pa_nil)))) (pg_name (i := 4) nd rfl (Or.inl rfl)) (pss_one (ps_if (PW.pt (pw_or (pt_cmpR op_lt (pv 4) pe_int (nomark _)) (pw_or1 (pt_cmpR op_ge (pv 4) (pe_fld (pv 0) rfl) (nomark _))))) (pss_one ps_never) pss_nil)))
      (pss_one (ps_if (PW.pt (pw_or (pt_cmpR op_ne (pe_ix ix_list (pv 1) (pv 2) (fun _ _ => rfl)) pe_int (nomark _)) (pw_or1 (pt_cmpR op_ne (pe_ix ix_list (pv 1) (pv 3) (fun _ _ => rfl)) pe_int (nomark _))))) (pss_one ps_never) pss_nil))), ?_⟩
    have hf := tA.1
    obtain ⟨hr', hl, hb, hs⟩ := hR
    have lo : o < row.length := (List.getElem?_eq_some_iff.mp ho).1
    have li : i < row.length := (List.getElem?_eq_some_iff.mp hi).1
    walk_at "mc"
    refine ⟨by show 2 ≤ sizeLine; decide, fun t nt => ?_⟩
    have S1 := (Same.refl H).fresh (o := .tup [.int o, .int i]) nt
    have ht : (upd H t (.tup [V.int o, V.int i])) t = some (.tup [V.int o, V.int i]) := upd_same
    generalize upd H t (.tup [V.int o, V.int i]) = H1 at *
    have tA1 := tA.same S1
    refine ⟨t, rfl, ⟨_, SqT.of ht⟩, for_tpl (K := K) (xs := [V.int o, V.int i]) (fun j σ' H' => H' = H1 ∧ ∃ m : Option V, σ' = [some (.ref p), some (.ref r), some (.int o), some (.int i), m]) ⟨rfl, none, rfl⟩ (fun j σ' H' _ hP => by obtain ⟨rfl, _⟩ := hP; exact SqT.of ht) (fun j y σ' H' hy hP => ?_) fun σ' H' hP => ?_⟩
    · obtain ⟨rfl, m, rfl⟩ := hP
      obtain ⟨z, z0, z1, rfl⟩ : ∃ z : Int, 0 ≤ z ∧ z < n ∧ y = V.int z := by
        match j, hy with
        | 0, hy => exact ⟨o, by omega, by omega, (Option.some.inj hy).symm⟩
        | 1, hy => exact ⟨i, by omega, by omega, (Option.some.inj hy).symm⟩
      walk_at "mc"
      refine rd_D (fun c => absurd c (by omega)) (fun c => ?_)
      walk_at "mc"
      refine rd_D (fun c => absurd c (by omega)) (fun c => ?_)
      walk_at "mc"
      exact ⟨rfl, _, rfl⟩
    · obtain ⟨rfl, m, rfl⟩ := hP
      walk_at "mc"
      refine ⟨r, _, _, _, rfl, rfl, S1.seq hr', atI_nat (by rw [List.getElem?_map, ho]; rfl), ?_⟩
      walk_at "mc"
      refine rd_ND (fun c => absurd rfl c) (fun _ => ?_)
      walk_at "mc"
      refine ⟨r, _, _, _, rfl, rfl, S1.seq hr', atI_nat (by rw [List.getElem?_map, hi]; rfl), ?_⟩
      walk_at "mc"
      refine rd_ND (fun c => absurd rfl c) (fun _ => ?_)
      walk_at "mc"
      exact q _ S1
theorem ok_Choosing_swapped {C f : Addr} {fd : FuncData} (T : TB mg) (T2 : TB2 mg) (TC : CC K C)  (M_check_row : Mt P w K mg base C 1 "check_row" [] (spRowOkC K C)) (M_check_spots : Mt P w K mg base C 1 "check_spots" [] (spSpotsOkC K C))
    (F : Fun K "swapped" "Choosing.swapped" s_Choosing_swapped f fd) : FnOk P w K mg base CX0 2 f fd ["self", "row", "change", "back"] (spSwappedC K C) := by
  have nd := sc_Choosing_swapped.nd
  obtain ⟨tL, eL⟩ := T2.longest
  refine F.ok sc_Choosing_swapped (fun vs H Q E h => ?_) (fun cdv A outer s H vs Q E hr h => ?_)
  · obtain ⟨p, r, c, back, n, k, row, made, rfl, _⟩ := h
    rfl
  · obtain ⟨p, r, c, back, n, k, row, made, rfl, tA, hR, hc, q⟩ := h
    refine ⟨_, (pss_cons (ps_expr (pe_mt (pv 0) M_check_row (hr.mono (by decide)) (pa_cons (pv 1) pa_nil)))
      (pss_cons (ps_set (i := 4) nd rfl (Or.inl rfl) (pe_callTy call_list_of (by rfl) T.n_list bt_list (pa_cons (pv 1) pa_nil)))
      (pss_cons (ps_if (pt_cmpR op_notN (pv 2) pe_non (nomark _)) (pss_cons (ps_if (pt_cmpR op_ne (pe_ix ix_tup (pv 2) pe_int (fun _ _ => rfl)) pe_str (nomark _)) (pss_one ps_never) pss_nil)
      (pss_cons (ps_set (i := 5) nd rfl (Or.inl rfl) (pe_ifExp (pt_val (pv 3)) (pe_ix ix_tup (pv 2) pe_int (fun _ _ => rfl)) (pe_ix ix_tup (pv 2) pe_int (fun _ _ => rfl))))
      (pss_cons (ps_set (i := 6) nd rfl (Or.inl rfl) (pe_ifExp (pt_val (pv 3)) (pe_ix ix_tup (pv 2) pe_int (fun _ _ => rfl)) (pe_ix ix_tup (pv 2) pe_int (fun _ _ => rfl))))
      (pss_cons (ps_expr (pe_mt (pv 0) M_check_spots (hr.mono (by decide)) (pa_cons (pv 1) (pa_cons (pv 5) (pa_cons (pv 6) pa_nil)))))
      (pss_cons (ps_asg pe_int (pg_sub (pv 4) (pv 5) set_list))
      (pss_one (ps_asg pe_int (pg_sub (pv 4) (pv 6) set_list)))))))) pss_nil)
      (pss_one (ps_ret (pv 4)))))), ?_⟩
    have hf := tA.1
    walk_at "mc"
    refine ⟨p, r, n, k, row, rfl, tA, hR, ?_⟩
    obtain ⟨hr', hl, hb, hs⟩ := hR
    walk_at "mc"
    refine ⟨r, _, rfl, .inl hr', fun lm nm => ?_⟩
    have S1 := (Same.refl H).fresh (o := .lst (row.map V.int)) nm
    have hm1 : (upd H lm (.lst (row.map V.int))) lm = some (.lst (row.map V.int)) := upd_same
    generalize upd H lm (.lst (row.map V.int)) = H1 at *
    have tA1 := tA.same S1
    walk_at "mc"
    refine ⟨rfl, ?_⟩
    walk_at "mc"
    rcases hc with ⟨rfl, rfl⟩ | ⟨t, o, i, rfl, ht, hsw⟩
    · refine rd_ND (fun c => absurd rfl c) (fun _ => ?_)
      walk_at "mc"
      exact q lm _ S1 nm hm1
    refine rd_ND (fun _ => ?_) (fun c => absurd c (by intro z; cases z))
    have ht1 := S1.tpl ht
    walk_at "mc"
    refine ⟨t, _, _, _, rfl, rfl, ht1, rfl, ?_⟩
    walk_at "mc"
    refine ⟨rfl, _, rfl, ?_⟩
    refine rd_ND (fun c => absurd rfl c) (fun _ => ?_)
    walk_at "mc"
    have fin : ∀ (a b : Nat) (made : List Int), Ms.SwI row made a b → (∀ (l : Addr) (H' : Hp), Same H H' → H l = none → H' l = some (.lst (made.map V.int)) → Q (.ref l) H') → ∀ H2 : Hp, Same H1 H2 → upd (upd H2 lm (.lst ((row.map V.int).set a (.int 0)))) lm (.lst (((row.map V.int).set a (.int 0)).set b (.int 1))) lm = some (.lst (made.map V.int)) := fun a b made sw _ H2 _ => by
      rw [upd_same, sw.eq, Ms.swapI, List.map_set, List.map_set]
      rfl
    cases back with
    | false =>
      have sw : Ms.SwI row made o i := hsw
      refine rd_F rfl ?_
      walk_at "mc"
      refine ⟨t, _, _, _, rfl, rfl, ht1, rfl, ?_⟩
      walk_at "mc"
      refine ⟨t, _, _, _, rfl, rfl, ht1, rfl, ?_⟩
      walk_at "mc"
      refine ⟨p, r, n, k, o, i, row, rfl, tA1, ⟨S1.seq hr', hl, hb, hs⟩, sw.one, sw.nought, fun H2 S2 => ?_⟩
      walk_at "mc"
      refine ⟨lm, _, o, o, rfl, rfl, S2 _ _ hm1, ixN_of (by omega) (by rw [List.length_map]; have := sw.lt; omega), ?_⟩
      walk_at "mc"
      refine ⟨lm, _, i, i, rfl, rfl, upd_same, ixN_of (by omega) (by rw [List.length_set, List.length_map]; have := sw.lt; omega), ?_⟩
      walk_at "mc"
      exact q lm _ (((S1.trans S2).fresh nm).fresh nm) nm (fin o i made sw q H2 S2)
    | true =>
      have sw : Ms.SwI row made i o := Ms.SwI.symm (show Ms.SwI made row o i from hsw)
      refine rd_T rfl ?_
      walk_at "mc"
      refine ⟨t, _, _, _, rfl, rfl, ht1, rfl, ?_⟩
      walk_at "mc"
      refine ⟨t, _, _, _, rfl, rfl, ht1, rfl, ?_⟩
      walk_at "mc"
      refine ⟨p, r, n, k, i, o, row, rfl, tA1, ⟨S1.seq hr', hl, hb, hs⟩, sw.one, sw.nought, fun H2 S2 => ?_⟩
      walk_at "mc"
      refine ⟨lm, _, i, i, rfl, rfl, S2 _ _ hm1, ixN_of (by omega) (by rw [List.length_map]; have := sw.lt; omega), ?_⟩
      walk_at "mc"
      refine ⟨lm, _, o, o, rfl, rfl, upd_same, ixN_of (by omega) (by rw [List.length_set, List.length_map]; have := sw.lt; omega), ?_⟩
      walk_at "mc"
      exact q lm _ (((S1.trans S2).fresh nm).fresh nm) nm (fin i o made sw q H2 S2)
theorem ok_Choosing_done {C f : Addr} {fd : FuncData} (T : TB mg) (T2 : TB2 mg) (TC : CC K C)  (M_swapped : Mt P w K mg base C 2 "swapped" [] (spSwappedC K C))
    (F : Fun K "done" "Choosing.done" s_Choosing_done f fd) : FnOk P w K mg base CX0 3 f fd ["self", "row", "change"] (spDoneC K (CAt C) false) := by
  have nd := sc_Choosing_done.nd
  obtain ⟨tL, eL⟩ := T2.longest
  refine F.ok sc_Choosing_done (fun vs H Q E h => ?_) (fun cdv A outer s H vs Q E hr h => ?_)
  · obtain ⟨p, r, c, n, k, row, made, rfl, _⟩ := h
    rfl
  · obtain ⟨p, r, c, n, k, row, made, rfl, tA, hR, hc, q⟩ := h
    refine ⟨_, (pss_one (ps_ret (pe_mt (pv 0) M_swapped (hr.mono (by decide)) (pa_cons (pv 1) (pa_cons (pv 2) (pa_cons pe_bl pa_nil)))))), ?_⟩
    walk_at "mc"
    exact ⟨p, r, c, false, n, k, row, made, rfl, tA, hR, hc, q⟩
theorem ok_Choosing_undone {C f : Addr} {fd : FuncData} (T : TB mg) (T2 : TB2 mg) (TC : CC K C)  (M_swapped : Mt P w K mg base C 2 "swapped" [] (spSwappedC K C))
    (F : Fun K "undone" "Choosing.undone" s_Choosing_undone f fd) : FnOk P w K mg base CX0 3 f fd ["self", "row", "change"] (spDoneC K (CAt C) true) := by
  have nd := sc_Choosing_undone.nd
  obtain ⟨tL, eL⟩ := T2.longest
  refine F.ok sc_Choosing_undone (fun vs H Q E h => ?_) (fun cdv A outer s H vs Q E hr h => ?_)
  · obtain ⟨p, r, c, n, k, row, made, rfl, _⟩ := h
    rfl
  · obtain ⟨p, r, c, n, k, row, made, rfl, tA, hR, hc, q⟩ := h
    refine ⟨_, (pss_one (ps_ret (pe_mt (pv 0) M_swapped (hr.mono (by decide)) (pa_cons (pv 1) (pa_cons (pv 2) (pa_cons pe_bl pa_nil)))))), ?_⟩
    walk_at "mc"
    exact ⟨p, r, c, true, n, k, row, made, rfl, tA, hR, hc, q⟩
theorem okE_Listing_check_placeET {C f R NF NP NR NC : Addr} {fd : FuncData} (T : TB mg) (T2 : TB2 mg) (XE : XT K mg R NF NP NR NC) (TC : CT K C)  
    (F : Fun K "check_place" "Listing.check_place" s_Listing_check_place f fd) : FnOk P w K mg base (CXE P w) 1 f fd ["self", "place"] (sxPlaceT C NP) := by
  have nd := sc_Listing_check_place.nd
  obtain ⟨tL, eL⟩ := T2.longest
  refine F.okE sc_Listing_check_place (fun vs H Q E h => ?_) (fun cdv A outer s H vs Q E hr h => ?_)
  · obtain ⟨p, k, s0, n, rfl, _⟩ := h
    rfl
  · obtain ⟨p, k, s0, n, rfl, tA, hb, q⟩ := h
    refine ⟨_, (pss_one (ps_if (PW.pt (pw_or (pt_cmpR op_lt (pv 1) pe_int (nomark _)) (pw_or1 (pt_cmpR op_ge (pv 1) (pe_fld (pv 0) rfl) (nomark _))))) (pss_one (ps_raise raiseE rfl XE.x_NoPlace (by rfl) XE.g_NoPlace (pa_cons pe_str pa_nil))) pss_nil)), ?_⟩
    walk_at "mx"
    refine rd_D (fun c => ?_) (fun c => ?_)
    · walk_at "mx"
      exact ⟨by show 1 ≤ sizeLine; decide, q _ (Same.refl _)⟩
    walk_at "mx"
    refine rd_D (fun c2 => ?_) (fun c2 => absurd ⟨by omega, by omega⟩ hb)
    walk_at "mx"
    exact ⟨by show 1 ≤ sizeLine; decide, q _ (Same.refl _)⟩
theorem okE_Turning___initE {C f R NF NP NR NC : Addr} {fd : FuncData} (T : TB mg) (T2 : TB2 mg) (XE : XT K mg R NF NP NR NC) (TC : CT K C)  (D_count_all : Fn P w K mg base 1 "count_all" ["signs", "length"] spCountAll) (B_Listing___init : Base P w K mg base 1 "Listing" "__init__" (spBaseInit C))
    (F : Fun K "__init__" "Turning.__init__" s_Turning___init f fd) : FnOk P w K mg base (CXE P w) 2 f fd ["self", "signs", "length"] (sxInitT NF) := by
  have nd := sc_Turning___init.nd
  obtain ⟨tL, eL⟩ := T2.longest
  refine F.okE sc_Turning___init (fun vs H Q E h => ?_) (fun cdv A outer s H vs Q E hr h => ?_)
  · obtain ⟨x, s0, n, rfl, _⟩ := h
    rfl
  · obtain ⟨x, s0, n, rfl, hb, q⟩ := h
    refine ⟨_, (pss_cons (ps_if (PW.pt (pw_or (pt_cmpR op_lt (pv 1) pe_int (nomark _)) (pw_or1 (pt_cmpR op_gt (pv 1) (pe_op op_pow pe_int pe_int) (nomark _))))) (pss_one (ps_raise raiseE rfl XE.x_NoForm (by rfl) XE.g_NoForm (pa_cons pe_str pa_nil))) pss_nil)
      (pss_cons (ps_if (PW.pt (pw_or (pt_cmpR op_lt (pv 2) pe_int (nomark _)) (pw_or1 (pt_cmpR op_gt (pv 2) (pe_glob (v := .int 200) (by rfl) eL ⟨_, rfl⟩) (nomark _))))) (pss_one (ps_raise raiseE rfl XE.x_NoForm (by rfl) XE.g_NoForm (pa_cons pe_str pa_nil))) pss_nil)
      (pss_cons (ps_expr (pe_base B_Listing___init (hr.mono (by decide)) (by rfl) (pa_cons (pv 0) (pa_cons (pe_fn D_count_all (hr.mono (by decide)) (by rfl) (pa_cons (pv 1) (pa_cons (pv 2) pa_nil))) pa_nil))))
      (pss_cons (ps_fld (pv 0) (pv 1) rfl)
      (pss_one (ps_fld (pv 0) (pv 2) rfl)))))), ?_⟩
    have e12 : (10 : Int) ^ (12 : Int).toNat = 1000000000000 := by decide +kernel
    walk_at "mx"
    refine rd_D (fun c => ?_) (fun c => ?_)
    · walk_at "mx"
      exact ⟨by show 1 ≤ sizeLine; decide, q _ (Same.refl _)⟩
    walk_at "mx"
    refine rd_D (fun c2 => ?_) (fun c2 => ?_)
    · walk_at "mx"
      exact ⟨by show 1 ≤ sizeLine; decide, q _ (Same.refl _)⟩
    walk_at "mx"
    refine rd_D (fun c3 => ?_) (fun c3 => ?_)
    · walk_at "mx"
      exact ⟨by show 1 ≤ sizeLine; decide, q _ (Same.refl _)⟩
    walk_at "mx"
    refine rd_D (fun c4 => ?_) (fun c4 => absurd ⟨by omega, by omega, by omega, by omega⟩ hb)
    walk_at "mx"
    exact ⟨by show 1 ≤ sizeLine; decide, q _ (Same.refl _)⟩
theorem okE_Turning_row_atE {C f R NF NP NR NC : Addr} {fd : FuncData} (T : TB mg) (T2 : TB2 mg) (XE : XT K mg R NF NP NR NC) (TC : CT K C)  (ME_check_place : MtE P w K mg base C 1 "check_place" [] (sxPlaceT C NP))
    (F : Fun K "row_at" "Turning.row_at" s_Turning_row_at f fd) : FnOk P w K mg base (CXE P w) 2 f fd ["self", "place"] (sxPlaceT C NP) := by
  have nd := sc_Turning_row_at.nd
  obtain ⟨tL, eL⟩ := T2.longest
  refine F.okE sc_Turning_row_at (fun vs H Q E h => ?_) (fun cdv A outer s H vs Q E hr h => ?_)
  · obtain ⟨p, k, s0, n, rfl, _⟩ := h
    rfl
  · obtain ⟨p, k, s0, n, rfl, tA, hb, q⟩ := h
    refine ⟨_, (pss_cons (ps_expr (pe_mtE passE (pv 0) ME_check_place (hr.mono (by decide)) (pa_cons (pv 1) pa_nil)))
      (pss_cons (ps_set (i := 2) nd rfl (Or.inl rfl) (pe_lst pa_nil))
      (pss_cons (ps_set (i := 3) nd rfl (Or.inl rfl) (pe_op op_mod (pv 1) (pe_fld (pv 0) rfl)))
      (pss_cons (ps_set (i := 4) nd rfl (Or.inl rfl) (pe_op op_fdiv (pv 1) (pe_fld (pv 0) rfl)))
      (pss_cons (ps_for PassesOwn.leaving rfl (pi_range1 (by rfl) T.n_range (pa_cons (pe_fld (pv 0) rfl) pa_nil)) (pg_name (i := 5) nd rfl (Or.inl rfl)) (pss_cons (ps_set (i := 6) nd rfl (Or.inl rfl) (pe_op op_mod (pv 4) (pe_fld (pv 0) rfl)))
      (pss_cons (ps_set (i := 4) nd rfl (Or.inl rfl) (pe_op op_fdiv (pv 4) (pe_fld (pv 0) rfl)))
      (pss_cons (ps_expr (pe_bm PySem.F.plainAttrs_list PySem.F.slot_list_append PySem.F.type_list_append mt_append (pv 2) (pa_cons (pe_op op_mod (pe_op op_sub (pv 3) (pv 6)) (pe_fld (pv 0) rfl)) pa_nil)))
      (pss_one (ps_set (i := 3) nd rfl (Or.inl rfl) (pv 6)))))))
      (pss_one (ps_ret (pv 2)))))))), ?_⟩
    walk_at "mx"
    exact ⟨p, k, s0, n, rfl, tA, hb, q⟩
theorem okE_Turning_check_rowE {C f R NF NP NR NC : Addr} {fd : FuncData} (T : TB mg) (T2 : TB2 mg) (XE : XT K mg R NF NP NR NC) (TC : CT K C)  
    (F : Fun K "check_row" "Turning.check_row" s_Turning_check_row f fd) : FnOk P w K mg base (CXE P w) 1 f fd ["self", "row"] (sxRow K (BT C) NR) := by
  have nd := sc_Turning_check_row.nd
  obtain ⟨tL, eL⟩ := T2.longest
  refine F.okE sc_Turning_check_row (fun vs H Q E h => ?_) (fun cdv A outer s H vs Q E hr h => ?_)
  · obtain ⟨p, r, row, rfl, _⟩ := h
    rfl
  · obtain ⟨p, r, row, rfl, ⟨s0, n, tA, hbad⟩, hr', q⟩ := h
    refine ⟨_, (pss_cons (ps_if (pt_cmpR op_ne (pe_callB call_len_seq (by rfl) T.n_len bt_len (pa_cons (pv 1) pa_nil)) (pe_fld (pv 0) rfl) (nomark _)) (pss_one (ps_raise raiseE rfl XE.x_NoRow (by rfl) XE.g_NoRow (pa_cons pe_str pa_nil))) pss_nil)
      (pss_one (ps_for PassesOwn.leaving rfl (pi_list (pv 1)) (pg_name (i := 2) nd rfl (Or.inl rfl)) (pss_one (ps_if (PW.pt (pw_or (pt_cmpR op_lt (pv 2) pe_int (nomark _)) (pw_or1 (pt_cmpR op_ge (pv 2) (pe_fld (pv 0) rfl) (nomark _))))) (pss_one (ps_raise raiseE rfl XE.x_NoRow (by rfl) XE.g_NoRow (pa_cons pe_str pa_nil))) pss_nil))))), ?_⟩
    walk_at "mx"
    refine ⟨_, _, rfl, .inl hr', ?_⟩
    walk_at "mx"
    rw [List.length_map]
    refine rd_ND (fun _ => ?_) (fun hl => ?_)
    · walk_at "mx"
      exact ⟨by show 1 ≤ sizeLine; decide, q _ (Same.refl _)⟩
    walk_at "mx"
    refine ⟨r, rfl, ⟨_, hr'⟩, for_lst (K := K) (xs := row.map V.int) (fun i σ' H' => H' = H ∧ (∃ m : Option V, σ' = [some (.ref p), some (.ref r), m]) ∧ ∀ j z, j < i → row[j]? = some z → 0 ≤ z ∧ z < s0) ⟨rfl, ⟨none, rfl⟩, fun j z hj => absurd hj (Nat.not_lt_zero _)⟩ (fun i σ' H' _ hP => by obtain ⟨rfl, _⟩ := hP; exact hr') (fun i y σ' H' hy hP => ?_) fun σ' H' hP => ?_⟩
    · obtain ⟨rfl, ⟨m, rfl⟩, hg⟩ := hP
      obtain ⟨z, hz, rfl⟩ := intX_of_get hy
      walk_at "mx"
      refine rd_D (fun c => ?_) (fun c => ?_)
      · walk_at "mx"
        exact ⟨by show 1 ≤ sizeLine; decide, q _ (Same.refl _)⟩
      walk_at "mx"
      refine rd_D (fun c2 => ?_) (fun c2 => ?_)
      · walk_at "mx"
        exact ⟨by show 1 ≤ sizeLine; decide, q _ (Same.refl _)⟩
      walk_at "mx"
      refine ⟨rfl, ⟨_, rfl⟩, fun j x hj hx => ?_⟩
      by_cases e : j = i
      · rw [e, hz] at hx
        cases hx
        omega
      · exact hg j x (by omega) hx
    · obtain ⟨rfl, ⟨m, rfl⟩, hg⟩ := hP
      exfalso
      rcases hbad with z | ⟨x, hx, hn⟩
      · exact z hl
      · obtain ⟨j, hj⟩ := List.mem_iff_getElem?.mp hx
        exact hn (hg j x (by rw [List.length_map]; exact (List.getElem?_eq_some_iff.mp hj).1) hj)
theorem okE_Turning_place_ofE {C f R NF NP NR NC : Addr} {fd : FuncData} (T : TB mg) (T2 : TB2 mg) (XE : XT K mg R NF NP NR NC) (TC : CT K C)  (ME_check_row : MtE P w K mg base C 1 "check_row" [] (sxRow K (BT C) NR)) (M_figures_of : Mt P w K mg base C 1 "figures_of" [] (spFigsT K C))
    (F : Fun K "place_of" "Turning.place_of" s_Turning_place_of f fd) : FnOk P w K mg base (CXE P w) 2 f fd ["self", "row"] (sxRow K (BT C) NR) := by
  have nd := sc_Turning_place_of.nd
  obtain ⟨tL, eL⟩ := T2.longest
  refine F.okE sc_Turning_place_of (fun vs H Q E h => ?_) (fun cdv A outer s H vs Q E hr h => ?_)
  · obtain ⟨p, r, row, rfl, _⟩ := h
    rfl
  · obtain ⟨p, r, row, rfl, ⟨s0, n, tA, hbad⟩, hr', q⟩ := h
    refine ⟨_, (pss_cons (ps_expr (pe_mtE passE (pv 0) ME_check_row (hr.mono (by decide)) (pa_cons (pv 1) pa_nil)))
      (pss_cons (ps_set (i := 2) nd rfl (Or.inl rfl) pe_int)
      (pss_cons (ps_for PassesOwn.leaving rfl (pi_rev (by rfl) T.n_reversed (pa_cons (pe_mt (pv 0) M_figures_of (hr.mono (by decide)) (pa_cons (pv 1) pa_nil)) pa_nil)) (pg_name (i := 3) nd rfl (Or.inl rfl)) (pss_one (ps_set (i := 2) nd rfl (Or.inl rfl) (pe_op op_add (pe_op op_mulB (pv 2) (pe_fld (pv 0) rfl)) (pv 3)))))
      (pss_one (ps_ret (pv 2)))))), ?_⟩
    walk_at "mx"
    exact ⟨p, r, row, rfl, ⟨s0, n, tA, hbad⟩, hr', q⟩
theorem okE_Turning_changeE {C f R NF NP NR NC : Addr} {fd : FuncData} (T : TB mg) (T2 : TB2 mg) (XE : XT K mg R NF NP NR NC) (TC : CT K C)  (ME_check_row : MtE P w K mg base C 1 "check_row" [] (sxRow K (BT C) NR)) (M_figures_of : Mt P w K mg base C 1 "figures_of" [] (spFigsT K C))
    (F : Fun K "change" "Turning.change" s_Turning_change f fd) : FnOk P w K mg base (CXE P w) 2 f fd ["self", "row"] (sxRow K (BT C) NR) := by
  have nd := sc_Turning_change.nd
  obtain ⟨tL, eL⟩ := T2.longest
  refine F.okE sc_Turning_change (fun vs H Q E h => ?_) (fun cdv A outer s H vs Q E hr h => ?_)
  · obtain ⟨p, r, row, rfl, _⟩ := h
    rfl
  · obtain ⟨p, r, row, rfl, ⟨s0, n, tA, hbad⟩, hr', q⟩ := h
    refine ⟨_, (pss_cons (ps_expr (pe_mtE passE (pv 0) ME_check_row (hr.mono (by decide)) (pa_cons (pv 1) pa_nil)))
      (pss_cons (ps_if (pt_cmpR op_eq (pe_fld (pv 0) rfl) pe_int (nomark _)) (pss_one (ps_ret pe_non)) pss_nil)
      (pss_cons (ps_set (i := 2) nd rfl (Or.inl rfl) (pe_mt (pv 0) M_figures_of (hr.mono (by decide)) (pa_cons (pv 1) pa_nil)))
      (pss_cons (ps_set (i := 3) nd rfl (Or.inl rfl) pe_int)
      (pss_cons (ps_while PassesOwn.leaving (PW.pt (pw_and (pt_cmpR op_lt (pv 3) (pe_op op_sub (pe_fld (pv 0) rfl) pe_int) (nomark _)) (pw_and1 (pt_cmpR op_eq (pe_ix ix_list (pv 2) (pv 3) (fun _ _ => rfl)) (pe_op op_sub (pe_fld (pv 0) rfl) pe_int) (nomark _))))) (pss_one (ps_set (i := 3) nd rfl (Or.inl rfl) (pe_op op_add (pv 3) pe_int))))
      (pss_one (ps_ret (pe_tup (pa_cons pe_str (pa_cons (pv 3) pa_nil)))))))))), ?_⟩
    walk_at "mx"
    exact ⟨p, r, row, rfl, ⟨s0, n, tA, hbad⟩, hr', q⟩
theorem okE_Listing_leapET {C f R NF NP NR NC : Addr} {fd : FuncData} (T : TB mg) (T2 : TB2 mg) (XE : XT K mg R NF NP NR NC) (TC : CT K C)  (ME_place_of : MtE P w K mg base C 2 "place_of" [] (sxRow K (BT C) NR)) (M_row_at : Mt P w K mg base C 2 "row_at" [] (spRowAtT (TAt C)))
    {dV : Value} (F : FunD K "leap" "Listing.leap" s_Listing_leap f fd dV) : FnOk P w K mg base (CXE P w) 3 f fd ["self", "row", "steps"] (sxLeap K (BT C) NR) := by
  have nd := sc_Listing_leap.nd
  obtain ⟨tL, eL⟩ := T2.longest
  refine F.okE sc_Listing_leap (fun vs H Q E h => ?_) (fun cdv A outer s H vs Q E hr h => ?_)
  · obtain ⟨p, r, j, row, rfl, _⟩ := h
    rfl
  · obtain ⟨p, r, j, row, rfl, ⟨s0, n, tA, hbad⟩, hr', q⟩ := h
    refine ⟨_, (pss_one (ps_ret (pe_mt (pv 0) M_row_at (hr.mono (by decide)) (pa_cons (pe_op op_mod (pe_op op_add (pe_mtE passE (pv 0) ME_place_of (hr.mono (by decide)) (pa_cons (pv 1) pa_nil)) (pv 2)) (pe_fld (pv 0) rfl)) pa_nil)))), ?_⟩
    walk_at "mx"
    exact ⟨p, r, row, rfl, ⟨s0, n, tA, hbad⟩, hr', q⟩
theorem okE_Listing_next_rowET {C f R NF NP NR NC : Addr} {fd : FuncData} (T : TB mg) (T2 : TB2 mg) (XE : XT K mg R NF NP NR NC) (TC : CT K C)  (ME_leap : MtE P w K mg base C 3 "leap" [] (sxLeap K (BT C) NR))
    (F : Fun K "next_row" "Listing.next_row" s_Listing_next_row f fd) : FnOk P w K mg base (CXE P w) 4 f fd ["self", "row"] (sxRow K (BT C) NR) := by
  have nd := sc_Listing_next_row.nd
  obtain ⟨tL, eL⟩ := T2.longest
  refine F.okE sc_Listing_next_row (fun vs H Q E h => ?_) (fun cdv A outer s H vs Q E hr h => ?_)
  · obtain ⟨p, r, row, rfl, _⟩ := h
    rfl
  · obtain ⟨p, r, row, rfl, ⟨s0, n, tA, hbad⟩, hr', q⟩ := h
    refine ⟨_, (pss_one (ps_ret (pe_mtE passE (pv 0) ME_leap (hr.mono (by decide)) (pa_cons (pv 1) (pa_cons pe_int pa_nil))))), ?_⟩
    walk_at "mx"
    exact ⟨p, r, 1, row, rfl, ⟨s0, n, tA, hbad⟩, hr', q⟩
theorem okE_Listing_row_beforeET {C f R NF NP NR NC : Addr} {fd : FuncData} (T : TB mg) (T2 : TB2 mg) (XE : XT K mg R NF NP NR NC) (TC : CT K C)  (ME_leap : MtE P w K mg base C 3 "leap" [] (sxLeap K (BT C) NR))
    (F : Fun K "row_before" "Listing.row_before" s_Listing_row_before f fd) : FnOk P w K mg base (CXE P w) 4 f fd ["self", "row"] (sxRow K (BT C) NR) := by
  have nd := sc_Listing_row_before.nd
  obtain ⟨tL, eL⟩ := T2.longest
  refine F.okE sc_Listing_row_before (fun vs H Q E h => ?_) (fun cdv A outer s H vs Q E hr h => ?_)
  · obtain ⟨p, r, row, rfl, _⟩ := h
    rfl
  · obtain ⟨p, r, row, rfl, ⟨s0, n, tA, hbad⟩, hr', q⟩ := h
    refine ⟨_, (pss_one (ps_ret (pe_mtE passE (pv 0) ME_leap (hr.mono (by decide)) (pa_cons (pv 1) (pa_cons (pe_un un_neg pe_int) pa_nil))))), ?_⟩
    walk_at "mx"
    exact ⟨p, r, -1, row, rfl, ⟨s0, n, tA, hbad⟩, hr', q⟩
theorem okE_Listing_steps_toET {C f R NF NP NR NC : Addr} {fd : FuncData} (T : TB mg) (T2 : TB2 mg) (XE : XT K mg R NF NP NR NC) (TC : CT K C)  (ME_place_of : MtE P w K mg base C 2 "place_of" [] (sxRow K (BT C) NR)) (M_place_of : Mt P w K mg base C 2 "place_of" [] (spPlaceOfT K (TAt C)))
    (F : Fun K "steps_to" "Listing.steps_to" s_Listing_steps_to f fd) : FnOk P w K mg base (CXE P w) 3 f fd ["self", "row", "other"] (sxSteps1 K (BT C) (GT C) NR) := by
  have nd := sc_Listing_steps_to.nd
  obtain ⟨tL, eL⟩ := T2.longest
  refine F.okE sc_Listing_steps_to (fun vs H Q E h => ?_) (fun cdv A outer s H vs Q E hr h => ?_)
  · obtain ⟨p, r, r2, row, row2, rfl, _⟩ := h
    rfl
  · obtain ⟨p, r, r2, row, row2, rfl, ⟨s0, n, tA, hbad⟩, hr', ⟨s2, n2, tG, g1, g2⟩, hr2, q⟩ := h
    refine ⟨_, (pss_one (ps_ret (pe_op op_mod (pe_op op_sub (pe_mt (pv 0) M_place_of (hr.mono (by decide)) (pa_cons (pv 2) pa_nil)) (pe_mtE passE (pv 0) ME_place_of (hr.mono (by decide)) (pa_cons (pv 1) pa_nil))) (pe_fld (pv 0) rfl)))), ?_⟩
    walk_at "mx"
    refine ⟨p, r2, s2, n2, row2, rfl, tG, hr2, g1, g2, fun H1 S1 => ?_⟩
    have tA1 := tA.same S1
    walk_at "mx"
    exact ⟨p, r, row, rfl, ⟨s0, n, tA1, hbad⟩, S1.seq hr', fun H2 S2 => q H2 (S1.trans S2)⟩
theorem okE_Listing_steps_toFT {C f R NF NP NR NC : Addr} {fd : FuncData} (T : TB mg) (T2 : TB2 mg) (XE : XT K mg R NF NP NR NC) (TC : CT K C)  (ME_place_of : MtE P w K mg base C 2 "place_of" [] (sxRow K (BT C) NR))
    (F : Fun K "steps_to" "Listing.steps_to" s_Listing_steps_to f fd) : FnOk P w K mg base (CXE P w) 3 f fd ["self", "row", "other"] (sxSteps2 K (BT C) NR) := by
  have nd := sc_Listing_steps_to.nd
  obtain ⟨tL, eL⟩ := T2.longest
  refine F.okE sc_Listing_steps_to (fun vs H Q E h => ?_) (fun cdv A outer s H vs Q E hr h => ?_)
  · obtain ⟨p, r2, v, row2, rfl, _⟩ := h
    rfl
  · obtain ⟨p, r2, v, row2, rfl, ⟨s0, n, tA, hbad⟩, hr2, q⟩ := h
    refine ⟨_, (pss_one (ps_ret (pe_op op_mod (pe_op op_sub (pe_mtE passE (pv 0) ME_place_of (hr.mono (by decide)) (pa_cons (pv 2) pa_nil)) (pe_mtE passE (pv 0) ME_place_of (hr.mono (by decide)) (pa_cons (pv 1) pa_nil))) (pe_fld (pv 0) rfl)))), ?_⟩
    walk_at "mx"
    exact ⟨p, r2, row2, rfl, ⟨s0, n, tA, hbad⟩, hr2, q⟩
theorem okE_Turning_check_turnE {C f R NF NP NR NC : Addr} {fd : FuncData} (T : TB mg) (T2 : TB2 mg) (XE : XT K mg R NF NP NR NC) (TC : CT K C)  
    (F : Fun K "check_turn" "Turning.check_turn" s_Turning_check_turn f fd) : FnOk P w K mg base (CXE P w) 1 f fd ["self", "change"] (sxTurnOk K C NC) := by
  have nd := sc_Turning_check_turn.nd
  obtain ⟨tL, eL⟩ := T2.longest
  refine F.okE sc_Turning_check_turn (fun vs H Q E h => ?_) (fun cdv A outer s H vs Q E hr h => ?_)
  · obtain ⟨p, c, s0, n, rfl, _⟩ := h
    rfl
  · obtain ⟨p, c, s0, n, rfl, tA, ⟨t, rfl, hc⟩, q⟩ := h
    refine ⟨_, (pss_cons (ps_if (pt_cmpR op_ne (pe_ix ix_tup (pv 1) pe_int (fun _ _ => rfl)) pe_str (nomark _)) (pss_one (ps_raise raiseE rfl XE.x_NoChange (by rfl) XE.g_NoChange (pa_cons pe_str pa_nil))) pss_nil)
      (pss_one (ps_if (PW.pt (pw_or (pt_cmpR op_lt (pe_ix ix_tup (pv 1) pe_int (fun _ _ => rfl)) pe_int (nomark _)) (pw_or1 (pt_cmpR op_ge (pe_ix ix_tup (pv 1) pe_int (fun _ _ => rfl)) (pe_fld (pv 0) rfl) (nomark _))))) (pss_one (ps_raise raiseE rfl XE.x_NoChange (by rfl) XE.g_NoChange (pa_cons pe_str pa_nil))) pss_nil))), ?_⟩
    walk_at "mx"
    rcases hc with ⟨w', xs, ht, hw⟩ | ⟨j, ht, hj⟩
    · refine ⟨t, _, _, _, rfl, rfl, ht, atI_nat (j := 0) rfl, ?_⟩
      walk_at "mx"
      refine ⟨rfl, _, rfl, ?_⟩
      refine rd_ND (fun _ => ?_) (fun c => absurd (by cases c; rfl) hw)
      walk_at "mx"
      exact ⟨by show 1 ≤ sizeLine; decide, q _ (Same.refl _)⟩
    · refine ⟨t, _, _, _, rfl, rfl, ht, rfl, ?_⟩
      walk_at "mx"
      refine ⟨rfl, _, rfl, ?_⟩
      refine rd_ND (fun c => absurd rfl c) (fun _ => ?_)
      walk_at "mx"
      refine ⟨t, _, _, _, rfl, rfl, ht, rfl, ?_⟩
      walk_at "mx"
      refine rd_D (fun c => ?_) (fun c => ?_)
      · walk_at "mx"
        exact ⟨by show 1 ≤ sizeLine; decide, q _ (Same.refl _)⟩
      walk_at "mx"
      refine ⟨t, _, _, _, rfl, rfl, ht, rfl, ?_⟩
      walk_at "mx"
      refine rd_D (fun c2 => ?_) (fun c2 => absurd ⟨by omega, by omega⟩ hj)
      walk_at "mx"
      exact ⟨by show 1 ≤ sizeLine; decide, q _ (Same.refl _)⟩
theorem okE_Turning_turnedE {C f R NF NP NR NC : Addr} {fd : FuncData} (T : TB mg) (T2 : TB2 mg) (XE : XT K mg R NF NP NR NC) (TC : CT K C)  (ME_check_row : MtE P w K mg base C 1 "check_row" [] (sxRow K (BT C) NR)) (M_check_turn : Mt P w K mg base C 1 "check_turn" [] (spTurnOkT K C))
    (F : Fun K "turned" "Turning.turned" s_Turning_turned f fd) : FnOk P w K mg base (CXE P w) 2 f fd ["self", "row", "change", "by"] (sxBy K (BT C) NR) := by
  have nd := sc_Turning_turned.nd
  obtain ⟨tL, eL⟩ := T2.longest
  refine F.okE sc_Turning_turned (fun vs H Q E h => ?_) (fun cdv A outer s H vs Q E hr h => ?_)
  · obtain ⟨p, r, c, b, row, rfl, _⟩ := h
    rfl
  · obtain ⟨p, r, c, b, row, rfl, ⟨s0, n, tA, hbad⟩, hr', q⟩ := h
    refine ⟨_, (pss_cons (ps_expr (pe_mtE passE (pv 0) ME_check_row (hr.mono (by decide)) (pa_cons (pv 1) pa_nil)))
      (pss_cons (ps_set (i := 4) nd rfl (Or.inl rfl) (pe_callTy call_list_of (by rfl) T.n_list bt_list (pa_cons (pv 1) pa_nil)))
      (pss_cons (ps_if (pt_cmpR op_notN (pv 2) pe_non (nomark _)) (pss_cons (ps_expr (pe_mt (pv 0) M_check_turn (hr.mono (by decide)) (pa_cons (pv 2) pa_nil)))
      (pss_cons (ps_set (i := 5) nd rfl (Or.inl rfl) (pe_ix ix_tup (pv 2) pe_int (fun _ _ => rfl)))
      (pss_one (ps_asg (pe_op op_mod (pe_op op_add (pe_ix ix_list (pv 4) (pv 5) (fun _ _ => rfl)) (pv 3)) (pe_fld (pv 0) rfl)) (pg_sub (pv 4) (pv 5) set_list))))) pss_nil)
      (pss_one (ps_ret (pv 4)))))), ?_⟩
    walk_at "mx"
    exact ⟨p, r, row, rfl, ⟨s0, n, tA, hbad⟩, hr', q⟩
theorem okE_Turning_turnedF {C f R NF NP NR NC : Addr} {fd : FuncData} (T : TB mg) (T2 : TB2 mg) (XE : XT K mg R NF NP NR NC) (TC : CT K C)  (M_check_row : Mt P w K mg base C 1 "check_row" [] (spRowOkT K C)) (ME_check_turn : MtE P w K mg base C 1 "check_turn" [] (sxTurnOk K C NC))
    (F : Fun K "turned" "Turning.turned" s_Turning_turned f fd) : FnOk P w K mg base (CXE P w) 2 f fd ["self", "row", "change", "by"] (sxTurned K C NC) := by
  have nd := sc_Turning_turned.nd
  obtain ⟨tL, eL⟩ := T2.longest
  refine F.okE sc_Turning_turned (fun vs H Q E h => ?_) (fun cdv A outer s H vs Q E hr h => ?_)
  · obtain ⟨p, r, c, b, s0, n, row, rfl, _⟩ := h
    rfl
  · obtain ⟨p, r, c, b, s0, n, row, rfl, tA, hr', hl, hm, hc, q⟩ := h
    refine ⟨_, (pss_cons (ps_expr (pe_mt (pv 0) M_check_row (hr.mono (by decide)) (pa_cons (pv 1) pa_nil)))
      (pss_cons (ps_set (i := 4) nd rfl (Or.inl rfl) (pe_callTy call_list_of (by rfl) T.n_list bt_list (pa_cons (pv 1) pa_nil)))
      (pss_cons (ps_if (pt_cmpR op_notN (pv 2) pe_non (nomark _)) (pss_cons (ps_expr (pe_mtE passE (pv 0) ME_check_turn (hr.mono (by decide)) (pa_cons (pv 2) pa_nil)))
      (pss_cons (ps_set (i := 5) nd rfl (Or.inl rfl) (pe_ix ix_tup (pv 2) pe_int (fun _ _ => rfl)))
      (pss_one (ps_asg (pe_op op_mod (pe_op op_add (pe_ix ix_list (pv 4) (pv 5) (fun _ _ => rfl)) (pv 3)) (pe_fld (pv 0) rfl)) (pg_sub (pv 4) (pv 5) set_list))))) pss_nil)
      (pss_one (ps_ret (pv 4)))))), ?_⟩
    walk_at "mx"
    refine ⟨p, r, s0, n, row, rfl, tA, hr', hl, hm, ?_⟩
    walk_at "mx"
    refine ⟨r, _, rfl, .inl hr', fun lm nm => ?_⟩
    have S1 := (Same.refl H).fresh (o := .lst (row.map V.int)) nm
    have tA1 := tA.same S1
    obtain ⟨t, rfl, hc⟩ := hc
    generalize upd H lm (.lst (row.map V.int)) = H1 at *
    walk_at "mx"
    refine ⟨rfl, ?_⟩
    walk_at "mx"
    refine rd_ND (fun _ => ?_) (fun c => absurd c (by intro z; cases z))
    walk_at "mx"
    refine ⟨p, _, s0, n, rfl, tA1, ⟨t, rfl, ?_⟩, fun H2 S2 => q H2 (S1.trans S2)⟩
    rcases hc with ⟨w', xs, ht, hw⟩ | ⟨j, ht, hj⟩
    · exact .inl ⟨w', xs, S1.tpl ht, hw⟩
    · exact .inr ⟨j, S1.tpl ht, hj⟩
theorem okE_Turning_doneE {C f R NF NP NR NC : Addr} {fd : FuncData} (T : TB mg) (T2 : TB2 mg) (XE : XT K mg R NF NP NR NC) (TC : CT K C)  (ME_turned : MtE P w K mg base C 2 "turned" [] (sxBy K (BT C) NR))
    (F : Fun K "done" "Turning.done" s_Turning_done f fd) : FnOk P w K mg base (CXE P w) 3 f fd ["self", "row", "change"] (sxDone K (BT C) NR) := by
  have nd := sc_Turning_done.nd
  obtain ⟨tL, eL⟩ := T2.longest
  refine F.okE sc_Turning_done (fun vs H Q E h => ?_) (fun cdv A outer s H vs Q E hr h => ?_)
  · obtain ⟨p, r, c, row, rfl, _⟩ := h
    rfl
  · obtain ⟨p, r, c, row, rfl, ⟨s0, n, tA, hbad⟩, hr', q⟩ := h
    refine ⟨_, (pss_one (ps_ret (pe_mtE passE (pv 0) ME_turned (hr.mono (by decide)) (pa_cons (pv 1) (pa_cons (pv 2) (pa_cons pe_int pa_nil)))))), ?_⟩
    walk_at "mx"
    exact ⟨p, r, c, _, row, rfl, ⟨s0, n, tA, hbad⟩, hr', q⟩
theorem okE_Turning_doneF {C f R NF NP NR NC : Addr} {fd : FuncData} (T : TB mg) (T2 : TB2 mg) (XE : XT K mg R NF NP NR NC) (TC : CT K C)  (ME_turned : MtE P w K mg base C 2 "turned" [] (sxTurned K C NC))
    (F : Fun K "done" "Turning.done" s_Turning_done f fd) : FnOk P w K mg base (CXE P w) 3 f fd ["self", "row", "change"] (sxDoneT K C NC) := by
  have nd := sc_Turning_done.nd
  obtain ⟨tL, eL⟩ := T2.longest
  refine F.okE sc_Turning_done (fun vs H Q E h => ?_) (fun cdv A outer s H vs Q E hr h => ?_)
  · obtain ⟨p, r, c, s0, n, row, rfl, _⟩ := h
    rfl
  · obtain ⟨p, r, c, s0, n, row, rfl, tA, hr', hl, hm, hc, q⟩ := h
    refine ⟨_, (pss_one (ps_ret (pe_mtE passE (pv 0) ME_turned (hr.mono (by decide)) (pa_cons (pv 1) (pa_cons (pv 2) (pa_cons pe_int pa_nil)))))), ?_⟩
    walk_at "mx"
    exact ⟨p, r, c, _, s0, n, row, rfl, tA, hr', hl, hm, hc, q⟩
theorem okE_Turning_undoneE {C f R NF NP NR NC : Addr} {fd : FuncData} (T : TB mg) (T2 : TB2 mg) (XE : XT K mg R NF NP NR NC) (TC : CT K C)  (ME_turned : MtE P w K mg base C 2 "turned" [] (sxBy K (BT C) NR))
    (F : Fun K "undone" "Turning.undone" s_Turning_undone f fd) : FnOk P w K mg base (CXE P w) 3 f fd ["self", "row", "change"] (sxDone K (BT C) NR) := by
  have nd := sc_Turning_undone.nd
  obtain ⟨tL, eL⟩ := T2.longest
  refine F.okE sc_Turning_undone (fun vs H Q E h => ?_) (fun cdv A outer s H vs Q E hr h => ?_)
  · obtain ⟨p, r, c, row, rfl, _⟩ := h
    rfl
  · obtain ⟨p, r, c, row, rfl, ⟨s0, n, tA, hbad⟩, hr', q⟩ := h
    refine ⟨_, (pss_one (ps_ret (pe_mtE passE (pv 0) ME_turned (hr.mono (by decide)) (pa_cons (pv 1) (pa_cons (pv 2) (pa_cons (pe_un un_neg pe_int) pa_nil)))))), ?_⟩
    walk_at "mx"
    exact ⟨p, r, c, _, row, rfl, ⟨s0, n, tA, hbad⟩, hr', q⟩
theorem okE_Turning_undoneF {C f R NF NP NR NC : Addr} {fd : FuncData} (T : TB mg) (T2 : TB2 mg) (XE : XT K mg R NF NP NR NC) (TC : CT K C)  (ME_turned : MtE P w K mg base C 2 "turned" [] (sxTurned K C NC))
    (F : Fun K "undone" "Turning.undone" s_Turning_undone f fd) : FnOk P w K mg base (CXE P w) 3 f fd ["self", "row", "change"] (sxDoneT K C NC) := by
  have nd := sc_Turning_undone.nd
  obtain ⟨tL, eL⟩ := T2.longest
  refine F.okE sc_Turning_undone (fun vs H Q E h => ?_) (fun cdv A outer s H vs Q E hr h => ?_)
  · obtain ⟨p, r, c, s0, n, row, rfl, _⟩ := h
    rfl
  · obtain ⟨p, r, c, s0, n, row, rfl, tA, hr', hl, hm, hc, q⟩ := h
    refine ⟨_, (pss_one (ps_ret (pe_mtE passE (pv 0) ME_turned (hr.mono (by decide)) (pa_cons (pv 1) (pa_cons (pv 2) (pa_cons (pe_un un_neg pe_int) pa_nil)))))), ?_⟩
    walk_at "mx"
    exact ⟨p, r, c, _, s0, n, row, rfl, tA, hr', hl, hm, hc, q⟩
theorem okE_Listing_check_placeEC {C f R NF NP NR NC : Addr} {fd : FuncData} (T : TB mg) (T2 : TB2 mg) (XE : XT K mg R NF NP NR NC) (TC : CC K C)  
    (F : Fun K "check_place" "Listing.check_place" s_Listing_check_place f fd) : FnOk P w K mg base (CXE P w) 1 f fd ["self", "place"] (sxPlaceC C NP) := by
  have nd := sc_Listing_check_place.nd
  obtain ⟨tL, eL⟩ := T2.longest
  refine F.okE sc_Listing_check_place (fun vs H Q E h => ?_) (fun cdv A outer s H vs Q E hr h => ?_)
  · obtain ⟨p, i, n, k, rfl, _⟩ := h
    rfl
  · obtain ⟨p, i, n, k, rfl, tA, hb, q⟩ := h
    refine ⟨_, (pss_one (ps_if (PW.pt (pw_or (pt_cmpR op_lt (pv 1) pe_int (nomark _)) (pw_or1 (pt_cmpR op_ge (pv 1) (pe_fld (pv 0) rfl) (nomark _))))) (pss_one (ps_raise raiseE rfl XE.x_NoPlace (by rfl) XE.g_NoPlace (pa_cons pe_str pa_nil))) pss_nil)), ?_⟩
    walk_at "mx"
    refine rd_D (fun c => ?_) (fun c => ?_)
    · walk_at "mx"
      exact ⟨by show 1 ≤ sizeLine; decide, q _ (Same.refl _)⟩
    walk_at "mx"
    refine rd_D (fun c2 => ?_) (fun c2 => absurd ⟨by omega, by omega⟩ hb)
    walk_at "mx"
    exact ⟨by show 1 ≤ sizeLine; decide, q _ (Same.refl _)⟩
theorem okE_Choosing___initE {C f R NF NP NR NC : Addr} {fd : FuncData} (T : TB mg) (T2 : TB2 mg) (XE : XT K mg R NF NP NR NC) (TC : CC K C)  (D_choose : Fn P w K mg base 1 "choose" ["length", "ones"] spChooseP) (B_Listing___init : Base P w K mg base 1 "Listing" "__init__" (spBaseInit C))
    (F : Fun K "__init__" "Choosing.__init__" s_Choosing___init f fd) : FnOk P w K mg base (CXE P w) 2 f fd ["self", "length", "ones"] (sxInitC NF) := by
  have nd := sc_Choosing___init.nd
  obtain ⟨tL, eL⟩ := T2.longest
  refine F.okE sc_Choosing___init (fun vs H Q E h => ?_) (fun cdv A outer s H vs Q E hr h => ?_)
  · obtain ⟨x, n, k, rfl, _⟩ := h
    rfl
  · obtain ⟨x, n, k, rfl, hb, q⟩ := h
    refine ⟨_, (pss_cons (ps_if (PW.pt (pw_or (pt_cmpR op_lt (pv 1) pe_int (nomark _)) (pw_or1 (pt_cmpR op_gt (pv 1) (pe_glob (v := .int 200) (by rfl) eL ⟨_, rfl⟩) (nomark _))))) (pss_one (ps_raise raiseE rfl XE.x_NoForm (by rfl) XE.g_NoForm (pa_cons pe_str pa_nil))) pss_nil)
      (pss_cons (ps_if (PW.pt (pw_or (pt_cmpR op_lt (pv 2) pe_int (nomark _)) (pw_or1 (pt_cmpR op_gt (pv 2) (pv 1) (nomark _))))) (pss_one (ps_raise raiseE rfl XE.x_NoForm (by rfl) XE.g_NoForm (pa_cons pe_str pa_nil))) pss_nil)
      (pss_cons (ps_expr (pe_base B_Listing___init (hr.mono (by decide)) (by rfl) (pa_cons (pv 0) (pa_cons (pe_fn D_choose (hr.mono (by decide)) (by rfl) (pa_cons (pv 1) (pa_cons (pv 2) pa_nil))) pa_nil))))
      (pss_cons (ps_fld (pv 0) (pv 1) rfl)
      (pss_one (ps_fld (pv 0) (pv 2) rfl)))))), ?_⟩
    walk_at "mx"
    refine rd_D (fun c => ?_) (fun c => ?_)
    · walk_at "mx"
      exact ⟨by show 1 ≤ sizeLine; decide, q _ (Same.refl _)⟩
    walk_at "mx"
    refine rd_D (fun c2 => ?_) (fun c2 => ?_)
    · walk_at "mx"
      exact ⟨by show 1 ≤ sizeLine; decide, q _ (Same.refl _)⟩
    walk_at "mx"
    refine rd_D (fun c3 => ?_) (fun c3 => ?_)
    · walk_at "mx"
      exact ⟨by show 1 ≤ sizeLine; decide, q _ (Same.refl _)⟩
    walk_at "mx"
    refine rd_D (fun c4 => ?_) (fun c4 => absurd ⟨by omega, by omega, by omega, by omega⟩ hb)
    walk_at "mx"
    exact ⟨by show 1 ≤ sizeLine; decide, q _ (Same.refl _)⟩
theorem okE_Choosing_row_atE {C f R NF NP NR NC : Addr} {fd : FuncData} (T : TB mg) (T2 : TB2 mg) (XE : XT K mg R NF NP NR NC) (TC : CC K C)  (ME_check_place : MtE P w K mg base C 1 "check_place" [] (sxPlaceC C NP))
    (F : Fun K "row_at" "Choosing.row_at" s_Choosing_row_at f fd) : FnOk P w K mg base (CXE P w) 2 f fd ["self", "place"] (sxPlaceC C NP) := by
  have nd := sc_Choosing_row_at.nd
  obtain ⟨tL, eL⟩ := T2.longest
  refine F.okE sc_Choosing_row_at (fun vs H Q E h => ?_) (fun cdv A outer s H vs Q E hr h => ?_)
  · obtain ⟨p, i, n, k, rfl, _⟩ := h
    rfl
  · obtain ⟨p, i, n, k, rfl, tA, hb, q⟩ := h
    refine ⟨_, (pss_cons (ps_expr (pe_mtE passE (pv 0) ME_check_place (hr.mono (by decide)) (pa_cons (pv 1) pa_nil)))
      (pss_cons (ps_set (i := 2) nd rfl (Or.inl rfl) (pe_op op_mul (pe_lst (pa_cons pe_int pa_nil)) (pe_fld (pv 0) rfl)))
      (pss_cons (ps_set (i := 3) nd rfl (Or.inl rfl) (pe_fld (pv 0) rfl))
      (pss_cons (ps_set (i := 4) nd rfl (Or.inl rfl) (pe_fld (pv 0) rfl))
      (pss_cons (ps_set (i := 5) nd rfl (Or.inl rfl) (pv 1))
      (pss_cons (ps_for PassesOwn.leaving rfl (pi_rangeD (by rfl) T.n_range (pa_cons (pe_fld (pv 0) rfl) (pa_cons pe_int (pa_cons (pe_un un_neg pe_int) pa_nil)))) (pg_name (i := 6) nd rfl (Or.inl rfl)) (pss_cons (ps_set (i := 7) nd rfl (Or.inl rfl) (pe_op op_fdiv (pe_op op_mul (pv 3) (pe_op op_sub (pv 6) (pv 4))) (pv 6)))
      (pss_one (ps_if (pt_cmpR op_lt (pv 5) (pv 7) (nomark _)) (pss_one (ps_set (i := 3) nd rfl (Or.inl rfl) (pv 7))) (pss_cons (ps_asg pe_int (pg_sub (pv 2) (pe_op op_sub (pv 6) pe_int) set_list))
      (pss_cons (ps_set (i := 5) nd rfl (Or.inl rfl) (pe_op op_sub (pe_op op_sub (pv 3) pe_int) (pv 5)))
      (pss_cons (ps_set (i := 3) nd rfl (Or.inl rfl) (pe_op op_sub (pv 3) (pv 7)))
      (pss_one (ps_set (i := 4) nd rfl (Or.inl rfl) (pe_op op_sub (pv 4) pe_int))))))))))
      (pss_one (ps_ret (pv 2))))))))), ?_⟩
    walk_at "mx"
    exact ⟨p, i, n, k, rfl, tA, hb, q⟩
theorem okE_Choosing_check_rowE {C f R NF NP NR NC : Addr} {fd : FuncData} (T : TB mg) (T2 : TB2 mg) (XE : XT K mg R NF NP NR NC) (TC : CC K C)  
    (F : Fun K "check_row" "Choosing.check_row" s_Choosing_check_row f fd) : FnOk P w K mg base (CXE P w) 1 f fd ["self", "row"] (sxRow K (BC C) NR) := by
  have nd := sc_Choosing_check_row.nd
  obtain ⟨tL, eL⟩ := T2.longest
  refine F.okE sc_Choosing_check_row (fun vs H Q E h => ?_) (fun cdv A outer s H vs Q E hr h => ?_)
  · obtain ⟨p, r, row, rfl, _⟩ := h
    rfl
  · obtain ⟨p, r, row, rfl, ⟨n, k, tA, hbad⟩, hr', q⟩ := h
    refine ⟨_, (pss_cons (ps_if (pt_cmpR op_ne (pe_callB call_len_seq (by rfl) T.n_len bt_len (pa_cons (pv 1) pa_nil)) (pe_fld (pv 0) rfl) (nomark _)) (pss_one (ps_raise raiseE rfl XE.x_NoRow (by rfl) XE.g_NoRow (pa_cons pe_str pa_nil))) pss_nil)
      (pss_cons (ps_for PassesOwn.leaving rfl (pi_list (pv 1)) (pg_name (i := 2) nd rfl (Or.inl rfl)) (pss_one (ps_if (PW.pt (pw_and (pt_cmpR op_ne (pv 2) pe_int (nomark _)) (pw_and1 (pt_cmpR op_ne (pv 2) pe_int (nomark _))))) (pss_one (ps_raise raiseE rfl XE.x_NoRow (by rfl) XE.g_NoRow (pa_cons pe_str pa_nil))) pss_nil)))
      (pss_one (ps_if (pt_cmpR op_ne (pe_callB (call_sum_int rfl) (by rfl) T.n_sum bt_sum (pa_cons (pv 1) pa_nil)) (pe_fld (pv 0) rfl) (nomark _)) (pss_one (ps_raise raiseE rfl XE.x_NoRow (by rfl) XE.g_NoRow (pa_cons pe_str pa_nil))) pss_nil)))), ?_⟩
    walk_at "mx"
    refine ⟨_, _, rfl, .inl hr', ?_⟩
    walk_at "mx"
    rw [List.length_map]
    refine rd_ND (fun _ => ?_) (fun hl => ?_)
    · walk_at "mx"
      exact ⟨by show 1 ≤ sizeLine; decide, q _ (Same.refl _)⟩
    walk_at "mx"
    refine ⟨r, rfl, ⟨_, hr'⟩, for_lst (K := K) (xs := row.map V.int) (fun i σ' H' => H' = H ∧ (∃ m : Option V, σ' = [some (.ref p), some (.ref r), m]) ∧ ∀ j z, j < i → row[j]? = some z → z = 0 ∨ z = 1) ⟨rfl, ⟨none, rfl⟩, fun j z hj => absurd hj (Nat.not_lt_zero _)⟩ (fun i σ' H' _ hP => by obtain ⟨rfl, _⟩ := hP; exact hr') (fun i y σ' H' hy hP => ?_) fun σ' H' hP => ?_⟩
    · obtain ⟨rfl, ⟨m, rfl⟩, hg⟩ := hP
      obtain ⟨z, hz, rfl⟩ := intX_of_get hy
      walk_at "mx"
      refine rd_ND (fun c => ?_) (fun c => ?_)
      · walk_at "mx"
        refine rd_ND (fun c2 => ?_) (fun c2 => ?_)
        · walk_at "mx"
          exact ⟨by show 1 ≤ sizeLine; decide, q _ (Same.refl _)⟩
        · walk_at "mx"
          refine ⟨rfl, ⟨_, rfl⟩, fun j x hj hx => ?_⟩
          by_cases e : j = i
          · rw [e, hz] at hx
            cases hx
            exact .inr c2
          · exact hg j x (by omega) hx
      · walk_at "mx"
        refine ⟨rfl, ⟨_, rfl⟩, fun j x hj hx => ?_⟩
        by_cases e : j = i
        · rw [e, hz] at hx
          cases hx
          exact .inl c
        · exact hg j x (by omega) hx
    · obtain ⟨rfl, ⟨m, rfl⟩, hg⟩ := hP
      walk_at "mx"
      refine ⟨r, row, rfl, hr', ?_⟩
      walk_at "mx"
      refine rd_ND (fun _ => ?_) (fun hs => ?_)
      · walk_at "mx"
        exact ⟨by show 1 ≤ sizeLine; decide, q _ (Same.refl _)⟩
      exfalso
      rcases hbad with z | ⟨x, hx, h0, h1⟩ | z
      · exact z hl
      · obtain ⟨j, hj⟩ := List.mem_iff_getElem?.mp hx
        rcases hg j x (by rw [List.length_map]; exact (List.getElem?_eq_some_iff.mp hj).1) hj with y | y
        · exact h0 y
        · exact h1 y
      · exact z hs
theorem okE_Choosing_place_ofE {C f R NF NP NR NC : Addr} {fd : FuncData} (T : TB mg) (T2 : TB2 mg) (XE : XT K mg R NF NP NR NC) (TC : CC K C)  (ME_check_row : MtE P w K mg base C 1 "check_row" [] (sxRow K (BC C) NR))
    (F : Fun K "place_of" "Choosing.place_of" s_Choosing_place_of f fd) : FnOk P w K mg base (CXE P w) 2 f fd ["self", "row"] (sxRow K (BC C) NR) := by
  have nd := sc_Choosing_place_of.nd
  obtain ⟨tL, eL⟩ := T2.longest
  refine F.okE sc_Choosing_place_of (fun vs H Q E h => ?_) (fun cdv A outer s H vs Q E hr h => ?_)
  · obtain ⟨p, r, row, rfl, _⟩ := h
    rfl
  · obtain ⟨p, r, row, rfl, ⟨n, k, tA, hbad⟩, hr', q⟩ := h
    refine ⟨_, (pss_cons (ps_expr (pe_mtE passE (pv 0) ME_check_row (hr.mono (by decide)) (pa_cons (pv 1) pa_nil)))
      (pss_cons (ps_set (i := 2) nd rfl (Or.inl rfl) pe_int)
      (pss_cons (ps_set (i := 3) nd rfl (Or.inl rfl) pe_int)
      (pss_cons (ps_set (i := 4) nd rfl (Or.inl rfl) pe_int)
      (pss_cons (ps_for PassesOwn.leaving rfl (pi_enum (by rfl) T2.n_enumerate (pa_cons (pv 1) (pa_cons pe_int pa_nil))) (pg_tup rfl (pgs_cons (pg_name (i := 5) nd rfl (Or.inl rfl)) (pgs_cons (pg_name (i := 6) nd rfl (Or.inl rfl)) pgs_nil))) (pss_one (ps_if (pt_cmpR op_eq (pv 6) pe_int (nomark _)) (pss_one (ps_set (i := 3) nd rfl (Or.inl rfl) (pe_op op_fdiv (pe_op op_mul (pv 3) (pv 5)) (pe_op op_sub (pv 5) (pv 4))))) (pss_cons (ps_set (i := 4) nd rfl (Or.inl rfl) (pe_op op_add (pv 4) pe_int))
      (pss_cons (ps_set (i := 3) nd rfl (Or.inl rfl) (pe_op op_fdiv (pe_op op_mul (pv 3) (pv 5)) (pv 4)))
      (pss_one (ps_set (i := 2) nd rfl (Or.inl rfl) (pe_op op_sub (pe_op op_sub (pv 3) pe_int) (pv 2)))))))))
      (pss_one (ps_ret (pv 2)))))))), ?_⟩
    walk_at "mx"
    exact ⟨p, r, row, rfl, ⟨n, k, tA, hbad⟩, hr', q⟩
theorem okE_Listing_leapEC {C f R NF NP NR NC : Addr} {fd : FuncData} (T : TB mg) (T2 : TB2 mg) (XE : XT K mg R NF NP NR NC) (TC : CC K C)  (ME_place_of : MtE P w K mg base C 2 "place_of" [] (sxRow K (BC C) NR)) (M_row_at : Mt P w K mg base C 2 "row_at" [] (spRowAtC (CAt C)))
    {dV : Value} (F : FunD K "leap" "Listing.leap" s_Listing_leap f fd dV) : FnOk P w K mg base (CXE P w) 3 f fd ["self", "row", "steps"] (sxLeap K (BC C) NR) := by
  have nd := sc_Listing_leap.nd
  obtain ⟨tL, eL⟩ := T2.longest
  refine F.okE sc_Listing_leap (fun vs H Q E h => ?_) (fun cdv A outer s H vs Q E hr h => ?_)
  · obtain ⟨p, r, j, row, rfl, _⟩ := h
    rfl
  · obtain ⟨p, r, j, row, rfl, ⟨n, k, tA, hbad⟩, hr', q⟩ := h
    refine ⟨_, (pss_one (ps_ret (pe_mt (pv 0) M_row_at (hr.mono (by decide)) (pa_cons (pe_op op_mod (pe_op op_add (pe_mtE passE (pv 0) ME_place_of (hr.mono (by decide)) (pa_cons (pv 1) pa_nil)) (pv 2)) (pe_fld (pv 0) rfl)) pa_nil)))), ?_⟩
    walk_at "mx"
    exact ⟨p, r, row, rfl, ⟨n, k, tA, hbad⟩, hr', q⟩
theorem okE_Listing_next_rowEC {C f R NF NP NR NC : Addr} {fd : FuncData} (T : TB mg) (T2 : TB2 mg) (XE : XT K mg R NF NP NR NC) (TC : CC K C)  (ME_leap : MtE P w K mg base C 3 "leap" [] (sxLeap K (BC C) NR))
    (F : Fun K "next_row" "Listing.next_row" s_Listing_next_row f fd) : FnOk P w K mg base (CXE P w) 4 f fd ["self", "row"] (sxRow K (BC C) NR) := by
  have nd := sc_Listing_next_row.nd
  obtain ⟨tL, eL⟩ := T2.longest
  refine F.okE sc_Listing_next_row (fun vs H Q E h => ?_) (fun cdv A outer s H vs Q E hr h => ?_)
  · obtain ⟨p, r, row, rfl, _⟩ := h
    rfl
  · obtain ⟨p, r, row, rfl, ⟨n, k, tA, hbad⟩, hr', q⟩ := h
    refine ⟨_, (pss_one (ps_ret (pe_mtE passE (pv 0) ME_leap (hr.mono (by decide)) (pa_cons (pv 1) (pa_cons pe_int pa_nil))))), ?_⟩
    walk_at "mx"
    exact ⟨p, r, 1, row, rfl, ⟨n, k, tA, hbad⟩, hr', q⟩
theorem okE_Listing_row_beforeEC {C f R NF NP NR NC : Addr} {fd : FuncData} (T : TB mg) (T2 : TB2 mg) (XE : XT K mg R NF NP NR NC) (TC : CC K C)  (ME_leap : MtE P w K mg base C 3 "leap" [] (sxLeap K (BC C) NR))
    (F : Fun K "row_before" "Listing.row_before" s_Listing_row_before f fd) : FnOk P w K mg base (CXE P w) 4 f fd ["self", "row"] (sxRow K (BC C) NR) := by
  have nd := sc_Listing_row_before.nd
  obtain ⟨tL, eL⟩ := T2.longest
  refine F.okE sc_Listing_row_before (fun vs H Q E h => ?_) (fun cdv A outer s H vs Q E hr h => ?_)
  · obtain ⟨p, r, row, rfl, _⟩ := h
    rfl
  · obtain ⟨p, r, row, rfl, ⟨n, k, tA, hbad⟩, hr', q⟩ := h
    refine ⟨_, (pss_one (ps_ret (pe_mtE passE (pv 0) ME_leap (hr.mono (by decide)) (pa_cons (pv 1) (pa_cons (pe_un un_neg pe_int) pa_nil))))), ?_⟩
    walk_at "mx"
    exact ⟨p, r, -1, row, rfl, ⟨n, k, tA, hbad⟩, hr', q⟩
theorem okE_Listing_steps_toEC {C f R NF NP NR NC : Addr} {fd : FuncData} (T : TB mg) (T2 : TB2 mg) (XE : XT K mg R NF NP NR NC) (TC : CC K C)  (ME_place_of : MtE P w K mg base C 2 "place_of" [] (sxRow K (BC C) NR)) (M_place_of : Mt P w K mg base C 2 "place_of" [] (spPlaceOfC K (CAt C)))
    (F : Fun K "steps_to" "Listing.steps_to" s_Listing_steps_to f fd) : FnOk P w K mg base (CXE P w) 3 f fd ["self", "row", "other"] (sxSteps1 K (BC C) (GC C) NR) := by
  have nd := sc_Listing_steps_to.nd
  obtain ⟨tL, eL⟩ := T2.longest
  refine F.okE sc_Listing_steps_to (fun vs H Q E h => ?_) (fun cdv A outer s H vs Q E hr h => ?_)
  · obtain ⟨p, r, r2, row, row2, rfl, _⟩ := h
    rfl
  · obtain ⟨p, r, r2, row, row2, rfl, ⟨n, k, tA, hbad⟩, hr', ⟨n2, k2, tG, g1, g2, g3⟩, hr2, q⟩ := h
    refine ⟨_, (pss_one (ps_ret (pe_op op_mod (pe_op op_sub (pe_mt (pv 0) M_place_of (hr.mono (by decide)) (pa_cons (pv 2) pa_nil)) (pe_mtE passE (pv 0) ME_place_of (hr.mono (by decide)) (pa_cons (pv 1) pa_nil))) (pe_fld (pv 0) rfl)))), ?_⟩
    walk_at "mx"
    refine ⟨p, r2, n2, k2, row2, rfl, tG, ⟨hr2, g1, g2, g3⟩, fun H1 S1 => ?_⟩
    have tA1 := tA.same S1
    walk_at "mx"
    exact ⟨p, r, row, rfl, ⟨n, k, tA1, hbad⟩, S1.seq hr', fun H2 S2 => q H2 (S1.trans S2)⟩
theorem okE_Listing_steps_toFC {C f R NF NP NR NC : Addr} {fd : FuncData} (T : TB mg) (T2 : TB2 mg) (XE : XT K mg R NF NP NR NC) (TC : CC K C)  (ME_place_of : MtE P w K mg base C 2 "place_of" [] (sxRow K (BC C) NR))
    (F : Fun K "steps_to" "Listing.steps_to" s_Listing_steps_to f fd) : FnOk P w K mg base (CXE P w) 3 f fd ["self", "row", "other"] (sxSteps2 K (BC C) NR) := by
  have nd := sc_Listing_steps_to.nd
  obtain ⟨tL, eL⟩ := T2.longest
  refine F.okE sc_Listing_steps_to (fun vs H Q E h => ?_) (fun cdv A outer s H vs Q E hr h => ?_)
  · obtain ⟨p, r2, v, row2, rfl, _⟩ := h
    rfl
  · obtain ⟨p, r2, v, row2, rfl, ⟨n, k, tA, hbad⟩, hr2, q⟩ := h
    refine ⟨_, (pss_one (ps_ret (pe_op op_mod (pe_op op_sub (pe_mtE passE (pv 0) ME_place_of (hr.mono (by decide)) (pa_cons (pv 2) pa_nil)) (pe_mtE passE (pv 0) ME_place_of (hr.mono (by decide)) (pa_cons (pv 1) pa_nil))) (pe_fld (pv 0) rfl)))), ?_⟩
    walk_at "mx"
    exact ⟨p, r2, row2, rfl, ⟨n, k, tA, hbad⟩, hr2, q⟩
theorem okE_Choosing_changeE {C f R NF NP NR NC : Addr} {fd : FuncData} (T : TB mg) (T2 : TB2 mg) (XE : XT K mg R NF NP NR NC) (TC : CC K C)  (ME_next_row : MtE P w K mg base C 4 "next_row" [] (sxRow K (BC C) NR))
    (F : Fun K "change" "Choosing.change" s_Choosing_change f fd) : FnOk P w K mg base (CXE P w) 5 f fd ["self", "row"] (sxRow K (BC C) NR) := by
  have nd := sc_Choosing_change.nd
  obtain ⟨tL, eL⟩ := T2.longest
  refine F.okE sc_Choosing_change (fun vs H Q E h => ?_) (fun cdv A outer s H vs Q E hr h => ?_)
  · obtain ⟨p, r, row, rfl, _⟩ := h
    rfl
  · obtain ⟨p, r, row, rfl, ⟨n, k, tA, hbad⟩, hr', q⟩ := h
    refine ⟨_, (pss_cons (ps_set (i := 2) nd rfl (Or.inl rfl) (pe_mtE passE (pv 0) ME_next_row (hr.mono (by decide)) (pa_cons (pv 1) pa_nil)))
      (pss_cons (ps_if (pt_cmpR op_eq (pe_fld (pv 0) rfl) pe_int (nomark _)) (pss_one (ps_ret pe_non)) pss_nil)
      (pss_cons (ps_setPair (j := 3) (x1 := "old") (x2 := "new") nd rfl (Or.inl rfl) (CompScope.of (N := ["self", "row", "after", "gone"]) (sc := defScope s_Choosing_change) rfl rfl (by decide +kernel)) rfl (by decide +kernel) (pi_zip (by rfl) T2.n_zip (pa_cons (pv 1) (pa_cons (pv 2) pa_nil))) (fun _ _ _ _ => (pe_op op_sub (pv 0) (pv 1))))
      (pss_one (ps_ret (pe_tup (pa_cons pe_str (pa_cons (pe_bm PySem.F.plainAttrs_list PySem.F.slot_list_index PySem.F.type_list_index mt_index (pv 3) (pa_cons pe_int pa_nil)) (pa_cons (pe_bm PySem.F.plainAttrs_list PySem.F.slot_list_index PySem.F.type_list_index mt_index (pv 3) (pa_cons (pe_un un_neg pe_int) pa_nil)) pa_nil))))))))), ?_⟩
    walk_at "mx"
    exact ⟨p, r, row, rfl, ⟨n, k, tA, hbad⟩, hr', q⟩
theorem okE_Choosing_check_spotsE {C f R NF NP NR NC : Addr} {fd : FuncData} (T : TB mg) (T2 : TB2 mg) (XE : XT K mg R NF NP NR NC) (TC : CC K C)  
    (F : Fun K "check_spots" "Choosing.check_spots" s_Choosing_check_spots f fd) : FnOk P w K mg base (CXE P w) 1 f fd ["self", "row", "out", "into"] (sxSpots K C NC) := by
  have nd := sc_Choosing_check_spots.nd
  obtain ⟨tL, eL⟩ := T2.longest
  refine F.okE sc_Choosing_check_spots (fun vs H Q E h => ?_) (fun cdv A outer s H vs Q E hr h => ?_)
  · obtain ⟨p, r, n, k, o, i, row, rfl, _⟩ := h
    rfl
  · obtain ⟨p, r, n, k, o, i, row, rfl, tA, hr', hl, hb, q⟩ := h
    refine ⟨_, (pss_cons (ps_for PassesOwn.leaving rfl (pi_tup (pe_tup (pa_cons (pv 2) (pa_cons (pv 3) pa_nil)))) (pg_name (i := 4) nd rfl (Or.inl rfl)) (pss_one (ps_if (PW.pt (pw_or (pt_cmpR op_lt (pv 4) pe_int (nomark _)) (pw_or1 (pt_cmpR op_ge (pv 4) (pe_fld (pv 0) rfl) (nomark _))))) (pss_one (ps_raise raiseE rfl XE.x_NoChange (by rfl) XE.g_NoChange (pa_cons pe_str pa_nil))) pss_nil)))
      (pss_one (ps_if (PW.pt (pw_or (pt_cmpR op_ne (pe_ix ix_list (pv 1) (pv 2) (fun _ _ => rfl)) pe_int (nomark _)) (pw_or1 (pt_cmpR op_ne (pe_ix ix_list (pv 1) (pv 3) (fun _ _ => rfl)) pe_int (nomark _))))) (pss_one (ps_raise raiseE rfl XE.x_NoChange (by rfl) XE.g_NoChange (pa_cons pe_str pa_nil))) pss_nil))), ?_⟩
    have hf := tA.1
    walk_at "mx"
    refine ⟨by show 2 ≤ sizeLine; decide, fun t nt => ?_⟩
    have S1 := (Same.refl H).fresh (o := .tup [.int o, .int i]) nt
    have ht : (upd H t (.tup [V.int o, V.int i])) t = some (.tup [V.int o, V.int i]) := upd_same
    generalize upd H t (.tup [V.int o, V.int i]) = H1 at *
    have tA1 := tA.same S1
    refine ⟨t, rfl, ⟨_, SqT.of ht⟩, for_tpl (K := K) (xs := [V.int o, V.int i]) (fun j σ' H' => H' = H1 ∧ (∃ m : Option V, σ' = [some (.ref p), some (.ref r), some (.int o), some (.int i), m]) ∧ (0 < j → 0 ≤ o ∧ o < n) ∧ (1 < j → 0 ≤ i ∧ i < n)) ⟨rfl, ⟨none, rfl⟩, fun h => absurd h (by decide), fun h => absurd h (by decide)⟩ (fun j σ' H' _ hP => by obtain ⟨rfl, _⟩ := hP; exact SqT.of ht) (fun j y σ' H' hy hP => ?_) fun σ' H' hP => ?_⟩
    · obtain ⟨rfl, ⟨m, rfl⟩, g0, g1⟩ := hP
      obtain ⟨z, rfl, hz⟩ : ∃ z : Int, y = V.int z ∧ ((0 ≤ z ∧ z < n) → (0 < j + 1 → 0 ≤ o ∧ o < n) ∧ (1 < j + 1 → 0 ≤ i ∧ i < n)) := by
        match j, hy, g0 with
        | 0, hy, g0 => exact ⟨o, (Option.some.inj hy).symm, fun h => ⟨fun _ => h, fun z => absurd z (by decide)⟩⟩
        | 1, hy, g0 => exact ⟨i, (Option.some.inj hy).symm, fun h => ⟨fun _ => g0 (by decide), fun _ => h⟩⟩
      walk_at "mx"
      refine rd_D (fun c => ?_) (fun c => ?_)
      · walk_at "mx"
        exact ⟨by show 1 ≤ sizeLine; decide, q _ S1⟩
      walk_at "mx"
      refine rd_D (fun c2 => ?_) (fun c2 => ?_)
      · walk_at "mx"
        exact ⟨by show 1 ≤ sizeLine; decide, q _ S1⟩
      walk_at "mx"
      have h2 := hz ⟨by omega, by omega⟩
      exact ⟨rfl, ⟨_, rfl⟩, h2.1, h2.2⟩
    · obtain ⟨rfl, ⟨m, rfl⟩, g0, g1⟩ := hP
      have h0 := g0 (by show 0 < 2; decide)
      have h1 := g1 (by show 1 < 2; decide)
      have eo : row[o.toNat]? = some row[o.toNat] := List.getElem?_eq_getElem (by omega)
      have ei : row[i.toNat]? = some row[i.toNat] := List.getElem?_eq_getElem (by omega)
      walk_at "mx"
      refine ⟨r, _, _, _, rfl, rfl, S1.seq hr', by rw [show o = ((o.toNat : Nat) : Int) by omega]; exact atI_nat (by rw [List.getElem?_map, eo]; rfl), ?_⟩
      walk_at "mx"
      refine rd_ND (fun _ => ?_) (fun c => ?_)
      · walk_at "mx"
        exact ⟨by show 1 ≤ sizeLine; decide, q _ S1⟩
      walk_at "mx"
      refine ⟨r, _, _, _, rfl, rfl, S1.seq hr', by rw [show i = ((i.toNat : Nat) : Int) by omega]; exact atI_nat (by rw [List.getElem?_map, ei]; rfl), ?_⟩
      walk_at "mx"
      refine rd_ND (fun _ => ?_) (fun c2 => absurd ⟨h0.1, h0.2, h1.1, h1.2, by rw [eo, c], by rw [ei, c2]⟩ hb)
      walk_at "mx"
      exact ⟨by show 1 ≤ sizeLine; decide, q _ S1⟩
theorem okE_Choosing_swappedE {C f R NF NP NR NC : Addr} {fd : FuncData} (T : TB mg) (T2 : TB2 mg) (XE : XT K mg R NF NP NR NC) (TC : CC K C)  (ME_check_row : MtE P w K mg base C 1 "check_row" [] (sxRow K (BC C) NR)) (M_check_spots : Mt P w K mg base C 1 "check_spots" [] (spSpotsOkC K C))
    (F : Fun K "swapped" "Choosing.swapped" s_Choosing_swapped f fd) : FnOk P w K mg base (CXE P w) 2 f fd ["self", "row", "change", "back"] (sxBy K (BC C) NR) := by
  have nd := sc_Choosing_swapped.nd
  obtain ⟨tL, eL⟩ := T2.longest
  refine F.okE sc_Choosing_swapped (fun vs H Q E h => ?_) (fun cdv A outer s H vs Q E hr h => ?_)
  · obtain ⟨p, r, c, b, row, rfl, _⟩ := h
    rfl
  · obtain ⟨p, r, c, b, row, rfl, ⟨n, k, tA, hbad⟩, hr', q⟩ := h
    refine ⟨_, (pss_cons (ps_expr (pe_mtE passE (pv 0) ME_check_row (hr.mono (by decide)) (pa_cons (pv 1) pa_nil)))
      (pss_cons (ps_set (i := 4) nd rfl (Or.inl rfl) (pe_callTy call_list_of (by rfl) T.n_list bt_list (pa_cons (pv 1) pa_nil)))
      (pss_cons (ps_if (pt_cmpR op_notN (pv 2) pe_non (nomark _)) (pss_cons (ps_if (pt_cmpR op_ne (pe_ix ix_tup (pv 2) pe_int (fun _ _ => rfl)) pe_str (nomark _)) (pss_one (ps_raise raiseE rfl XE.x_NoChange (by rfl) XE.g_NoChange (pa_cons pe_str pa_nil))) pss_nil)
      (pss_cons (ps_set (i := 5) nd rfl (Or.inl rfl) (pe_ifExp (pt_val (pv 3)) (pe_ix ix_tup (pv 2) pe_int (fun _ _ => rfl)) (pe_ix ix_tup (pv 2) pe_int (fun _ _ => rfl))))
      (pss_cons (ps_set (i := 6) nd rfl (Or.inl rfl) (pe_ifExp (pt_val (pv 3)) (pe_ix ix_tup (pv 2) pe_int (fun _ _ => rfl)) (pe_ix ix_tup (pv 2) pe_int (fun _ _ => rfl))))
      (pss_cons (ps_expr (pe_mt (pv 0) M_check_spots (hr.mono (by decide)) (pa_cons (pv 1) (pa_cons (pv 5) (pa_cons (pv 6) pa_nil)))))
      (pss_cons (ps_asg pe_int (pg_sub (pv 4) (pv 5) set_list))
      (pss_one (ps_asg pe_int (pg_sub (pv 4) (pv 6) set_list)))))))) pss_nil)
      (pss_one (ps_ret (pv 4)))))), ?_⟩
    walk_at "mx"
    exact ⟨p, r, row, rfl, ⟨n, k, tA, hbad⟩, hr', q⟩
theorem okE_Choosing_swappedF {C f R NF NP NR NC : Addr} {fd : FuncData} (T : TB mg) (T2 : TB2 mg) (XE : XT K mg R NF NP NR NC) (TC : CC K C)  (M_check_row : Mt P w K mg base C 1 "check_row" [] (spRowOkC K C)) (ME_check_spots : MtE P w K mg base C 1 "check_spots" [] (sxSpots K C NC))
    (F : Fun K "swapped" "Choosing.swapped" s_Choosing_swapped f fd) : FnOk P w K mg base (CXE P w) 2 f fd ["self", "row", "change", "back"] (sxSwapped K C NC false) := by
  have nd := sc_Choosing_swapped.nd
  obtain ⟨tL, eL⟩ := T2.longest
  refine F.okE sc_Choosing_swapped (fun vs H Q E h => ?_) (fun cdv A outer s H vs Q E hr h => ?_)
  · obtain ⟨p, r, c, n, k, row, rfl, _⟩ := h
    rfl
  · obtain ⟨p, r, c, n, k, row, rfl, tA, hR, ⟨t, rfl, hc⟩, q⟩ := h
    refine ⟨_, (pss_cons (ps_expr (pe_mt (pv 0) M_check_row (hr.mono (by decide)) (pa_cons (pv 1) pa_nil)))
      (pss_cons (ps_set (i := 4) nd rfl (Or.inl rfl) (pe_callTy call_list_of (by rfl) T.n_list bt_list (pa_cons (pv 1) pa_nil)))
      (pss_cons (ps_if (pt_cmpR op_notN (pv 2) pe_non (nomark _)) (pss_cons (ps_if (pt_cmpR op_ne (pe_ix ix_tup (pv 2) pe_int (fun _ _ => rfl)) pe_str (nomark _)) (pss_one (ps_raise raiseE rfl XE.x_NoChange (by rfl) XE.g_NoChange (pa_cons pe_str pa_nil))) pss_nil)
      (pss_cons (ps_set (i := 5) nd rfl (Or.inl rfl) (pe_ifExp (pt_val (pv 3)) (pe_ix ix_tup (pv 2) pe_int (fun _ _ => rfl)) (pe_ix ix_tup (pv 2) pe_int (fun _ _ => rfl))))
      (pss_cons (ps_set (i := 6) nd rfl (Or.inl rfl) (pe_ifExp (pt_val (pv 3)) (pe_ix ix_tup (pv 2) pe_int (fun _ _ => rfl)) (pe_ix ix_tup (pv 2) pe_int (fun _ _ => rfl))))
      (pss_cons (ps_expr (pe_mtE passE (pv 0) ME_check_spots (hr.mono (by decide)) (pa_cons (pv 1) (pa_cons (pv 5) (pa_cons (pv 6) pa_nil)))))
      (pss_cons (ps_asg pe_int (pg_sub (pv 4) (pv 5) set_list))
      (pss_one (ps_asg pe_int (pg_sub (pv 4) (pv 6) set_list)))))))) pss_nil)
      (pss_one (ps_ret (pv 4)))))), ?_⟩
    have hf := tA.1
    walk_at "mx"
    refine ⟨p, r, n, k, row, rfl, tA, hR, ?_⟩
    obtain ⟨hr', hl, hbt, hs⟩ := hR
    walk_at "mx"
    refine ⟨r, _, rfl, .inl hr', fun lm nm => ?_⟩
    have S1 := (Same.refl H).fresh (o := .lst (row.map V.int)) nm
    have tA1 := tA.same S1
    generalize upd H lm (.lst (row.map V.int)) = H1 at *
    walk_at "mx"
    refine ⟨rfl, ?_⟩
    walk_at "mx"
    refine rd_ND (fun _ => ?_) (fun c => absurd c (by intro z; cases z))
    walk_at "mx"
    rcases hc with ⟨w', xs, ht, hw⟩ | ⟨o, i, ht, hn⟩
    · refine ⟨t, _, _, _, rfl, rfl, S1.tpl ht, atI_nat (j := 0) rfl, ?_⟩
      walk_at "mx"
      refine ⟨rfl, _, rfl, ?_⟩
      refine rd_ND (fun _ => ?_) (fun c => absurd (by cases c; rfl) hw)
      walk_at "mx"
      exact ⟨by show 1 ≤ sizeLine; decide, q _ S1⟩
    have ht1 := S1.tpl ht
    refine ⟨t, _, _, _, rfl, rfl, ht1, rfl, ?_⟩
    walk_at "mx"
    refine ⟨rfl, _, rfl, ?_⟩
    refine rd_ND (fun c => absurd rfl c) (fun _ => ?_)
    walk_at "mx"
    refine ⟨t, _, _, _, rfl, rfl, ht1, rfl, ?_⟩
    walk_at "mx"
    refine ⟨t, _, _, _, rfl, rfl, ht1, rfl, ?_⟩
    walk_at "mx"
    exact ⟨p, r, n, k, _, _, row, rfl, tA1, S1.seq hr', hl, hn, fun H2 S2 => q H2 (S1.trans S2)⟩
theorem okE_Choosing_swappedG {C f R NF NP NR NC : Addr} {fd : FuncData} (T : TB mg) (T2 : TB2 mg) (XE : XT K mg R NF NP NR NC) (TC : CC K C)  (M_check_row : Mt P w K mg base C 1 "check_row" [] (spRowOkC K C)) (ME_check_spots : MtE P w K mg base C 1 "check_spots" [] (sxSpots K C NC))
    (F : Fun K "swapped" "Choosing.swapped" s_Choosing_swapped f fd) : FnOk P w K mg base (CXE P w) 2 f fd ["self", "row", "change", "back"] (sxSwapped K C NC true) := by
  have nd := sc_Choosing_swapped.nd
  obtain ⟨tL, eL⟩ := T2.longest
  refine F.okE sc_Choosing_swapped (fun vs H Q E h => ?_) (fun cdv A outer s H vs Q E hr h => ?_)
  · obtain ⟨p, r, c, n, k, row, rfl, _⟩ := h
    rfl
  · obtain ⟨p, r, c, n, k, row, rfl, tA, hR, ⟨t, rfl, hc⟩, q⟩ := h
    refine ⟨_, (pss_cons (ps_expr (pe_mt (pv 0) M_check_row (hr.mono (by decide)) (pa_cons (pv 1) pa_nil)))
      (pss_cons (ps_set (i := 4) nd rfl (Or.inl rfl) (pe_callTy call_list_of (by rfl) T.n_list bt_list (pa_cons (pv 1) pa_nil)))
      (pss_cons (ps_if (pt_cmpR op_notN (pv 2) pe_non (nomark _)) (pss_cons (ps_if (pt_cmpR op_ne (pe_ix ix_tup (pv 2) pe_int (fun _ _ => rfl)) pe_str (nomark _)) (pss_one (ps_raise raiseE rfl XE.x_NoChange (by rfl) XE.g_NoChange (pa_cons pe_str pa_nil))) pss_nil)
      (pss_cons (ps_set (i := 5) nd rfl (Or.inl rfl) (pe_ifExp (pt_val (pv 3)) (pe_ix ix_tup (pv 2) pe_int (fun _ _ => rfl)) (pe_ix ix_tup (pv 2) pe_int (fun _ _ => rfl))))
      (pss_cons (ps_set (i := 6) nd rfl (Or.inl rfl) (pe_ifExp (pt_val (pv 3)) (pe_ix ix_tup (pv 2) pe_int (fun _ _ => rfl)) (pe_ix ix_tup (pv 2) pe_int (fun _ _ => rfl))))
      (pss_cons (ps_expr (pe_mtE passE (pv 0) ME_check_spots (hr.mono (by decide)) (pa_cons (pv 1) (pa_cons (pv 5) (pa_cons (pv 6) pa_nil)))))
      (pss_cons (ps_asg pe_int (pg_sub (pv 4) (pv 5) set_list))
      (pss_one (ps_asg pe_int (pg_sub (pv 4) (pv 6) set_list)))))))) pss_nil)
      (pss_one (ps_ret (pv 4)))))), ?_⟩
    have hf := tA.1
    walk_at "mx"
    refine ⟨p, r, n, k, row, rfl, tA, hR, ?_⟩
    obtain ⟨hr', hl, hbt, hs⟩ := hR
    walk_at "mx"
    refine ⟨r, _, rfl, .inl hr', fun lm nm => ?_⟩
    have S1 := (Same.refl H).fresh (o := .lst (row.map V.int)) nm
    have tA1 := tA.same S1
    generalize upd H lm (.lst (row.map V.int)) = H1 at *
    walk_at "mx"
    refine ⟨rfl, ?_⟩
    walk_at "mx"
    refine rd_ND (fun _ => ?_) (fun c => absurd c (by intro z; cases z))
    walk_at "mx"
    rcases hc with ⟨w', xs, ht, hw⟩ | ⟨o, i, ht, hn⟩
    · refine ⟨t, _, _, _, rfl, rfl, S1.tpl ht, atI_nat (j := 0) rfl, ?_⟩
      walk_at "mx"
      refine ⟨rfl, _, rfl, ?_⟩
      refine rd_ND (fun _ => ?_) (fun c => absurd (by cases c; rfl) hw)
      walk_at "mx"
      exact ⟨by show 1 ≤ sizeLine; decide, q _ S1⟩
    have ht1 := S1.tpl ht
    refine ⟨t, _, _, _, rfl, rfl, ht1, rfl, ?_⟩
    walk_at "mx"
    refine ⟨rfl, _, rfl, ?_⟩
    refine rd_ND (fun c => absurd rfl c) (fun _ => ?_)
    walk_at "mx"
    refine ⟨t, _, _, _, rfl, rfl, ht1, rfl, ?_⟩
    walk_at "mx"
    refine ⟨t, _, _, _, rfl, rfl, ht1, rfl, ?_⟩
    walk_at "mx"
    exact ⟨p, r, n, k, _, _, row, rfl, tA1, S1.seq hr', hl, hn, fun H2 S2 => q H2 (S1.trans S2)⟩
theorem okE_Choosing_doneE {C f R NF NP NR NC : Addr} {fd : FuncData} (T : TB mg) (T2 : TB2 mg) (XE : XT K mg R NF NP NR NC) (TC : CC K C)  (ME_swapped : MtE P w K mg base C 2 "swapped" [] (sxBy K (BC C) NR))
    (F : Fun K "done" "Choosing.done" s_Choosing_done f fd) : FnOk P w K mg base (CXE P w) 3 f fd ["self", "row", "change"] (sxDone K (BC C) NR) := by
  have nd := sc_Choosing_done.nd
  obtain ⟨tL, eL⟩ := T2.longest
  refine F.okE sc_Choosing_done (fun vs H Q E h => ?_) (fun cdv A outer s H vs Q E hr h => ?_)
  · obtain ⟨p, r, c, row, rfl, _⟩ := h
    rfl
  · obtain ⟨p, r, c, row, rfl, ⟨n, k, tA, hbad⟩, hr', q⟩ := h
    refine ⟨_, (pss_one (ps_ret (pe_mtE passE (pv 0) ME_swapped (hr.mono (by decide)) (pa_cons (pv 1) (pa_cons (pv 2) (pa_cons pe_bl pa_nil)))))), ?_⟩
    walk_at "mx"
    exact ⟨p, r, c, _, row, rfl, ⟨n, k, tA, hbad⟩, hr', q⟩
theorem okE_Choosing_doneF {C f R NF NP NR NC : Addr} {fd : FuncData} (T : TB mg) (T2 : TB2 mg) (XE : XT K mg R NF NP NR NC) (TC : CC K C)  (ME_swapped : MtE P w K mg base C 2 "swapped" [] (sxSwapped K C NC false))
    (F : Fun K "done" "Choosing.done" s_Choosing_done f fd) : FnOk P w K mg base (CXE P w) 3 f fd ["self", "row", "change"] (sxDoneC K C NC false) := by
  have nd := sc_Choosing_done.nd
  obtain ⟨tL, eL⟩ := T2.longest
  refine F.okE sc_Choosing_done (fun vs H Q E h => ?_) (fun cdv A outer s H vs Q E hr h => ?_)
  · obtain ⟨p, r, c, n, k, row, rfl, _⟩ := h
    rfl
  · obtain ⟨p, r, c, n, k, row, rfl, tA, hR, hc, q⟩ := h
    refine ⟨_, (pss_one (ps_ret (pe_mtE passE (pv 0) ME_swapped (hr.mono (by decide)) (pa_cons (pv 1) (pa_cons (pv 2) (pa_cons pe_bl pa_nil)))))), ?_⟩
    walk_at "mx"
    exact ⟨p, r, c, n, k, row, rfl, tA, hR, hc, q⟩
theorem okE_Choosing_undoneE {C f R NF NP NR NC : Addr} {fd : FuncData} (T : TB mg) (T2 : TB2 mg) (XE : XT K mg R NF NP NR NC) (TC : CC K C)  (ME_swapped : MtE P w K mg base C 2 "swapped" [] (sxBy K (BC C) NR))
    (F : Fun K "undone" "Choosing.undone" s_Choosing_undone f fd) : FnOk P w K mg base (CXE P w) 3 f fd ["self", "row", "change"] (sxDone K (BC C) NR) := by
  have nd := sc_Choosing_undone.nd
  obtain ⟨tL, eL⟩ := T2.longest
  refine F.okE sc_Choosing_undone (fun vs H Q E h => ?_) (fun cdv A outer s H vs Q E hr h => ?_)
  · obtain ⟨p, r, c, row, rfl, _⟩ := h
    rfl
  · obtain ⟨p, r, c, row, rfl, ⟨n, k, tA, hbad⟩, hr', q⟩ := h
    refine ⟨_, (pss_one (ps_ret (pe_mtE passE (pv 0) ME_swapped (hr.mono (by decide)) (pa_cons (pv 1) (pa_cons (pv 2) (pa_cons pe_bl pa_nil)))))), ?_⟩
    walk_at "mx"
    exact ⟨p, r, c, _, row, rfl, ⟨n, k, tA, hbad⟩, hr', q⟩
theorem okE_Choosing_undoneF {C f R NF NP NR NC : Addr} {fd : FuncData} (T : TB mg) (T2 : TB2 mg) (XE : XT K mg R NF NP NR NC) (TC : CC K C)  (ME_swapped : MtE P w K mg base C 2 "swapped" [] (sxSwapped K C NC true))
    (F : Fun K "undone" "Choosing.undone" s_Choosing_undone f fd) : FnOk P w K mg base (CXE P w) 3 f fd ["self", "row", "change"] (sxDoneC K C NC true) := by
  have nd := sc_Choosing_undone.nd
  obtain ⟨tL, eL⟩ := T2.longest
  refine F.okE sc_Choosing_undone (fun vs H Q E h => ?_) (fun cdv A outer s H vs Q E hr h => ?_)
  · obtain ⟨p, r, c, n, k, row, rfl, _⟩ := h
    rfl
  · obtain ⟨p, r, c, n, k, row, rfl, tA, hR, hc, q⟩ := h
    refine ⟨_, (pss_one (ps_ret (pe_mtE passE (pv 0) ME_swapped (hr.mono (by decide)) (pa_cons (pv 1) (pa_cons (pv 2) (pa_cons pe_bl pa_nil)))))), ?_⟩
    walk_at "mx"
    exact ⟨p, r, c, n, k, row, rfl, tA, hR, hc, q⟩
theorem fn_l_cell_at {f : Addr} {fd : FuncData} (T : TB mg)  
    (F : Fun K "_law_cell_at" "_law_cell_at" s_l_cell_at f fd) (g : mg "_law_cell_at" = some (.ref f)) (b : Binds K fd ["_law_script", "_law_k"] []) : Fn P w K mg base 1 "_law_cell_at" ["_law_script", "_law_k"] (spCell K) := by
  have nd := sc_l_cell_at.nd
  refine ⟨f, fd, g, F.kp, F.ok sc_l_cell_at (fun vs H Q E h => ?_) (fun cdv A outer s H vs Q E hr h => ?_), b⟩
  · obtain ⟨a, ns, k, rfl, _⟩ := h
    rfl
  · obtain ⟨a, ns, k, rfl, hS, hk, q⟩ := h
    refine ⟨_, (pss_cons (ps_if (pt_cmpR op_lt (pv 1) (pe_callB call_len_seq (by rfl) T.n_len bt_len (pa_cons (pv 0) pa_nil)) (nomark _)) (pss_one (ps_ret (pe_ix ix_list (pv 0) (pv 1) (fun _ _ => rfl)))) pss_nil)
      (pss_one (ps_ret pe_int))), ?_⟩
    walk_at "rd"
    refine ⟨_, _, rfl, .inl hS, ?_⟩
    walk_at "rd"
    rw [List.length_map]
    refine rd_D (fun c => ?_) (fun c => ?_)
    · walk_at "rd"
      obtain ⟨j, rfl⟩ : ∃ j : Nat, k = (j : Int) := ⟨k.toNat, by omega⟩
      have hj : ns[j]? = some (ns.getD j 0) := by
        rw [List.getD, List.getElem?_eq_getElem (by omega)]
        rfl
      refine ⟨a, _, _, _, rfl, rfl, hS, atI_nat (by rw [List.getElem?_map, hj]; rfl), ?_⟩
      exact q
    · walk_at "rd"
      have e : ns.getD k.toNat 0 = 0 := by
        rw [List.getD, List.getElem?_eq_none (by omega)]
        rfl
      rw [e] at q
      exact q
theorem fn_l_length {f : Addr} {fd : FuncData} (T : TB mg)  
    (F : Fun K "_law_length" "_law_length" s_l_length f fd) (g : mg "_law_length" = some (.ref f)) (b : Binds K fd ["_law_cell"] []) : Fn P w K mg base 1 "_law_length" ["_law_cell"] spLength := by
  have nd := sc_l_length.nd
  refine ⟨f, fd, g, F.kp, F.ok sc_l_length (fun vs H Q E h => ?_) (fun cdv A outer s H vs Q E hr h => ?_), b⟩
  · obtain ⟨c, rfl, _⟩ := h
    rfl
  · obtain ⟨c, rfl, q⟩ := h
    refine ⟨_, (pss_cons (ps_if (pt_cmpR op_eq (pe_op op_mod (pv 0) pe_int) pe_int (nomark _)) (pss_one (ps_ret (pe_op op_mod (pe_op op_fdiv (pv 0) pe_int) pe_int))) pss_nil)
      (pss_one (ps_ret (pe_op op_mod (pe_op op_fdiv (pv 0) pe_int) pe_int)))), ?_⟩
    walk_at "rd"
    refine rd_D (fun c => ?_) (fun c => ?_)
    · walk_at "rd"
      exact q _ (by omega) (by omega)
    · walk_at "rd"
      exact q _ (by omega) (by omega)
theorem fn_l_signs {f : Addr} {fd : FuncData} (T : TB mg)  
    (F : Fun K "_law_signs" "_law_signs" s_l_signs f fd) (g : mg "_law_signs" = some (.ref f)) (b : Binds K fd ["_law_cell"] []) : Fn P w K mg base 1 "_law_signs" ["_law_cell"] spSigns := by
  have nd := sc_l_signs.nd
  refine ⟨f, fd, g, F.kp, F.ok sc_l_signs (fun vs H Q E h => ?_) (fun cdv A outer s H vs Q E hr h => ?_), b⟩
  · obtain ⟨c, rfl, _⟩ := h
    rfl
  · obtain ⟨c, rfl, q⟩ := h
    refine ⟨_, (pss_cons (ps_if (pt_cmpR op_eq (pe_op op_mod (pv 0) pe_int) pe_int (nomark _)) (pss_one (ps_ret pe_int)) pss_nil)
      (pss_cons (ps_if (pt_cmpR op_eq (pe_op op_mod (pv 0) pe_int) pe_int (nomark _)) (pss_one (ps_ret (pe_op op_add pe_int (pe_op op_mod (pe_op op_fdiv (pv 0) pe_int) pe_int)))) pss_nil)
      (pss_cons (ps_if (pt_cmpR op_eq (pe_op op_mod (pv 0) pe_int) pe_int (nomark _)) (pss_one (ps_ret (pe_op op_sub (pe_op op_pow pe_int pe_int) (pe_op op_mod (pe_op op_fdiv (pv 0) pe_int) pe_int)))) pss_nil)
      (pss_one (ps_ret (pe_op op_add pe_int (pe_op op_mod (pe_op op_mul (pe_op op_fdiv (pv 0) pe_int) pe_int) (pe_op op_sub (pe_op op_pow pe_int pe_int) pe_int)))))))), ?_⟩
    walk_at "rd"
    refine rd_D (fun c1 => ?_) (fun c1 => ?_)
    · walk_at "rd"
      exact q _ (by omega) (by omega)
    walk_at "rd"
    refine rd_D (fun c2 => ?_) (fun c2 => ?_)
    · walk_at "rd"
      exact q _ (by omega) (by omega)
    walk_at "rd"
    have e12 : (10 : Int) ^ (12 : Int).toNat = 1000000000000 := by decide +kernel
    refine rd_D (fun c3 => ?_) (fun c3 => ?_)
    · walk_at "rd"
      rw [e12]
      exact q _ (by omega) (by omega)
    walk_at "rd"
    rw [e12]
    walk_at "rd"
    exact q _ (by omega) (by omega)
theorem fn_l_which {f R NF NP NR NC : Addr} {fd : FuncData} (T : TB mg) (XE : XT K mg R NF NP NR NC) (XL : XW K mg R NF NP NR NC) (nVE : mg "ValueError" = none)
    (F : Fun K "_law_which" "_law_which" s_l_which f fd) (g : mg "_law_which" = some (.ref f)) (b : Binds K fd ["_law_error"] []) : FnH P w K mg base 1 "_law_which" ["_law_error"] (spWhich NF NP NR NC) := by
  have nd := sc_l_which.nd
  refine ⟨f, fd, g, F.kp, fun ex => F.okH sc_l_which (fun vs H Q E h => ?_) (fun cdv A outer s H vs Q hh h => ?_), b⟩
  · obtain ⟨C, k, rfl, _⟩ := h
    rfl
  · obtain ⟨C, k, rfl, he, hk, q⟩ := h
    obtain ⟨lo, _, kv, k1, k2, k3, k4⟩ := XL.lk C (by rcases hk with z | z | z | z <;> simp [z.1])
    refine ⟨_, (pss_cons (ps_set (i := 1) nd rfl (Or.inr rfl) (pe_lst (pa_cons (pe_callB call_isinstX (by rfl) T.n_isinstance bt_isinstance (pa_cons (pv 0) (pa_cons (pe_bltn (v := .ty "ValueError") (by rfl) nVE bt_ValueError rfl) pa_nil))) (pa_cons (pe_callB call_isinstX (by rfl) T.n_isinstance bt_isinstance (pa_cons (pv 0) (pa_cons (pe_glob (v := .ref _) (by rfl) XE.g_NoForm rfl) pa_nil))) (pa_cons (pe_callB call_isinstX (by rfl) T.n_isinstance bt_isinstance (pa_cons (pv 0) (pa_cons (pe_glob (v := .ref _) (by rfl) XE.g_NoPlace rfl) pa_nil))) pa_nil)))))
      (pss_cons (ps_set (i := 1) nd rfl (Or.inr rfl) (pe_op op_cat (pv 1) (pe_lst (pa_cons (pe_callB call_isinstX (by rfl) T.n_isinstance bt_isinstance (pa_cons (pv 0) (pa_cons (pe_glob (v := .ref _) (by rfl) XE.g_NoRow rfl) pa_nil))) (pa_cons (pe_callB call_isinstX (by rfl) T.n_isinstance bt_isinstance (pa_cons (pv 0) (pa_cons (pe_glob (v := .ref _) (by rfl) XE.g_NoChange rfl) pa_nil))) pa_nil)))))
      (pss_one (ps_ret (pe_compH (ex := ex) (Ce := C) (x := "_law_k") (ns := ["_law_some"]) (is := [1]) (CompScope.of (N := ["_law_error", "_law_some"]) (sc := defScope s_l_which) rfl rfl (by decide +kernel)) hh (pi_range1H (by rfl) T.n_range (pa_cons pe_int pa_nil)) (fun _ _ _ _ => (pifs_one (pt_val (pe_ix (ix_listK (K := K) rfl) (pv 1) (pv 0) (fun _ _ => rfl))))) (fun _ _ _ _ => (pv 0))))))), ?_⟩
    walk_at "mx"
    refine ⟨ex, C, _, .type "ValueError", true, rfl, fun z hz => hz, he, lo, kv, ?_⟩
    walk_at "mx"
    refine ⟨ex, C, _, .ref NF, _, rfl, fun z hz => hz, he, lo, k1, ?_⟩
    walk_at "mx"
    refine ⟨ex, C, _, .ref NP, _, rfl, fun z hz => hz, he, lo, k2, ?_⟩
    walk_at "mx"
    refine ⟨by show 3 ≤ sizeLine; decide, fun l1 n1 => ?_⟩
    have S1 := (Same.refl H).fresh (o := .lst [V.bl true, V.bl (decide (C = NF)), V.bl (decide (C = NP))]) n1
    have h1 : (upd H l1 (.lst [V.bl true, V.bl (decide (C = NF)), V.bl (decide (C = NP))])) l1 = some (.lst [V.bl true, V.bl (decide (C = NF)), V.bl (decide (C = NP))]) := upd_same
    generalize upd H l1 (.lst [V.bl true, V.bl (decide (C = NF)), V.bl (decide (C = NP))]) = H1 at *
    have he1 := S1 _ _ he
    walk_at "mx"
    refine ⟨ex, C, _, .ref NR, _, rfl, fun z hz => hz, he1, lo, k3, ?_⟩
    walk_at "mx"
    refine ⟨ex, C, _, .ref NC, _, rfl, fun z hz => hz, he1, lo, k4, ?_⟩
    walk_at "mx"
    refine ⟨by show 2 ≤ sizeLine; decide, fun l2 n2 => ?_⟩
    have S2 := (Same.refl H1).fresh (o := .lst [V.bl (decide (C = NR)), V.bl (decide (C = NC))]) n2
    have h2 : (upd H1 l2 (.lst [V.bl (decide (C = NR)), V.bl (decide (C = NC))])) l2 = some (.lst [V.bl (decide (C = NR)), V.bl (decide (C = NC))]) := upd_same
    generalize upd H1 l2 (.lst [V.bl (decide (C = NR)), V.bl (decide (C = NC))]) = H2 at *
    refine ⟨l1, l2, _, _, rfl, rfl, S2 _ _ h1, h2, by show 3 + 2 ≤ sizeLine; decide, fun l3 n3 => ?_⟩
    have S3 := (Same.refl H2).fresh (o := .lst ([V.bl true, V.bl (decide (C = NF)), V.bl (decide (C = NP))] ++ [V.bl (decide (C = NR)), V.bl (decide (C = NC))])) n3
    have h3 : (upd H2 l3 (.lst ([V.bl true, V.bl (decide (C = NF)), V.bl (decide (C = NP))] ++ [V.bl (decide (C = NR)), V.bl (decide (C = NC))]))) l3 = some (.lst (([true, decide (C = NF), decide (C = NP), decide (C = NR), decide (C = NC)]).map V.bl)) := upd_same
    generalize upd H2 l3 (.lst ([V.bl true, V.bl (decide (C = NF)), V.bl (decide (C = NP))] ++ [V.bl (decide (C = NR)), V.bl (decide (C = NC))])) = H3 at *
    have he3 := S3 _ _ (S2 _ _ he1)
    have fin : sel [true, decide (C = NF), decide (C = NP), decide (C = NR), decide (C = NC)] 5 = [.int 0, .int k] := by
      obtain ⟨n1, n2, n3, n4, n5, n6⟩ := XL.ne
      rcases hk with ⟨rfl, rfl⟩ | ⟨rfl, rfl⟩ | ⟨rfl, rfl⟩ | ⟨rfl, rfl⟩
      · rw [decide_eq_true rfl, decide_eq_false n1, decide_eq_false n2, decide_eq_false n3]; rfl
      · rw [decide_eq_true rfl, decide_eq_false (Ne.symm n1), decide_eq_false n4, decide_eq_false n5]; rfl
      · rw [decide_eq_true rfl, decide_eq_false (Ne.symm n2), decide_eq_false (Ne.symm n4), decide_eq_false n6]; rfl
      · rw [decide_eq_true rfl, decide_eq_false (Ne.symm n3), decide_eq_false (Ne.symm n5), decide_eq_false (Ne.symm n6)]; rfl
    have hbl : [true, decide (C = NF), decide (C = NP), decide (C = NR), decide (C = NC)].length = 5 := rfl
    generalize [true, decide (C = NF), decide (C = NP), decide (C = NR), decide (C = NC)] = bs at *
    walk_at "mx"
    refine ⟨5, rfl, by decide, by decide, fun i m ys G => G = H3 ∧ ys = sel bs i ∧ m = 5 - i ∧ i ≤ 5, ⟨5, rfl, rfl, rfl, by decide⟩, fun i m ys G hP => by rw [hP.1]; exact he3, fun i m ys G hP => ?_⟩
    obtain ⟨rfl, rfl, rfl, hi⟩ := hP
    refine ⟨small' (by have := sel_len bs i; omega), ?_⟩
    by_cases h5 : i < 5
    · refine .inr ⟨h5, fun ys' H' => H' = G ∧ ys' = sel bs (i + 1), fun ys' H' hN => ⟨5 - (i + 1), by omega, hN.1, hN.2, rfl, by omega⟩, fun v H4 hy => ?_⟩
      obtain ⟨rfl, rfl⟩ := hy
      have hg : bs[i]? = some (bs.getD i false) := by rw [List.getD, List.getElem?_eq_getElem (by omega)]; rfl
      walk_at "mx"
      refine ⟨l3, _, _, _, rfl, rfl, SqL.of h3, by rw [show (0 : Int) + (i : Int) = ((i : Nat) : Int) by omega]; exact atI_nat (by rw [List.getElem?_map, hg]; rfl), ?_⟩
      rw [sel_succ]
      cases hb : bs.getD i false with
      | true =>
        walk_at "mx"
        exact ⟨rfl, by rw [if_pos rfl, show (0 : Int) + (i : Int) = ((i : Nat) : Int) by omega]⟩
      | false =>
        walk_at "mx"
        exact ⟨rfl, by rw [if_neg (by decide)]⟩
    · obtain rfl : i = 5 := by omega
      refine .inl ⟨Nat.le_refl _, fun l nl => ?_⟩
      rw [fin]
      exact q l _ ((S1.trans (S2.trans S3)).fresh (S1.free (S2.free (S3.free nl)))) (S1.free (S2.free (S3.free nl))) upd_same
theorem fn_l_formed {f R NF NP NR NC C_T C_C : Addr} {fd : FuncData} (T : TB mg) (XE : XT K mg R NF NP NR NC) (XL : XW K mg R NF NP NR NC) (DH_which : FnH P w K mg base 1 "_law_which" ["_law_error"] (spWhich NF NP NR NC)) (MK_T : MkrE P w K mg base C_T 12 "Turning" (sxInitT NF)) (MK_C : MkrE P w K mg base C_C 12 "Choosing" (sxInitC NF))
    (F : Fun K "_law_formed" "_law_formed" s_l_formed f fd) (g : mg "_law_formed" = some (.ref f)) (b : Binds K fd ["_law_turning_here", "_law_one", "_law_two"] []) : Fn P w K mg base 14 "_law_formed" ["_law_turning_here", "_law_one", "_law_two"] spFormed := by
  have nd := sc_l_formed.nd
  refine ⟨f, fd, g, F.kp, F.ok0 sc_l_formed (fun vs H Q E h => ?_) (fun cdv A outer s H vs Q E hr h => ?_), b⟩
  · obtain ⟨b0, x, y, rfl, _⟩ := h
    rfl
  · obtain ⟨b0, x, y, rfl, ht, hc, q⟩ := h
    have hE : ∀ C H', (C = NF ∧ ∀ (l : Addr) (H2 : Hp), Same H' H2 → H' l = none → H2 l = some (.lst [.int 0, .int 1]) → Q (.ref l) H2) → PySem.W.exmOne K (.ref C) (.ref R) = some true ∧ ∀ e, H' e = none → spWhich NF NP NR NC e [.ref e] (upd H' e (.ext (XF e C))) Q E0 := by
      rintro C H' ⟨rfl, hq⟩
      refine ⟨(XL.lk C (.inl rfl)).2.1, fun e he => ⟨C, 1, rfl, upd_same, .inl ⟨rfl, rfl⟩, fun l H2 S nl h2 => ?_⟩⟩
      have S0 := (Same.refl H').fresh (o := .ext (XF e C)) he
      exact hq l H2 (S0.trans S) (S0.free nl) h2
    refine ⟨_, (pss0_cons (ps_tryR (i := 3) (Eh := fun C H' => C = NF ∧ ∀ (l : Addr) (H2 : Hp), Same H' H2 → H' l = none → H2 l = some (.lst [.int 0, .int 1]) → Q (.ref l) H2) (rt := Q) rfl ⟨rfl, rfl⟩ nd rfl rfl (by decide) (by decide) (by rfl) XL.gR (by decide)
      (pss_one (ps_if (pt_val (pv 0)) (pss_one (ps_expr (pe_mkE (land_pass rfl) MK_T (hr.mono (by decide)) (by rfl) (pa_cons (pv 1) (pa_cons (pv 2) pa_nil))))) (pss_one (ps_expr (pe_mkE (land_pass rfl) MK_C (hr.mono (by decide)) (by rfl) (pa_cons (pv 1) (pa_cons (pv 2) pa_nil))))))) DH_which (hr.mono (by decide)) (by rfl) (by decide) hE)
      (pss_one (ps_ret (pe_lst pa_nil)))), ?_⟩
    refine ⟨fun v H' h => h, ?_⟩
    walk_at "mx"
    have mk : ∀ (C : Addr) (H' : Hp) (x dx : Addr), H x = none → H dx = none → Same (upd (upd H dx (.own x)) x (.ins C dx [])) H' → ∃ C2, Value.ref NF = .ref C2 ∧ C2 = NF ∧ ∀ (l : Addr) (H2 : Hp), Same H' H2 → H' l = none → H2 l = some (.lst [.int 0, .int 1]) → Q (.ref l) H2 := fun C H' x dx nx ndx S => by
      have S0 : Same H (upd (upd H dx (.own x)) x (.ins C dx [])) := ((Same.refl H).fresh ndx).fresh nx
      exact ⟨NF, rfl, rfl, fun l H2 S2 nl h2 => q l H2 ((S0.trans S).trans S2) ((S0.trans S).free nl) h2⟩
    cases b0 with
    | true =>
      walk_at "mx"
      exact fun x dx nx ndx nex => ⟨_, _, _, rfl, ht rfl, fun H' S => mk _ H' x dx nx ndx S⟩
    | false =>
      walk_at "mx"
      exact fun x dx nx ndx nex => ⟨_, _, _, rfl, hc rfl, fun H' S => mk _ H' x dx nx ndx S⟩
theorem fnE_l_askT {f R NF NP NR NC C : Addr} {fd : FuncData} (T : TB mg) (TC : CT K C) (ME_row_at : MtE P w K mg base C 12 "row_at" [] (sxPlaceT C NP)) (ME_place_of : MtE P w K mg base C 12 "place_of" [] (sxRow K (BT C) NR)) (ME_change : MtE P w K mg base C 12 "change" [] (sxRow K (BT C) NR)) (ME_next_row : MtE P w K mg base C 12 "next_row" [] (sxRow K (BT C) NR)) (ME_row_before : MtE P w K mg base C 12 "row_before" [] (sxRow K (BT C) NR)) (ME_leap : MtE P w K mg base C 12 "leap" [] (sxLeap K (BT C) NR)) (ME_done : MtE P w K mg base C 12 "done" [] (fun vs H Q E => sxDone K (BT C) NR vs H Q E ∨ sxDoneT K C NC vs H Q E)) (ME_undone : MtE P w K mg base C 12 "undone" [] (fun vs H Q E => sxDone K (BT C) NR vs H Q E ∨ sxDoneT K C NC vs H Q E)) (ME_steps1 : MtE P w K mg base C 12 "steps_to" [] (sxSteps1 K (BT C) (GT C) NR)) (ME_steps2 : MtE P w K mg base C 12 "steps_to" [] (sxSteps2 K (BT C) NR))
    (F : Fun K "_law_ask" "_law_ask" s_l_ask f fd) (g : mg "_law_ask" = some (.ref f)) (b : Binds K fd ["_law_lot", "_law_way", "_law_row", "_law_more"] []) : FnE P w K mg base 14 "_law_ask" ["_law_lot", "_law_way", "_law_row", "_law_more"] (spAsk (AkT K NP NR NC C)) := by
  have nd := sc_l_ask.nd
  refine ⟨f, fd, g, F.kp, F.okE sc_l_ask (fun vs H Q E h => ?_) (fun cdv A outer s H vs Q E hr h => ?_), b⟩
  · obtain ⟨p, way, rv, mv, o, rfl, _⟩ := h
    rfl
  · obtain ⟨p, way, rv, mv, o, rfl, ha, hE, hQ⟩ := h
    refine ⟨_, (pss_cons (ps_if (pt_cmpR op_eq (pv 1) pe_int (nomark _)) (pss_one (ps_ret (pe_mtE passE (pv 0) ME_row_at (hr.mono (by decide)) (pa_cons (pv 3) pa_nil)))) pss_nil)
      (pss_cons (ps_if (pt_cmpR op_eq (pv 1) pe_int (nomark _)) (pss_one (ps_ret (pe_mtE passE (pv 0) ME_place_of (hr.mono (by decide)) (pa_cons (pv 2) pa_nil)))) pss_nil)
      (pss_cons (ps_if (pt_cmpR op_eq (pv 1) pe_int (nomark _)) (pss_one (ps_ret (pe_mtE passE (pv 0) ME_change (hr.mono (by decide)) (pa_cons (pv 2) pa_nil)))) pss_nil)
      (pss_cons (ps_if (pt_cmpR op_eq (pv 1) pe_int (nomark _)) (pss_one (ps_ret (pe_mtE passE (pv 0) ME_next_row (hr.mono (by decide)) (pa_cons (pv 2) pa_nil)))) pss_nil)
      (pss_cons (ps_if (pt_cmpR op_eq (pv 1) pe_int (nomark _)) (pss_one (ps_ret (pe_mtE passE (pv 0) ME_row_before (hr.mono (by decide)) (pa_cons (pv 2) pa_nil)))) pss_nil)
      (pss_cons (ps_if (pt_cmpR op_eq (pv 1) pe_int (nomark _)) (pss_one (ps_ret (pe_mtE passE (pv 0) ME_leap (hr.mono (by decide)) (pa_cons (pv 2) (pa_cons (pv 3) pa_nil))))) pss_nil)
      (pss_cons (ps_if (pt_cmpR op_eq (pv 1) pe_int (nomark _)) (pss_one (ps_ret (pe_mtE passE (pv 0) ME_steps1 (hr.mono (by decide)) (pa_cons (pv 2) (pa_cons (pv 3) pa_nil))))) pss_nil)
      (pss_cons (ps_if (pt_cmpR op_eq (pv 1) pe_int (nomark _)) (pss_one (ps_ret (pe_mtE passE (pv 0) ME_steps2 (hr.mono (by decide)) (pa_cons (pv 3) (pa_cons (pv 2) pa_nil))))) pss_nil)
      (pss_cons (ps_if (pt_cmpR op_eq (pv 1) pe_int (nomark _)) (pss_one (ps_ret (pe_mtE passE (pv 0) ME_done (hr.mono (by decide)) (pa_cons (pv 2) (pa_cons (pv 3) pa_nil))))) pss_nil)
      (pss_one (ps_ret (pe_mtE passE (pv 0) ME_undone (hr.mono (by decide)) (pa_cons (pv 2) (pa_cons (pv 3) pa_nil)))))))))))))), ?_⟩
    walk_at "mx"
    rcases ha with ⟨rfl, k, s0, n, rfl, tA, hb, rfl⟩ | ⟨r, row, rfl, hr', ⟨⟨s0, n, tA, hbad⟩, rfl, hw⟩ | ⟨s0, n, tA, hl, hm, hw, hc, rfl⟩⟩
    · skip
      refine rd_D (fun _ => ?_) (fun c => absurd rfl c)
      walk_at "mx"
      exact ⟨p, k, s0, n, rfl, tA, hb, hE _ rfl⟩
    · rcases hw with hw | ⟨rfl, j, rfl⟩ | ⟨hw, r2, row2, rfl, hr2, hg⟩ | rfl | rfl
      · obtain rfl | rfl | rfl | rfl : way = 1 ∨ way = 2 ∨ way = 3 ∨ way = 4 := by omega
        · skip
          refine rd_D (fun c => absurd c (by decide)) (fun _ => ?_)
          walk_at "mx"
          refine rd_D (fun _ => ?_) (fun c => absurd rfl c)
          walk_at "mx"
          exact ⟨p, r, row, rfl, ⟨s0, n, tA, hbad⟩, hr', hE _ rfl⟩
        · skip
          refine rd_D (fun c => absurd c (by decide)) (fun _ => ?_)
          walk_at "mx"
          refine rd_D (fun c => absurd c (by decide)) (fun _ => ?_)
          walk_at "mx"
          refine rd_D (fun _ => ?_) (fun c => absurd rfl c)
          walk_at "mx"
          exact ⟨p, r, row, rfl, ⟨s0, n, tA, hbad⟩, hr', hE _ rfl⟩
        · skip
          refine rd_D (fun c => absurd c (by decide)) (fun _ => ?_)
          walk_at "mx"
          refine rd_D (fun c => absurd c (by decide)) (fun _ => ?_)
          walk_at "mx"
          refine rd_D (fun c => absurd c (by decide)) (fun _ => ?_)
          walk_at "mx"
          refine rd_D (fun _ => ?_) (fun c => absurd rfl c)
          walk_at "mx"
          exact ⟨p, r, row, rfl, ⟨s0, n, tA, hbad⟩, hr', hE _ rfl⟩
        · skip
          refine rd_D (fun c => absurd c (by decide)) (fun _ => ?_)
          walk_at "mx"
          refine rd_D (fun c => absurd c (by decide)) (fun _ => ?_)
          walk_at "mx"
          refine rd_D (fun c => absurd c (by decide)) (fun _ => ?_)
          walk_at "mx"
          refine rd_D (fun c => absurd c (by decide)) (fun _ => ?_)
          walk_at "mx"
          refine rd_D (fun _ => ?_) (fun c => absurd rfl c)
          walk_at "mx"
          exact ⟨p, r, row, rfl, ⟨s0, n, tA, hbad⟩, hr', hE _ rfl⟩
      · skip
        refine rd_D (fun c => absurd c (by decide)) (fun _ => ?_)
        walk_at "mx"
        refine rd_D (fun c => absurd c (by decide)) (fun _ => ?_)
        walk_at "mx"
        refine rd_D (fun c => absurd c (by decide)) (fun _ => ?_)
        walk_at "mx"
        refine rd_D (fun c => absurd c (by decide)) (fun _ => ?_)
        walk_at "mx"
        refine rd_D (fun c => absurd c (by decide)) (fun _ => ?_)
        walk_at "mx"
        refine rd_D (fun _ => ?_) (fun c => absurd rfl c)
        walk_at "mx"
        exact ⟨p, r, j, row, rfl, ⟨s0, n, tA, hbad⟩, hr', hE _ rfl⟩
      · obtain rfl | rfl := hw
        · skip
          refine rd_D (fun c => absurd c (by decide)) (fun _ => ?_)
          walk_at "mx"
          refine rd_D (fun c => absurd c (by decide)) (fun _ => ?_)
          walk_at "mx"
          refine rd_D (fun c => absurd c (by decide)) (fun _ => ?_)
          walk_at "mx"
          refine rd_D (fun c => absurd c (by decide)) (fun _ => ?_)
          walk_at "mx"
          refine rd_D (fun c => absurd c (by decide)) (fun _ => ?_)
          walk_at "mx"
          refine rd_D (fun c => absurd c (by decide)) (fun _ => ?_)
          walk_at "mx"
          refine rd_D (fun _ => ?_) (fun c => absurd rfl c)
          walk_at "mx"
          exact ⟨p, r, r2, row, row2, rfl, ⟨s0, n, tA, hbad⟩, hr', hg, hr2, hE _ rfl⟩
        · skip
          refine rd_D (fun c => absurd c (by decide)) (fun _ => ?_)
          walk_at "mx"
          refine rd_D (fun c => absurd c (by decide)) (fun _ => ?_)
          walk_at "mx"
          refine rd_D (fun c => absurd c (by decide)) (fun _ => ?_)
          walk_at "mx"
          refine rd_D (fun c => absurd c (by decide)) (fun _ => ?_)
          walk_at "mx"
          refine rd_D (fun c => absurd c (by decide)) (fun _ => ?_)
          walk_at "mx"
          refine rd_D (fun c => absurd c (by decide)) (fun _ => ?_)
          walk_at "mx"
          refine rd_D (fun c => absurd c (by decide)) (fun _ => ?_)
          walk_at "mx"
          refine rd_D (fun _ => ?_) (fun c => absurd rfl c)
          walk_at "mx"
          exact ⟨p, r, .ref r2, row, rfl, ⟨s0, n, tA, hbad⟩, hr', hE _ rfl⟩
      · skip
        refine rd_D (fun c => absurd c (by decide)) (fun _ => ?_)
        walk_at "mx"
        refine rd_D (fun c => absurd c (by decide)) (fun _ => ?_)
        walk_at "mx"
        refine rd_D (fun c => absurd c (by decide)) (fun _ => ?_)
        walk_at "mx"
        refine rd_D (fun c => absurd c (by decide)) (fun _ => ?_)
        walk_at "mx"
        refine rd_D (fun c => absurd c (by decide)) (fun _ => ?_)
        walk_at "mx"
        refine rd_D (fun c => absurd c (by decide)) (fun _ => ?_)
        walk_at "mx"
        refine rd_D (fun c => absurd c (by decide)) (fun _ => ?_)
        walk_at "mx"
        refine rd_D (fun c => absurd c (by decide)) (fun _ => ?_)
        walk_at "mx"
        refine rd_D (fun _ => ?_) (fun c => absurd rfl c)
        walk_at "mx"
        exact .inl ⟨p, r, mv, row, rfl, ⟨s0, n, tA, hbad⟩, hr', hE _ rfl⟩
      · skip
        refine rd_D (fun c => absurd c (by decide)) (fun _ => ?_)
        walk_at "mx"
        refine rd_D (fun c => absurd c (by decide)) (fun _ => ?_)
        walk_at "mx"
        refine rd_D (fun c => absurd c (by decide)) (fun _ => ?_)
        walk_at "mx"
        refine rd_D (fun c => absurd c (by decide)) (fun _ => ?_)
        walk_at "mx"
        refine rd_D (fun c => absurd c (by decide)) (fun _ => ?_)
        walk_at "mx"
        refine rd_D (fun c => absurd c (by decide)) (fun _ => ?_)
        walk_at "mx"
        refine rd_D (fun c => absurd c (by decide)) (fun _ => ?_)
        walk_at "mx"
        refine rd_D (fun c => absurd c (by decide)) (fun _ => ?_)
        walk_at "mx"
        refine rd_D (fun c => absurd c (by decide)) (fun _ => ?_)
        walk_at "mx"
        exact .inl ⟨p, r, mv, row, rfl, ⟨s0, n, tA, hbad⟩, hr', hE _ rfl⟩
    · obtain rfl | rfl := hw
      · skip
        refine rd_D (fun c => absurd c (by decide)) (fun _ => ?_)
        walk_at "mx"
        refine rd_D (fun c => absurd c (by decide)) (fun _ => ?_)
        walk_at "mx"
        refine rd_D (fun c => absurd c (by decide)) (fun _ => ?_)
        walk_at "mx"
        refine rd_D (fun c => absurd c (by decide)) (fun _ => ?_)
        walk_at "mx"
        refine rd_D (fun c => absurd c (by decide)) (fun _ => ?_)
        walk_at "mx"
        refine rd_D (fun c => absurd c (by decide)) (fun _ => ?_)
        walk_at "mx"
        refine rd_D (fun c => absurd c (by decide)) (fun _ => ?_)
        walk_at "mx"
        refine rd_D (fun c => absurd c (by decide)) (fun _ => ?_)
        walk_at "mx"
        refine rd_D (fun _ => ?_) (fun c => absurd rfl c)
        walk_at "mx"
        exact .inr ⟨p, r, mv, s0, n, row, rfl, tA, hr', hl, hm, hc, hE _ rfl⟩
      · skip
        refine rd_D (fun c => absurd c (by decide)) (fun _ => ?_)
        walk_at "mx"
        refine rd_D (fun c => absurd c (by decide)) (fun _ => ?_)
        walk_at "mx"
        refine rd_D (fun c => absurd c (by decide)) (fun _ => ?_)
        walk_at "mx"
        refine rd_D (fun c => absurd c (by decide)) (fun _ => ?_)
        walk_at "mx"
        refine rd_D (fun c => absurd c (by decide)) (fun _ => ?_)
        walk_at "mx"
        refine rd_D (fun c => absurd c (by decide)) (fun _ => ?_)
        walk_at "mx"
        refine rd_D (fun c => absurd c (by decide)) (fun _ => ?_)
        walk_at "mx"
        refine rd_D (fun c => absurd c (by decide)) (fun _ => ?_)
        walk_at "mx"
        refine rd_D (fun c => absurd c (by decide)) (fun _ => ?_)
        walk_at "mx"
        exact .inr ⟨p, r, mv, s0, n, row, rfl, tA, hr', hl, hm, hc, hE _ rfl⟩
theorem fnE_l_askC {f R NF NP NR NC C : Addr} {fd : FuncData} (T : TB mg) (TC : CC K C) (ME_row_at : MtE P w K mg base C 12 "row_at" [] (sxPlaceC C NP)) (ME_place_of : MtE P w K mg base C 12 "place_of" [] (sxRow K (BC C) NR)) (ME_change : MtE P w K mg base C 12 "change" [] (sxRow K (BC C) NR)) (ME_next_row : MtE P w K mg base C 12 "next_row" [] (sxRow K (BC C) NR)) (ME_row_before : MtE P w K mg base C 12 "row_before" [] (sxRow K (BC C) NR)) (ME_leap : MtE P w K mg base C 12 "leap" [] (sxLeap K (BC C) NR)) (ME_done : MtE P w K mg base C 12 "done" [] (fun vs H Q E => spDoneC K (CAt C) false vs H Q E ∨ (sxDone K (BC C) NR vs H Q E ∨ sxDoneC K C NC false vs H Q E))) (ME_undone : MtE P w K mg base C 12 "undone" [] (fun vs H Q E => spDoneC K (CAt C) true vs H Q E ∨ (sxDone K (BC C) NR vs H Q E ∨ sxDoneC K C NC true vs H Q E))) (ME_steps1 : MtE P w K mg base C 12 "steps_to" [] (sxSteps1 K (BC C) (GC C) NR)) (ME_steps2 : MtE P w K mg base C 12 "steps_to" [] (sxSteps2 K (BC C) NR))
    (F : Fun K "_law_ask" "_law_ask" s_l_ask f fd) (g : mg "_law_ask" = some (.ref f)) (b : Binds K fd ["_law_lot", "_law_way", "_law_row", "_law_more"] []) : FnE P w K mg base 14 "_law_ask" ["_law_lot", "_law_way", "_law_row", "_law_more"] (spAsk (AkC K NP NR NC C)) := by
  have nd := sc_l_ask.nd
  refine ⟨f, fd, g, F.kp, F.okE sc_l_ask (fun vs H Q E h => ?_) (fun cdv A outer s H vs Q E hr h => ?_), b⟩
  · obtain ⟨p, way, rv, mv, o, rfl, _⟩ := h
    rfl
  · obtain ⟨p, way, rv, mv, o, rfl, ha, hE, hQ⟩ := h
    refine ⟨_, (pss_cons (ps_if (pt_cmpR op_eq (pv 1) pe_int (nomark _)) (pss_one (ps_ret (pe_mtE passE (pv 0) ME_row_at (hr.mono (by decide)) (pa_cons (pv 3) pa_nil)))) pss_nil)
      (pss_cons (ps_if (pt_cmpR op_eq (pv 1) pe_int (nomark _)) (pss_one (ps_ret (pe_mtE passE (pv 0) ME_place_of (hr.mono (by decide)) (pa_cons (pv 2) pa_nil)))) pss_nil)
      (pss_cons (ps_if (pt_cmpR op_eq (pv 1) pe_int (nomark _)) (pss_one (ps_ret (pe_mtE passE (pv 0) ME_change (hr.mono (by decide)) (pa_cons (pv 2) pa_nil)))) pss_nil)
      (pss_cons (ps_if (pt_cmpR op_eq (pv 1) pe_int (nomark _)) (pss_one (ps_ret (pe_mtE passE (pv 0) ME_next_row (hr.mono (by decide)) (pa_cons (pv 2) pa_nil)))) pss_nil)
      (pss_cons (ps_if (pt_cmpR op_eq (pv 1) pe_int (nomark _)) (pss_one (ps_ret (pe_mtE passE (pv 0) ME_row_before (hr.mono (by decide)) (pa_cons (pv 2) pa_nil)))) pss_nil)
      (pss_cons (ps_if (pt_cmpR op_eq (pv 1) pe_int (nomark _)) (pss_one (ps_ret (pe_mtE passE (pv 0) ME_leap (hr.mono (by decide)) (pa_cons (pv 2) (pa_cons (pv 3) pa_nil))))) pss_nil)
      (pss_cons (ps_if (pt_cmpR op_eq (pv 1) pe_int (nomark _)) (pss_one (ps_ret (pe_mtE passE (pv 0) ME_steps1 (hr.mono (by decide)) (pa_cons (pv 2) (pa_cons (pv 3) pa_nil))))) pss_nil)
      (pss_cons (ps_if (pt_cmpR op_eq (pv 1) pe_int (nomark _)) (pss_one (ps_ret (pe_mtE passE (pv 0) ME_steps2 (hr.mono (by decide)) (pa_cons (pv 3) (pa_cons (pv 2) pa_nil))))) pss_nil)
      (pss_cons (ps_if (pt_cmpR op_eq (pv 1) pe_int (nomark _)) (pss_one (ps_ret (pe_mtE passE (pv 0) ME_done (hr.mono (by decide)) (pa_cons (pv 2) (pa_cons (pv 3) pa_nil))))) pss_nil)
      (pss_one (ps_ret (pe_mtE passE (pv 0) ME_undone (hr.mono (by decide)) (pa_cons (pv 2) (pa_cons (pv 3) pa_nil)))))))))))))), ?_⟩
    walk_at "mx"
    rcases ha with ⟨rfl, i, n, k, rfl, tA, hb, rfl⟩ | ⟨r, row, rfl, ⟨⟨n, k, tA, hbad⟩, hr', rfl, hw⟩ | ⟨n, k, tA, hR, hw⟩⟩
    · skip
      refine rd_D (fun _ => ?_) (fun c => absurd rfl c)
      walk_at "mx"
      exact ⟨p, i, n, k, rfl, tA, hb, hE _ rfl⟩
    · rcases hw with hw | ⟨rfl, j, rfl⟩ | ⟨hw, r2, row2, rfl, hr2, hg⟩ | rfl | rfl
      · obtain rfl | rfl | rfl | rfl : way = 1 ∨ way = 2 ∨ way = 3 ∨ way = 4 := by omega
        · skip
          refine rd_D (fun c => absurd c (by decide)) (fun _ => ?_)
          walk_at "mx"
          refine rd_D (fun _ => ?_) (fun c => absurd rfl c)
          walk_at "mx"
          exact ⟨p, r, row, rfl, ⟨n, k, tA, hbad⟩, hr', hE _ rfl⟩
        · skip
          refine rd_D (fun c => absurd c (by decide)) (fun _ => ?_)
          walk_at "mx"
          refine rd_D (fun c => absurd c (by decide)) (fun _ => ?_)
          walk_at "mx"
          refine rd_D (fun _ => ?_) (fun c => absurd rfl c)
          walk_at "mx"
          exact ⟨p, r, row, rfl, ⟨n, k, tA, hbad⟩, hr', hE _ rfl⟩
        · skip
          refine rd_D (fun c => absurd c (by decide)) (fun _ => ?_)
          walk_at "mx"
          refine rd_D (fun c => absurd c (by decide)) (fun _ => ?_)
          walk_at "mx"
          refine rd_D (fun c => absurd c (by decide)) (fun _ => ?_)
          walk_at "mx"
          refine rd_D (fun _ => ?_) (fun c => absurd rfl c)
          walk_at "mx"
          exact ⟨p, r, row, rfl, ⟨n, k, tA, hbad⟩, hr', hE _ rfl⟩
        · skip
          refine rd_D (fun c => absurd c (by decide)) (fun _ => ?_)
          walk_at "mx"
          refine rd_D (fun c => absurd c (by decide)) (fun _ => ?_)
          walk_at "mx"
          refine rd_D (fun c => absurd c (by decide)) (fun _ => ?_)
          walk_at "mx"
          refine rd_D (fun c => absurd c (by decide)) (fun _ => ?_)
          walk_at "mx"
          refine rd_D (fun _ => ?_) (fun c => absurd rfl c)
          walk_at "mx"
          exact ⟨p, r, row, rfl, ⟨n, k, tA, hbad⟩, hr', hE _ rfl⟩
      · skip
        refine rd_D (fun c => absurd c (by decide)) (fun _ => ?_)
        walk_at "mx"
        refine rd_D (fun c => absurd c (by decide)) (fun _ => ?_)
        walk_at "mx"
        refine rd_D (fun c => absurd c (by decide)) (fun _ => ?_)
        walk_at "mx"
        refine rd_D (fun c => absurd c (by decide)) (fun _ => ?_)
        walk_at "mx"
        refine rd_D (fun c => absurd c (by decide)) (fun _ => ?_)
        walk_at "mx"
        refine rd_D (fun _ => ?_) (fun c => absurd rfl c)
        walk_at "mx"
        exact ⟨p, r, j, row, rfl, ⟨n, k, tA, hbad⟩, hr', hE _ rfl⟩
      · obtain rfl | rfl := hw
        · skip
          refine rd_D (fun c => absurd c (by decide)) (fun _ => ?_)
          walk_at "mx"
          refine rd_D (fun c => absurd c (by decide)) (fun _ => ?_)
          walk_at "mx"
          refine rd_D (fun c => absurd c (by decide)) (fun _ => ?_)
          walk_at "mx"
          refine rd_D (fun c => absurd c (by decide)) (fun _ => ?_)
          walk_at "mx"
          refine rd_D (fun c => absurd c (by decide)) (fun _ => ?_)
          walk_at "mx"
          refine rd_D (fun c => absurd c (by decide)) (fun _ => ?_)
          walk_at "mx"
          refine rd_D (fun _ => ?_) (fun c => absurd rfl c)
          walk_at "mx"
          exact ⟨p, r, r2, row, row2, rfl, ⟨n, k, tA, hbad⟩, hr', hg, hr2, hE _ rfl⟩
        · skip
          refine rd_D (fun c => absurd c (by decide)) (fun _ => ?_)
          walk_at "mx"
          refine rd_D (fun c => absurd c (by decide)) (fun _ => ?_)
          walk_at "mx"
          refine rd_D (fun c => absurd c (by decide)) (fun _ => ?_)
          walk_at "mx"
          refine rd_D (fun c => absurd c (by decide)) (fun _ => ?_)
          walk_at "mx"
          refine rd_D (fun c => absurd c (by decide)) (fun _ => ?_)
          walk_at "mx"
          refine rd_D (fun c => absurd c (by decide)) (fun _ => ?_)
          walk_at "mx"
          refine rd_D (fun c => absurd c (by decide)) (fun _ => ?_)
          walk_at "mx"
          refine rd_D (fun _ => ?_) (fun c => absurd rfl c)
          walk_at "mx"
          exact ⟨p, r, .ref r2, row, rfl, ⟨n, k, tA, hbad⟩, hr', hE _ rfl⟩
      · skip
        refine rd_D (fun c => absurd c (by decide)) (fun _ => ?_)
        walk_at "mx"
        refine rd_D (fun c => absurd c (by decide)) (fun _ => ?_)
        walk_at "mx"
        refine rd_D (fun c => absurd c (by decide)) (fun _ => ?_)
        walk_at "mx"
        refine rd_D (fun c => absurd c (by decide)) (fun _ => ?_)
        walk_at "mx"
        refine rd_D (fun c => absurd c (by decide)) (fun _ => ?_)
        walk_at "mx"
        refine rd_D (fun c => absurd c (by decide)) (fun _ => ?_)
        walk_at "mx"
        refine rd_D (fun c => absurd c (by decide)) (fun _ => ?_)
        walk_at "mx"
        refine rd_D (fun c => absurd c (by decide)) (fun _ => ?_)
        walk_at "mx"
        refine rd_D (fun _ => ?_) (fun c => absurd rfl c)
        walk_at "mx"
        exact .inr (.inl ⟨p, r, mv, row, rfl, ⟨n, k, tA, hbad⟩, hr', hE _ rfl⟩)
      · skip
        refine rd_D (fun c => absurd c (by decide)) (fun _ => ?_)
        walk_at "mx"
        refine rd_D (fun c => absurd c (by decide)) (fun _ => ?_)
        walk_at "mx"
        refine rd_D (fun c => absurd c (by decide)) (fun _ => ?_)
        walk_at "mx"
        refine rd_D (fun c => absurd c (by decide)) (fun _ => ?_)
        walk_at "mx"
        refine rd_D (fun c => absurd c (by decide)) (fun _ => ?_)
        walk_at "mx"
        refine rd_D (fun c => absurd c (by decide)) (fun _ => ?_)
        walk_at "mx"
        refine rd_D (fun c => absurd c (by decide)) (fun _ => ?_)
        walk_at "mx"
        refine rd_D (fun c => absurd c (by decide)) (fun _ => ?_)
        walk_at "mx"
        refine rd_D (fun c => absurd c (by decide)) (fun _ => ?_)
        walk_at "mx"
        exact .inr (.inl ⟨p, r, mv, row, rfl, ⟨n, k, tA, hbad⟩, hr', hE _ rfl⟩)
    · obtain ⟨rfl, ⟨hc, rfl⟩ | ⟨rfl, t, x, y, made, rfl, ht, sw⟩⟩ | ⟨rfl, ⟨hc, rfl⟩ | ⟨rfl, t, x, y, made, rfl, ht, sw⟩⟩ := hw
      · skip
        refine rd_D (fun c => absurd c (by decide)) (fun _ => ?_)
        walk_at "mx"
        refine rd_D (fun c => absurd c (by decide)) (fun _ => ?_)
        walk_at "mx"
        refine rd_D (fun c => absurd c (by decide)) (fun _ => ?_)
        walk_at "mx"
        refine rd_D (fun c => absurd c (by decide)) (fun _ => ?_)
        walk_at "mx"
        refine rd_D (fun c => absurd c (by decide)) (fun _ => ?_)
        walk_at "mx"
        refine rd_D (fun c => absurd c (by decide)) (fun _ => ?_)
        walk_at "mx"
        refine rd_D (fun c => absurd c (by decide)) (fun _ => ?_)
        walk_at "mx"
        refine rd_D (fun c => absurd c (by decide)) (fun _ => ?_)
        walk_at "mx"
        refine rd_D (fun _ => ?_) (fun c => absurd rfl c)
        walk_at "mx"
        exact .inr (.inr ⟨p, r, mv, n, k, row, rfl, tA, hR, hc, hE _ rfl⟩)
      · skip
        refine rd_D (fun c => absurd c (by decide)) (fun _ => ?_)
        walk_at "mx"
        refine rd_D (fun c => absurd c (by decide)) (fun _ => ?_)
        walk_at "mx"
        refine rd_D (fun c => absurd c (by decide)) (fun _ => ?_)
        walk_at "mx"
        refine rd_D (fun c => absurd c (by decide)) (fun _ => ?_)
        walk_at "mx"
        refine rd_D (fun c => absurd c (by decide)) (fun _ => ?_)
        walk_at "mx"
        refine rd_D (fun c => absurd c (by decide)) (fun _ => ?_)
        walk_at "mx"
        refine rd_D (fun c => absurd c (by decide)) (fun _ => ?_)
        walk_at "mx"
        refine rd_D (fun c => absurd c (by decide)) (fun _ => ?_)
        walk_at "mx"
        refine rd_D (fun _ => ?_) (fun c => absurd rfl c)
        walk_at "mx"
        exact .inl ⟨p, r, _, n, k, row, made, rfl, tA, hR, .inr ⟨t, x, y, rfl, ht, sw⟩, fun l H' S nl h2 => hQ rfl _ _ S⟩
      · skip
        refine rd_D (fun c => absurd c (by decide)) (fun _ => ?_)
        walk_at "mx"
        refine rd_D (fun c => absurd c (by decide)) (fun _ => ?_)
        walk_at "mx"
        refine rd_D (fun c => absurd c (by decide)) (fun _ => ?_)
        walk_at "mx"
        refine rd_D (fun c => absurd c (by decide)) (fun _ => ?_)
        walk_at "mx"
        refine rd_D (fun c => absurd c (by decide)) (fun _ => ?_)
        walk_at "mx"
        refine rd_D (fun c => absurd c (by decide)) (fun _ => ?_)
        walk_at "mx"
        refine rd_D (fun c => absurd c (by decide)) (fun _ => ?_)
        walk_at "mx"
        refine rd_D (fun c => absurd c (by decide)) (fun _ => ?_)
        walk_at "mx"
        refine rd_D (fun c => absurd c (by decide)) (fun _ => ?_)
        walk_at "mx"
        exact .inr (.inr ⟨p, r, mv, n, k, row, rfl, tA, hR, hc, hE _ rfl⟩)
      · skip
        refine rd_D (fun c => absurd c (by decide)) (fun _ => ?_)
        walk_at "mx"
        refine rd_D (fun c => absurd c (by decide)) (fun _ => ?_)
        walk_at "mx"
        refine rd_D (fun c => absurd c (by decide)) (fun _ => ?_)
        walk_at "mx"
        refine rd_D (fun c => absurd c (by decide)) (fun _ => ?_)
        walk_at "mx"
        refine rd_D (fun c => absurd c (by decide)) (fun _ => ?_)
        walk_at "mx"
        refine rd_D (fun c => absurd c (by decide)) (fun _ => ?_)
        walk_at "mx"
        refine rd_D (fun c => absurd c (by decide)) (fun _ => ?_)
        walk_at "mx"
        refine rd_D (fun c => absurd c (by decide)) (fun _ => ?_)
        walk_at "mx"
        refine rd_D (fun c => absurd c (by decide)) (fun _ => ?_)
        walk_at "mx"
        exact .inl ⟨p, r, _, n, k, row, made, rfl, tA, hR, .inr ⟨t, x, y, rfl, ht, sw⟩, fun l H' S nl h2 => hQ rfl _ _ S⟩
theorem fn_l_refused {Ak : Ask} {f R NF NP NR NC : Addr} {fd : FuncData} (T : TB mg) (XE : XT K mg R NF NP NR NC) (XL : XW K mg R NF NP NR NC) (DH_which : FnH P w K mg base 1 "_law_which" ["_law_error"] (spWhich NF NP NR NC)) (DE_ask : FnE P w K mg base 14 "_law_ask" ["_law_lot", "_law_way", "_law_row", "_law_more"] (spAsk Ak))
    (F : Fun K "_law_refused" "_law_refused" s_l_refused f fd) (g : mg "_law_refused" = some (.ref f)) (b : Binds K fd ["_law_lot", "_law_way", "_law_row", "_law_more"] []) : Fn P w K mg base 16 "_law_refused" ["_law_lot", "_law_way", "_law_row", "_law_more"] (spRefused NF NP NR NC Ak) := by
  have nd := sc_l_refused.nd
  refine ⟨f, fd, g, F.kp, F.ok0 sc_l_refused (fun vs H Q E h => ?_) (fun cdv A outer s H vs Q E hr h => ?_), b⟩
  · obtain ⟨p, way, rv, mv, o, told, rfl, _⟩ := h
    rfl
  · obtain ⟨p, way, rv, mv, o, told, rfl, ha, ho, hn, q⟩ := h
    have hE : ∀ C H', (∃ k, Idx NF NP NR NC C k ∧ ∀ (l : Addr) (H2 : Hp), Same H' H2 → H' l = none → H2 l = some (.lst [.int 0, .int k]) → Q (.ref l) H2) → PySem.W.exmOne K (.ref C) (.ref R) = some true ∧ ∀ e, H' e = none → spWhich NF NP NR NC e [.ref e] (upd H' e (.ext (XF e C))) Q E0 := by
      rintro C H' ⟨k, hk, hq⟩
      refine ⟨(XL.lk C (by rcases hk with z | z | z | z <;> simp [z.1])).2.1, fun e he => ⟨C, k, rfl, upd_same, hk, fun l H2 S nl h2 => ?_⟩⟩
      have S0 := (Same.refl H').fresh (o := .ext (XF e C)) he
      exact hq l H2 (S0.trans S) (S0.free nl) h2
    refine ⟨_, (pss0_cons (ps_tryR (i := 4) (Eh := fun C H' => ∃ k, Idx NF NP NR NC C k ∧ ∀ (l : Addr) (H2 : Hp), Same H' H2 → H' l = none → H2 l = some (.lst [.int 0, .int k]) → Q (.ref l) H2) (rt := Q) rfl ⟨rfl, rfl⟩ nd rfl rfl (by decide) (by decide) (by rfl) XL.gR (by decide)
      (pss_one (ps_expr (pe_fnE (land_pass rfl) DE_ask (hr.mono (by decide)) (by rfl) (pa_cons (pv 0) (pa_cons (pv 1) (pa_cons (pv 2) (pa_cons (pv 3) pa_nil))))))) DH_which (hr.mono (by decide)) (by rfl) (by decide) hE)
      (pss_one (ps_ret (pe_lst pa_nil)))), ?_⟩
    refine ⟨fun v H' h => h, ?_⟩
    walk_at "mx"
    refine ⟨p, way, rv, mv, o, rfl, ha, fun X hX H' S => ?_, fun hN v H' S => ?_⟩
    · obtain ⟨k, hk, rfl⟩ := ho X hX
      exact ⟨X, rfl, k, hk, fun l H2 S2 nl h2 => q l H2 (S.trans S2) (S.free nl) h2⟩
    · obtain rfl := hn hN
      walk_at "mx"
      refine ⟨Nat.zero_le _, fun l nl => ?_⟩
      exact q l _ (S.fresh (S.free nl)) (S.free nl) upd_same
theorem fn_l_forms {f : Addr} {fd : FuncData} (T : TB mg) {R NF NP NR NC : Addr} (D_l_formed : Fn P w K mg base 14 "_law_formed" ["_law_turning_here", "_law_one", "_law_two"] spFormed)
    (F : Fun K "_law_forms" "_law_forms" s_l_forms f fd) (g : mg "_law_forms" = some (.ref f)) (b : Binds K fd ["_law_length_here", "_law_signs_here", "_law_far"] []) : Fn P w K mg base 15 "_law_forms" ["_law_length_here", "_law_signs_here", "_law_far"] spForms := by
  have nd := sc_l_forms.nd
  refine ⟨f, fd, g, F.kp, F.ok sc_l_forms (fun vs H Q E h => ?_) (fun cdv A outer s H vs Q E hr h => ?_), b⟩
  · obtain ⟨n, s0, far, rfl, _⟩ := h
    rfl
  · obtain ⟨n, s0, far, rfl, n0, n1, s1, s2, hf, q⟩ := h
    refine ⟨_, (pss_cons (ps_for PassesOwn.never rfl (pi_list (pe_lst (pa_cons pe_int (pa_cons (pe_un un_neg (pv 2)) (pa_cons (pe_op op_add (pe_op op_add (pe_op op_pow pe_int pe_int) pe_int) (pv 2)) pa_nil))))) (pg_name (i := 3) nd rfl (Or.inl rfl)) (pss_one (ps_if (pt_cmpR (op_neL hr.units0) (pe_fn D_l_formed (hr.mono (by decide)) (by rfl) (pa_cons pe_bl (pa_cons (pv 3) (pa_cons (pv 0) pa_nil)))) (pe_lst (pa_cons pe_int (pa_cons pe_int pa_nil))) (nomark _)) (pss_one (ps_ret pe_bl)) pss_nil)))
      (pss_cons (ps_for PassesOwn.never rfl (pi_list (pe_lst (pa_cons (pe_op op_sub (pe_un un_neg pe_int) (pv 2)) (pa_cons (pe_op op_add pe_int (pv 2)) pa_nil)))) (pg_name (i := 3) nd rfl (Or.inl rfl)) (pss_one (ps_if (pt_cmpR (op_neL hr.units0) (pe_fn D_l_formed (hr.mono (by decide)) (by rfl) (pa_cons pe_bl (pa_cons (pv 1) (pa_cons (pv 3) pa_nil)))) (pe_lst (pa_cons pe_int (pa_cons pe_int pa_nil))) (nomark _)) (pss_one (ps_ret pe_bl)) pss_nil)))
      (pss_cons (ps_for PassesOwn.never rfl (pi_list (pe_lst (pa_cons (pe_tup (pa_cons (pe_op op_sub (pe_un un_neg pe_int) (pv 2)) (pa_cons pe_int pa_nil))) (pa_cons (pe_tup (pa_cons (pe_op op_add pe_int (pv 2)) (pa_cons (pv 0) pa_nil))) (pa_cons (pe_tup (pa_cons (pv 0) (pa_cons (pe_op op_sub (pe_un un_neg pe_int) (pv 2)) pa_nil))) (pa_cons (pe_tup (pa_cons (pv 0) (pa_cons (pe_op op_add (pe_op op_add (pv 0) pe_int) (pv 2)) pa_nil))) pa_nil)))))) (pg_tup rfl (pgs_cons (pg_name (i := 4) nd rfl (Or.inl rfl)) (pgs_cons (pg_name (i := 5) nd rfl (Or.inl rfl)) pgs_nil))) (pss_one (ps_if (pt_cmpR (op_neL hr.units0) (pe_fn D_l_formed (hr.mono (by decide)) (by rfl) (pa_cons pe_bl (pa_cons (pv 4) (pa_cons (pv 5) pa_nil)))) (pe_lst (pa_cons pe_int (pa_cons pe_int pa_nil))) (nomark _)) (pss_one (ps_ret pe_bl)) pss_nil)))
      (pss_one (ps_ret pe_bl))))), ?_⟩
    have e12 : (10 : Int) ^ (12 : Int).toNat = 1000000000000 := by decide +kernel
    walk_at "rd"
    rw [e12]
    walk_at "rd"
    refine ⟨by show 3 ≤ sizeLine; decide, fun lp np => ?_⟩
    have S0 := (Same.refl H).fresh (o := .lst [V.int 1, V.int (-far), V.int (1000000000000 + 1 + far)]) np
    have hp : (upd H lp (.lst [V.int 1, V.int (-far), V.int (1000000000000 + 1 + far)])) lp = some (.lst [V.int 1, V.int (-far), V.int (1000000000000 + 1 + far)]) := upd_same
    generalize upd H lp (.lst [V.int 1, V.int (-far), V.int (1000000000000 + 1 + far)]) = H0 at *
    refine ⟨lp, rfl, ⟨_, SqL.of hp⟩, for_lst (K := K) (xs := [V.int 1, V.int (-far), V.int (1000000000000 + 1 + far)]) (fun i σ' H' => Same H0 H' ∧ ∃ a b c : Option V, σ' = [some (.int n), some (.int s0), some (.int far), a, b, c]) ⟨Same.refl _, none, none, none, rfl⟩ (fun i σ' H' _ hP => SqL.of (hP.1 _ _ hp)) (fun i y σ' H' hy hP => ?_) fun σ' H' hP => ?_⟩
    · obtain ⟨S1, a, b, c, rfl⟩ := hP
      obtain ⟨k, rfl, hk⟩ : ∃ k : Int, y = .int k ∧ (k < 2 ∨ 1000000000000 < k) := by
        match i, hy with
        | 0, hy => exact ⟨_, (Option.some.inj hy).symm, .inl (by omega)⟩
        | 1, hy => exact ⟨_, (Option.some.inj hy).symm, .inl (by omega)⟩
        | 2, hy => exact ⟨_, (Option.some.inj hy).symm, .inr (by omega)⟩
      walk_at "rd"
      refine ⟨_, _, _, rfl, (fun _ => by omega), (fun h => nomatch h), fun l H3 S3 nl h3 => ?_⟩
      walk_at "rd"
      refine ⟨by show 2 ≤ sizeLine; decide, fun l2 n2 => ?_⟩
      have S4 := (Same.refl H3).fresh (o := .lst [V.int 0, V.int 1]) n2
      refine ⟨l, l2, [0, 1], [0, 1], rfl, rfl, SqL.of (S4 _ _ h3), SqL.of upd_same, ?_⟩
      walk_at "rd"
      refine rd_ND (fun c => absurd rfl c) (fun _ => ?_)
      walk_at "rd"
      exact ⟨S1.trans (S3.trans S4), _, _, _, rfl⟩
    obtain ⟨Sa, a, b, c, rfl⟩ := hP
    walk_at "rd"
    refine ⟨by show 2 ≤ sizeLine; decide, fun lp2 np2 => ?_⟩
    have S5 := (Same.refl H').fresh (o := .lst [V.int (-1 - far), V.int (201 + far)]) np2
    have hp2 : (upd H' lp2 (.lst [V.int (-1 - far), V.int (201 + far)])) lp2 = some (.lst [V.int (-1 - far), V.int (201 + far)]) := upd_same
    generalize upd H' lp2 (.lst [V.int (-1 - far), V.int (201 + far)]) = H5 at *
    refine ⟨lp2, rfl, ⟨_, SqL.of hp2⟩, for_lst (K := K) (xs := [V.int (-1 - far), V.int (201 + far)]) (fun i σ' H' => Same H5 H' ∧ ∃ a b c : Option V, σ' = [some (.int n), some (.int s0), some (.int far), a, b, c]) ⟨Same.refl _, _, _, _, rfl⟩ (fun i σ' H' _ hP => SqL.of (hP.1 _ _ hp2)) (fun i y σ' H' hy hP => ?_) fun σ' H' hP => ?_⟩
    · obtain ⟨S1, a, b, c, rfl⟩ := hP
      obtain ⟨k, rfl, hk⟩ : ∃ k : Int, y = .int k ∧ (k < 0 ∨ 200 < k) := by
        match i, hy with
        | 0, hy => exact ⟨_, (Option.some.inj hy).symm, .inl (by omega)⟩
        | 1, hy => exact ⟨_, (Option.some.inj hy).symm, .inr (by omega)⟩
      walk_at "rd"
      refine ⟨_, _, _, rfl, (fun _ => by omega), (fun h => nomatch h), fun l H3 S3 nl h3 => ?_⟩
      walk_at "rd"
      refine ⟨by show 2 ≤ sizeLine; decide, fun l2 n2 => ?_⟩
      have S4 := (Same.refl H3).fresh (o := .lst [V.int 0, V.int 1]) n2
      refine ⟨l, l2, [0, 1], [0, 1], rfl, rfl, SqL.of (S4 _ _ h3), SqL.of upd_same, ?_⟩
      walk_at "rd"
      refine rd_ND (fun c => absurd rfl c) (fun _ => ?_)
      walk_at "rd"
      exact ⟨S1.trans (S3.trans S4), _, _, _, rfl⟩
    obtain ⟨Sb, a, b, c, rfl⟩ := hP
    walk_at "rd"
    
    refine ⟨by show 2 ≤ sizeLine; decide, fun u1 fn1 => ?_⟩
    have W1 := (Same.refl H').fresh (o := .tup [V.int (-1 - far), V.int 0]) fn1
    have k1 : (upd H' u1 (.tup [V.int (-1 - far), V.int 0])) u1 = some (.tup [V.int (-1 - far), V.int 0]) := upd_same
    generalize upd H' u1 (.tup [V.int (-1 - far), V.int 0]) = G1 at *
    walk_at "rd"
    refine ⟨by show 2 ≤ sizeLine; decide, fun u2 fn2 => ?_⟩
    have W2 := (Same.refl G1).fresh (o := .tup [V.int (201 + far), V.int n]) fn2
    have k2 : (upd G1 u2 (.tup [V.int (201 + far), V.int n])) u2 = some (.tup [V.int (201 + far), V.int n]) := upd_same
    generalize upd G1 u2 (.tup [V.int (201 + far), V.int n]) = G2 at *
    walk_at "rd"
    refine ⟨by show 2 ≤ sizeLine; decide, fun u3 fn3 => ?_⟩
    have W3 := (Same.refl G2).fresh (o := .tup [V.int n, V.int (-1 - far)]) fn3
    have k3 : (upd G2 u3 (.tup [V.int n, V.int (-1 - far)])) u3 = some (.tup [V.int n, V.int (-1 - far)]) := upd_same
    generalize upd G2 u3 (.tup [V.int n, V.int (-1 - far)]) = G3 at *
    walk_at "rd"
    refine ⟨by show 2 ≤ sizeLine; decide, fun u4 fn4 => ?_⟩
    have W4 := (Same.refl G3).fresh (o := .tup [V.int n, V.int (n + 1 + far)]) fn4
    have k4 : (upd G3 u4 (.tup [V.int n, V.int (n + 1 + far)])) u4 = some (.tup [V.int n, V.int (n + 1 + far)]) := upd_same
    generalize upd G3 u4 (.tup [V.int n, V.int (n + 1 + far)]) = G4 at *
    walk_at "rd"
    refine ⟨by show 4 ≤ sizeLine; decide, fun u5 fn5 => ?_⟩
    have W5 := (Same.refl G4).fresh (o := .lst [V.ref u1, V.ref u2, V.ref u3, V.ref u4]) fn5
    have k5 : (upd G4 u5 (.lst [V.ref u1, V.ref u2, V.ref u3, V.ref u4])) u5 = some (.lst [V.ref u1, V.ref u2, V.ref u3, V.ref u4]) := upd_same
    generalize upd G4 u5 (.lst [V.ref u1, V.ref u2, V.ref u3, V.ref u4]) = G5 at *
    walk_at "rd"
    have j4 := W5 _ _ k4
    have j3 := W5 _ _ (W4 _ _ k3)
    have j2 := W5 _ _ (W4 _ _ (W3 _ _ k2))
    have j1 := W5 _ _ (W4 _ _ (W3 _ _ (W2 _ _ k1)))
    refine ⟨u5, rfl, ⟨_, SqL.of k5⟩, for_lst (K := K) (xs := [V.ref u1, V.ref u2, V.ref u3, V.ref u4]) (fun i σ' H' => Same G5 H' ∧ ∃ a b c : Option V, σ' = [some (.int n), some (.int s0), some (.int far), a, b, c]) ⟨Same.refl _, _, _, _, rfl⟩ (fun i σ' H' _ hP => SqL.of (hP.1 _ _ k5)) (fun i y σ' H' hy hP => ?_) fun σ' H' hP => ?_⟩
    · obtain ⟨S1, a, b, c, rfl⟩ := hP
      obtain ⟨t, x, z, rfl, ht, hk⟩ : ∃ (t : Addr) (x z : Int), y = .ref t ∧ G5 t = some (.tup [.int x, .int z]) ∧ ¬ (0 ≤ x ∧ x ≤ 200 ∧ 0 ≤ z ∧ z ≤ x) := by
        match i, hy with
        | 0, hy => exact ⟨_, _, _, (Option.some.inj hy).symm, j1, by omega⟩
        | 1, hy => exact ⟨_, _, _, (Option.some.inj hy).symm, j2, by omega⟩
        | 2, hy => exact ⟨_, _, _, (Option.some.inj hy).symm, j3, by omega⟩
        | 3, hy => exact ⟨_, _, _, (Option.some.inj hy).symm, j4, by omega⟩
      refine ⟨t, _, rfl, SqT.of (S1 _ _ ht), rfl, _, _, rfl, ?_⟩
      walk_at "rd"
      refine ⟨_, _, rfl, ?_⟩
      walk_at "rd"
      refine ⟨rfl, ?_⟩
      walk_at "rd"
      refine ⟨_, _, _, rfl, (fun h => nomatch h), (fun _ => hk), fun l H3 S3 nl h3 => ?_⟩
      walk_at "rd"
      refine ⟨by show 2 ≤ sizeLine; decide, fun l2 n2 => ?_⟩
      have S4 := (Same.refl H3).fresh (o := .lst [V.int 0, V.int 1]) n2
      refine ⟨l, l2, [0, 1], [0, 1], rfl, rfl, SqL.of (S4 _ _ h3), SqL.of upd_same, ?_⟩
      walk_at "rd"
      refine rd_ND (fun c => absurd rfl c) (fun _ => ?_)
      walk_at "rd"
      exact ⟨S1.trans (S3.trans S4), _, _, _, rfl⟩
    obtain ⟨Sc, a, b, c, rfl⟩ := hP
    walk_at "rd"
    exact q _ (S0.trans (Sa.trans (S5.trans (Sb.trans (W1.trans (W2.trans (W3.trans (W4.trans (W5.trans Sc)))))))))
theorem fn_l_bad_row {f : Addr} {fd : FuncData} (T : TB mg)  
    (F : Fun K "_law_bad_row" "_law_bad_row" s_l_bad_row f fd) (g : mg "_law_bad_row" = some (.ref f)) (b : Binds K fd ["_law_row", "_law_cell", "_law_signs_here", "_law_far"] []) : Fn P w K mg base 1 "_law_bad_row" ["_law_row", "_law_cell", "_law_signs_here", "_law_far"] (spBadRow K) := by
  have nd := sc_l_bad_row.nd
  refine ⟨f, fd, g, F.kp, F.ok sc_l_bad_row (fun vs H Q E h => ?_) (fun cdv A outer s H vs Q E hr h => ?_), b⟩
  · obtain ⟨r, cell, s0, far, row, rfl, _⟩ := h
    rfl
  · obtain ⟨r, cell, s0, far, row, rfl, hr', lr, s1, hf, q⟩ := h
    refine ⟨_, (pss_cons (ps_set (i := 4) nd rfl (Or.inl rfl) (pe_callTy call_list_of (by rfl) T.n_list bt_list (pa_cons (pv 0) pa_nil)))
      (pss_cons (ps_set (i := 5) nd rfl (Or.inl rfl) (pe_op op_mod (pe_op op_fdiv (pv 1) pe_int) (pe_callB (call_max2 rfl) (by rfl) T.n_max bt_max (pa_cons pe_int (pa_cons (pe_callB call_len_seq (by rfl) T.n_len bt_len (pa_cons (pv 0) pa_nil)) pa_nil)))))
      (pss_cons (ps_if (PW.pt (pw_or (pt_cmpR op_eq (pe_callB call_len_seq (by rfl) T.n_len bt_len (pa_cons (pv 0) pa_nil)) pe_int (nomark _)) (pw_or1 (pt_cmpR op_eq (pe_op op_mod (pv 1) pe_int) pe_int (nomark _))))) (pss_one (ps_expr (pe_bm PySem.F.plainAttrs_list PySem.F.slot_list_insert PySem.F.type_list_insert mt_insert (pv 4) (pa_cons (pv 5) (pa_cons (pe_op op_mod (pe_op op_fdiv (pv 1) pe_int) (pv 2)) pa_nil))))) (pss_one (ps_if (pt_cmpR op_eq (pe_op op_mod (pv 1) pe_int) pe_int (nomark _)) (pss_one (ps_expr (pe_bm PySem.F.plainAttrs_list PySem.F.slot_list_pop PySem.F.type_list_pop mt_popAt (pv 4) (pa_cons (pv 5) pa_nil)))) (pss_one (ps_if (pt_cmpR op_eq (pe_op op_mod (pv 1) pe_int) pe_int (nomark _)) (pss_one (ps_asg (pe_op op_add (pv 2) (pv 3)) (pg_sub (pv 4) (pv 5) set_list))) (pss_one (ps_asg (pe_op op_sub (pe_un un_neg pe_int) (pv 3)) (pg_sub (pv 4) (pv 5) set_list))))))))
      (pss_one (ps_ret (pv 4)))))), ?_⟩
    walk_at "rd"
    refine ⟨r, _, rfl, .inl hr', fun lk nk => ?_⟩
    have S0 := (Same.refl H).fresh (o := .lst (row.map V.int)) nk
    have hk : (upd H lk (.lst (row.map V.int))) lk = some (.lst (row.map V.int)) := upd_same
    generalize upd H lk (.lst (row.map V.int)) = H0 at *
    walk_at "rd"
    refine ⟨r, _, rfl, .inl (S0.seq hr'), ?_⟩
    walk_at "rd"
    rw [List.length_map]
    walk_at "rd"
    refine ⟨_, _, rfl, ?_⟩
    have hm : 0 < (if ((row.length : Nat) : Int) > 1 then ((row.length : Nat) : Int) else 1) ∧ (0 < row.length → (if ((row.length : Nat) : Int) > 1 then ((row.length : Nat) : Int) else 1) = row.length) ∧ (row.length = 0 → (if ((row.length : Nat) : Int) > 1 then ((row.length : Nat) : Int) else 1) = 1) := by split <;> omega
    generalize (if ((row.length : Nat) : Int) > 1 then ((row.length : Nat) : Int) else 1) = mx at *
    obtain ⟨m0, m1, m2⟩ := hm
    refine rd_I (by show 0 < mx; omega) ?_
    have a0 := Int.emod_nonneg (cell / 4) (show mx ≠ 0 by omega)
    have a1 := Int.emod_lt_of_pos (cell / 4) m0
    generalize cell / 4 % mx = at' at *
    walk_at "rd"
    refine ⟨r, _, rfl, .inl (S0.seq hr'), ?_⟩
    walk_at "rd"
    rw [List.length_map]
    walk_at "rd"
    refine rd_D (fun c1 => ?_) (fun c1 => ?_)
    · skip
      walk_at "rd"
      refine ⟨ty_lst hk, ?_⟩
      walk_at "rd"
      refine ⟨lk, _, _, _, rfl, rfl, hk, by omega, by rw [List.length_map]; omega, small' (by rw [List.length_map]; omega), ?_⟩
      rw [Ms.map_ins]
      walk_at "rd"
      exact q lk _ _ (S0.fresh nk) nk upd_same (by rw [Ms.ins_len]; omega) (Ms.badT_ins _ _ _ _)
    walk_at "rd"
    refine rd_D (fun c2 => ?_) (fun c2 => ?_)
    · skip
      walk_at "rd"
      refine ⟨ty_lst hk, ?_⟩
      walk_at "rd"
      refine ⟨lk, _, _, _, rfl, rfl, hk, by omega, by rw [List.length_map]; omega, small' (by rw [List.length_map]; omega), ?_⟩
      rw [Ms.map_ins]
      walk_at "rd"
      exact q lk _ _ (S0.fresh nk) nk upd_same (by rw [Ms.ins_len]; omega) (Ms.badT_ins _ _ _ _)
    have ml := m1 (by omega)
    walk_at "rd"
    refine rd_D (fun c3 => ?_) (fun c3 => ?_)
    · walk_at "rd"
      refine ⟨ty_lst hk, ?_⟩
      walk_at "rd"
      refine ⟨lk, _, at', at'.toNat, .int (row.getD at'.toNat 0), rfl, rfl, hk, by omega, by omega, (ixN_seq (ixN_in a0 (by rw [List.length_map]; omega))).1, by rw [List.getElem?_map, get_lt (by omega)]; rfl, ?_⟩
      rw [Ms.map_pop]
      walk_at "rd"
      exact q lk _ _ (S0.fresh nk) nk upd_same (by rw [List.length_eraseIdx_of_lt (by omega)]; omega) (Ms.badT_pop _ (by omega))
    walk_at "rd"
    refine rd_D (fun c4 => ?_) (fun c4 => ?_)
    · skip
      walk_at "rd"
      refine ⟨lk, _, at', at'.toNat, rfl, rfl, hk, ixN_in a0 (by rw [List.length_map]; omega), ?_⟩
      rw [Ms.map_set']
      walk_at "rd"
      exact q lk _ _ (S0.fresh nk) nk upd_same (by rw [List.length_set]; omega) (Ms.badT_set (by omega) (by omega))
    · skip
      walk_at "rd"
      refine ⟨lk, _, at', at'.toNat, rfl, rfl, hk, ixN_in a0 (by rw [List.length_map]; omega), ?_⟩
      rw [Ms.map_set']
      walk_at "rd"
      exact q lk _ _ (S0.fresh nk) nk upd_same (by rw [List.length_set]; omega) (Ms.badT_set (by omega) (by omega))
theorem fn_l_bad_ones {f : Addr} {fd : FuncData} (T : TB mg)  
    (F : Fun K "_law_bad_ones" "_law_bad_ones" s_l_bad_ones f fd) (g : mg "_law_bad_ones" = some (.ref f)) (b : Binds K fd ["_law_row", "_law_cell", "_law_other", "_law_far"] []) : Fn P w K mg base 1 "_law_bad_ones" ["_law_row", "_law_cell", "_law_other", "_law_far"] (spBadOnes K) := by
  have nd := sc_l_bad_ones.nd
  refine ⟨f, fd, g, F.kp, F.ok sc_l_bad_ones (fun vs H Q E h => ?_) (fun cdv A outer s H vs Q E hr h => ?_), b⟩
  · obtain ⟨r, cell, oth, far, row, rfl, _⟩ := h
    rfl
  · obtain ⟨r, cell, oth, far, row, rfl, hr', lr, hb, hf, q⟩ := h
    refine ⟨_, (pss_cons (ps_set (i := 4) nd rfl (Or.inl rfl) (pe_callTy call_list_of (by rfl) T.n_list bt_list (pa_cons (pv 0) pa_nil)))
      (pss_cons (ps_set (i := 5) nd rfl (Or.inl rfl) (pe_op op_mod (pe_op op_fdiv (pv 1) pe_int) (pe_callB (call_max2 rfl) (by rfl) T.n_max bt_max (pa_cons pe_int (pa_cons (pe_callB call_len_seq (by rfl) T.n_len bt_len (pa_cons (pv 0) pa_nil)) pa_nil)))))
      (pss_cons (ps_setComp (j := 6) nd rfl (Or.inl rfl) (x := "_law_k") (ns := ["_law_row"]) (is := [0]) (CompScope.of (N := ["_law_row", "_law_cell", "_law_other", "_law_far", "_law_bad", "_law_at", "_law_full"]) (sc := defScope s_l_bad_ones) rfl rfl (by decide +kernel)) rfl (pi_range1 (by rfl) T.n_range (pa_cons (pe_callB call_len_seq (by rfl) T.n_len bt_len (pa_cons (pv 0) pa_nil)) pa_nil)) (fun _ _ _ _ => (pifs_one (pt_cmpR op_eq (pe_ix (ix_listK (K := K) rfl) (pv 1) (pv 0) (fun _ _ => rfl)) pe_int (nomark _)))) (fun _ _ _ _ => (pv 0)))
      (pss_cons (ps_if (PW.pt (pw_or (pt_cmpR op_eq (pe_callB call_len_seq (by rfl) T.n_len bt_len (pa_cons (pv 0) pa_nil)) pe_int (nomark _)) (pw_or1 (pt_cmpR op_eq (pe_op op_mod (pv 1) pe_int) pe_int (nomark _))))) (pss_one (ps_expr (pe_bm PySem.F.plainAttrs_list PySem.F.slot_list_insert PySem.F.type_list_insert mt_insert (pv 4) (pa_cons (pv 5) (pa_cons pe_int pa_nil))))) (pss_one (ps_if (pt_cmpR op_eq (pe_op op_mod (pv 1) pe_int) pe_int (nomark _)) (pss_one (ps_expr (pe_bm PySem.F.plainAttrs_list PySem.F.slot_list_pop PySem.F.type_list_pop mt_popAt (pv 4) (pa_cons (pv 5) pa_nil)))) (pss_one (ps_if (PW.pt (pw_and (pt_cmpR op_eq (pe_op op_mod (pv 1) pe_int) pe_int (nomark _)) (pw_and1 (pt_cmpR op_gt (pe_callB call_len_seq (by rfl) T.n_len bt_len (pa_cons (pv 6) pa_nil)) pe_int (nomark _))))) (pss_cons (ps_asg pe_int (pg_sub (pv 4) (pe_ix ix_list (pv 6) (pe_op op_mod (pv 5) (pe_callB call_len_seq (by rfl) T.n_len bt_len (pa_cons (pv 6) pa_nil))) (fun _ _ => rfl)) set_list))
      (pss_one (ps_asg pe_int (pg_sub (pv 4) (pe_ix ix_list (pv 6) (pe_op op_mod (pe_op op_add (pe_op op_add (pv 5) pe_int) (pe_op op_mod (pv 2) (pe_op op_sub (pe_callB call_len_seq (by rfl) T.n_len bt_len (pa_cons (pv 6) pa_nil)) pe_int))) (pe_callB call_len_seq (by rfl) T.n_len bt_len (pa_cons (pv 6) pa_nil))) (fun _ _ => rfl)) set_list)))) (pss_one (ps_if (PW.pt (pw_or (pt_cmpR op_lt (pe_op op_mod (pv 1) pe_int) pe_int (nomark _)) (pw_or1 (pt_cmpR op_eq (pe_callB call_len_seq (by rfl) T.n_len bt_len (pa_cons (pv 0) pa_nil)) pe_int (nomark _))))) (pss_one (ps_asg (pe_op op_sub pe_int (pe_ix ix_list (pv 4) (pv 5) (fun _ _ => rfl))) (pg_sub (pv 4) (pv 5) set_list))) (pss_one (ps_if (pt_cmpR op_eq (pe_op op_mod (pv 1) pe_int) pe_int (nomark _)) (pss_cons (ps_asg (pe_op op_add (pe_op op_add (pe_ix ix_list (pv 4) (pv 5) (fun _ _ => rfl)) pe_int) (pv 3)) (pg_sub (pv 4) (pv 5) set_list))
      (pss_cons (ps_set (i := 5) nd rfl (Or.inl rfl) (pe_op op_mod (pe_op op_add (pe_op op_add (pv 5) pe_int) (pe_op op_mod (pv 2) (pe_op op_sub (pe_callB call_len_seq (by rfl) T.n_len bt_len (pa_cons (pv 0) pa_nil)) pe_int))) (pe_callB call_len_seq (by rfl) T.n_len bt_len (pa_cons (pv 0) pa_nil))))
      (pss_one (ps_asg (pe_op op_sub (pe_op op_sub (pe_ix ix_list (pv 4) (pv 5) (fun _ _ => rfl)) pe_int) (pv 3)) (pg_sub (pv 4) (pv 5) set_list))))) (pss_one (ps_expr (pe_bm PySem.F.plainAttrs_list PySem.F.slot_list_insert PySem.F.type_list_insert mt_insert (pv 4) (pa_cons (pv 5) (pa_cons pe_int pa_nil))))))))))))))
      (pss_one (ps_ret (pv 4))))))), ?_⟩
    walk_at "rd"
    refine ⟨r, _, rfl, .inl hr', fun lk nk => ?_⟩
    have S0 := (Same.refl H).fresh (o := .lst (row.map V.int)) nk
    have hk : (upd H lk (.lst (row.map V.int))) lk = some (.lst (row.map V.int)) := upd_same
    generalize upd H lk (.lst (row.map V.int)) = H0 at *
    walk_at "rd"
    refine ⟨r, _, rfl, .inl (S0.seq hr'), ?_⟩
    walk_at "rd"
    rw [List.length_map]
    walk_at "rd"
    refine ⟨_, _, rfl, ?_⟩
    have hm : 0 < (if ((row.length : Nat) : Int) > 1 then ((row.length : Nat) : Int) else 1) ∧ (0 < row.length → (if ((row.length : Nat) : Int) > 1 then ((row.length : Nat) : Int) else 1) = row.length) ∧ (row.length = 0 → (if ((row.length : Nat) : Int) > 1 then ((row.length : Nat) : Int) else 1) = 1) := by split <;> omega
    generalize (if ((row.length : Nat) : Int) > 1 then ((row.length : Nat) : Int) else 1) = mx at *
    obtain ⟨m0, m1, m2⟩ := hm
    refine rd_I (by show 0 < mx; omega) ?_
    have a0 := Int.emod_nonneg (cell / 6) (show mx ≠ 0 by omega)
    have a1 := Int.emod_lt_of_pos (cell / 6) m0
    generalize cell / 6 % mx = at' at *
    walk_at "rd"
    refine ⟨r, _, rfl, .inl (S0.seq hr'), ?_⟩
    walk_at "rd"
    rw [List.length_map]
    walk_at "rd"
    refine ⟨_, rfl, by omega, by omega, comp_rng (n := row.length) (fun j ys G => G = H0 ∧ ∃ zs : List Int, ys = zs.map V.int ∧ zs.length ≤ j ∧ zs.Nodup ∧ ∀ e ∈ zs, ∃ e' : Nat, e = e' ∧ e' < j ∧ row[e']? = some 1) ⟨rfl, [], rfl, Nat.le_refl _, List.nodup_nil, (fun e he => by cases he)⟩ (small' (by omega)) (fun j ys G hP => by
      obtain ⟨_, zs, rfl, h, _⟩ := hP
      rw [List.length_map]
      exact h) (fun j ys G hj hP => ?_) fun ys G hP => ?_⟩
    · obtain ⟨rfl, zs, rfl, z1, z2, z3⟩ := hP
      have z3' : ∀ e ∈ zs, ∃ e' : Nat, e = e' ∧ e' < j + 1 ∧ row[e']? = some 1 := fun e he => by
        obtain ⟨e', x1, x2, x3⟩ := z3 e he
        exact ⟨e', x1, by omega, x3⟩
      walk_at "rd"
      refine ⟨r, _, _, _, rfl, rfl, S0.seq hr', atI0 (get_lt hj), ?_⟩
      walk_at "rd"
      refine rd_D (fun e => ?_) (fun e => ?_)
      · walk_at "rd"
        refine ⟨rfl, zs ++ [0 + (j : Int)], by rw [List.map_append]; rfl, by rw [List.length_append]; show _ + 1 ≤ _; omega, ?_, fun f hf => ?_⟩
        · rw [List.nodup_append]
          refine ⟨z2, List.nodup_cons.mpr ⟨List.not_mem_nil, List.nodup_nil⟩, fun x hx y hy e => ?_⟩
          obtain ⟨e', x1, x2, _⟩ := z3 x hx
          rw [List.mem_singleton.mp hy] at e
          omega
        · rcases List.mem_append.mp hf with z | z
          · exact z3' f z
          · exact ⟨j, by rw [List.mem_singleton.mp z]; omega, by omega, by rw [get_lt hj, e]⟩
      · exact ⟨rfl, zs, rfl, by omega, z2, z3'⟩
    obtain ⟨rfl, zs, rfl, z1, z2, z3⟩ := hP
    intro lf nlf
    have S1 := (Same.refl G).fresh (o := .lst (zs.map V.int)) nlf
    have hfl : (upd G lf (.lst (zs.map V.int))) lf = some (.lst (zs.map V.int)) := upd_same
    generalize upd G lf (.lst (zs.map V.int)) = H1 at *
    have hk1 := S1 _ _ hk
    have nel : lf ≠ lk := fun e => by rw [e, hk] at nlf; cases nlf
    have S2 := S0.trans S1
    walk_at "rd"
    refine ⟨r, _, rfl, .inl (S2.seq hr'), ?_⟩
    walk_at "rd"
    rw [List.length_map]
    walk_at "rd"
    refine rd_D (fun c1 => ?_) (fun c1 => ?_)
    · skip
      walk_at "rd"
      refine ⟨ty_lst hk1, ?_⟩
      walk_at "rd"
      refine ⟨lk, _, _, _, rfl, rfl, hk1, by omega, by rw [List.length_map]; omega, small' (by rw [List.length_map]; omega), ?_⟩
      rw [Ms.map_ins]
      walk_at "rd"
      exact q lk _ _ (S2.fresh nk) nk upd_same (by rw [Ms.ins_len]; omega) (Ms.badC_ins _ _ _ _)
    walk_at "rd"
    refine rd_D (fun c2 => ?_) (fun c2 => ?_)
    · skip
      walk_at "rd"
      refine ⟨ty_lst hk1, ?_⟩
      walk_at "rd"
      refine ⟨lk, _, _, _, rfl, rfl, hk1, by omega, by rw [List.length_map]; omega, small' (by rw [List.length_map]; omega), ?_⟩
      rw [Ms.map_ins]
      walk_at "rd"
      exact q lk _ _ (S2.fresh nk) nk upd_same (by rw [Ms.ins_len]; omega) (Ms.badC_ins _ _ _ _)
    have ml := m1 (by omega)
    walk_at "rd"
    refine rd_D (fun c3 => ?_) (fun c3 => ?_)
    · walk_at "rd"
      refine ⟨ty_lst hk1, ?_⟩
      walk_at "rd"
      refine ⟨lk, _, at', at'.toNat, .int (row.getD at'.toNat 0), rfl, rfl, hk1, by omega, by omega, (ixN_seq (ixN_in a0 (by rw [List.length_map]; omega))).1, by rw [List.getElem?_map, get_lt (by omega)]; rfl, ?_⟩
      rw [Ms.map_pop]
      walk_at "rd"
      exact q lk _ _ (S2.fresh nk) nk upd_same (by rw [List.length_eraseIdx_of_lt (by omega)]; omega) (Ms.badC_pop _ (by omega))
    walk_at "rd"
    refine rd_D (fun c4 => ?_) (fun c4 => ?_)
    · walk_at "rd"
      refine ⟨lf, _, rfl, .inl (SqL.of hfl), ?_⟩
      walk_at "rd"
      rw [List.length_map]
      walk_at "rd"
      refine rd_D (fun c5 => ?_) (fun c5 => ?_)
      · have i0 := Int.emod_nonneg at' (show (zs.length : Int) ≠ 0 by omega)
        have i1 := Int.emod_lt_of_pos at' (show (0 : Int) < zs.length by omega)
        have d0 := Int.emod_nonneg oth (show (zs.length : Int) - 1 ≠ 0 by omega)
        have d1 := Int.emod_lt_of_pos oth (show (0 : Int) < zs.length - 1 by omega)
        have ni := Ms.other_spot' (a := at') (show (0 : Int) < zs.length by omega) d0 d1
        have n0 := Int.emod_nonneg (at' + 1 + oth % (zs.length - 1)) (show (zs.length : Int) ≠ 0 by omega)
        have n1 := Int.emod_lt_of_pos (at' + 1 + oth % (zs.length - 1)) (show (0 : Int) < zs.length by omega)
        walk_at "rd"
        refine ⟨lf, _, rfl, .inl (SqL.of hfl), ?_⟩
        walk_at "rd"
        rw [List.length_map]
        walk_at "rd"
        generalize at' % (zs.length : Int) = ia at *
        generalize hib : (at' + 1 + oth % (zs.length - 1)) % (zs.length : Int) = ib at *
        have ga : zs[ia.toNat]? = some (zs.getD ia.toNat 0) := get_lt (by omega)
        have gb : zs[ib.toNat]? = some (zs.getD ib.toNat 0) := get_lt (by omega)
        have nab := Ms.nodup_ne z2 ga gb (by omega)
        obtain ⟨ea, xa, ya, wa⟩ := z3 _ (List.mem_of_getElem? ga)
        obtain ⟨eb, xb, yb, wb⟩ := z3 _ (List.mem_of_getElem? gb)
        rw [xa] at ga nab
        rw [xb] at gb nab
        walk_at "rd"
        refine ⟨lf, _, _, _, rfl, rfl, SqL.of hfl, atI1 i0 ga, ?_⟩
        walk_at "rd"
        refine ⟨lk, _, _, ea, rfl, rfl, hk1, by rw [ixN_in (by omega) (by rw [List.length_map]; omega)]; rfl, ?_⟩
        rw [Ms.map_set']
        have S3 := S2.fresh (o := .lst ((row.set ea 2).map V.int)) nk
        have hk2 : (upd H1 lk (.lst ((row.set ea 2).map V.int))) lk = some (.lst ((row.set ea 2).map V.int)) := upd_same
        have hf2 : (upd H1 lk (.lst ((row.set ea 2).map V.int))) lf = some (.lst (zs.map V.int)) := by rw [upd_ne nel]; exact hfl
        generalize upd H1 lk (.lst ((row.set ea 2).map V.int)) = H2 at *
        walk_at "rd"
        refine ⟨lf, _, rfl, .inl (SqL.of hf2), ?_⟩
        walk_at "rd"
        rw [List.length_map]
        walk_at "rd"
        refine ⟨lf, _, rfl, .inl (SqL.of hf2), ?_⟩
        walk_at "rd"
        rw [List.length_map]
        walk_at "rd"
        rw [hib]
        refine ⟨lf, _, _, _, rfl, rfl, SqL.of hf2, atI1 n0 gb, ?_⟩
        walk_at "rd"
        refine ⟨lk, _, _, eb, rfl, rfl, hk2, by rw [ixN_in (by omega) (by rw [List.length_map, List.length_set]; omega)]; rfl, ?_⟩
        rw [Ms.map_set']
        walk_at "rd"
        exact q lk _ _ (S3.fresh nk) nk upd_same (by rw [List.length_set, List.length_set]; omega) (Ms.badC_mem (k := ea) (v := 2) (by rw [List.getElem?_set_ne (by omega), List.getElem?_set_self ya]) (by decide) (by decide))
      · walk_at "rd"
        refine rd_D (fun c6 => ?_) (fun c6 => absurd c6 (by omega))
        walk_at "rd"
        refine ⟨lk, _, _, _, rfl, rfl, SqL.of hk1, atI1 a0 (get_lt (by omega)), ?_⟩
        walk_at "rd"
        refine ⟨lk, _, at', at'.toNat, rfl, rfl, hk1, ixN_in a0 (by rw [List.length_map]; omega), ?_⟩
        rw [Ms.map_set']
        walk_at "rd"
        exact q lk _ _ (S2.fresh nk) nk upd_same (by rw [List.length_set]; omega) (Ms.badC_flip (get_lt (by omega)))
    walk_at "rd"
    refine rd_D (fun c6 => ?_) (fun c6 => ?_)
    · skip
      walk_at "rd"
      refine ⟨lk, _, _, _, rfl, rfl, SqL.of hk1, atI1 a0 (get_lt (by omega)), ?_⟩
      walk_at "rd"
      refine ⟨lk, _, at', at'.toNat, rfl, rfl, hk1, ixN_in a0 (by rw [List.length_map]; omega), ?_⟩
      rw [Ms.map_set']
      walk_at "rd"
      exact q lk _ _ (S2.fresh nk) nk upd_same (by rw [List.length_set]; omega) (Ms.badC_flip (get_lt (by omega)))
    walk_at "rd"
    refine ⟨r, _, rfl, .inl (S2.seq hr'), ?_⟩
    walk_at "rd"
    rw [List.length_map]
    walk_at "rd"
    refine rd_D (fun c7 => ?_) (fun c7 => ?_)
    · skip
      walk_at "rd"
      refine ⟨lk, _, _, _, rfl, rfl, SqL.of hk1, atI1 a0 (get_lt (by omega)), ?_⟩
      walk_at "rd"
      refine ⟨lk, _, at', at'.toNat, rfl, rfl, hk1, ixN_in a0 (by rw [List.length_map]; omega), ?_⟩
      rw [Ms.map_set']
      walk_at "rd"
      exact q lk _ _ (S2.fresh nk) nk upd_same (by rw [List.length_set]; omega) (Ms.badC_flip (get_lt (by omega)))
    walk_at "rd"
    refine rd_D (fun c8 => ?_) (fun c8 => ?_)
    · walk_at "rd"
      have ga : row[at'.toNat]? = some (row.getD at'.toNat 0) := get_lt (by omega)
      have bx := hb _ (List.mem_of_getElem? ga)
      generalize row.getD at'.toNat 0 = xa at *
      refine ⟨lk, _, _, _, rfl, rfl, SqL.of hk1, atI1 a0 ga, ?_⟩
      walk_at "rd"
      refine ⟨lk, _, at', at'.toNat, rfl, rfl, hk1, ixN_in a0 (by rw [List.length_map]; omega), ?_⟩
      rw [Ms.map_set']
      have S3 := S2.fresh (o := .lst ((row.set at'.toNat (xa + 2 + far)).map V.int)) nk
      have hk2 : (upd H1 lk (.lst ((row.set at'.toNat (xa + 2 + far)).map V.int))) lk = some (.lst ((row.set at'.toNat (xa + 2 + far)).map V.int)) := upd_same
      generalize upd H1 lk (.lst ((row.set at'.toNat (xa + 2 + far)).map V.int)) = H2 at *
      have d0 := Int.emod_nonneg oth (show (row.length : Int) - 1 ≠ 0 by omega)
      have d1 := Int.emod_lt_of_pos oth (show (0 : Int) < row.length - 1 by omega)
      have ni := Ms.other_spot a0 (show at' < row.length by omega) d0 d1
      walk_at "rd"
      refine ⟨r, _, rfl, .inl (S3.seq hr'), ?_⟩
      walk_at "rd"
      rw [List.length_map]
      walk_at "rd"
      refine ⟨r, _, rfl, .inl (S3.seq hr'), ?_⟩
      walk_at "rd"
      rw [List.length_map]
      walk_at "rd"
      generalize (at' + 1 + oth % (row.length - 1)) % (row.length : Int) = ib at *
      have gb : (row.set at'.toNat (xa + 2 + far))[ib.toNat]? = some ((row.set at'.toNat (xa + 2 + far)).getD ib.toNat 0) := get_lt (by rw [List.length_set]; omega)
      refine ⟨lk, _, _, _, rfl, rfl, SqL.of hk2, atI1 ni.1 gb, ?_⟩
      walk_at "rd"
      refine ⟨lk, _, ib, ib.toNat, rfl, rfl, hk2, ixN_in ni.1 (by rw [List.length_map, List.length_set]; omega), ?_⟩
      rw [Ms.map_set']
      walk_at "rd"
      exact q lk _ _ (S3.fresh nk) nk upd_same (by rw [List.length_set, List.length_set]; omega) (Ms.badC_mem (k := at'.toNat) (v := xa + 2 + far) (by rw [List.getElem?_set_ne (by omega), List.getElem?_set_self (by omega)]) (by omega) (by omega))
    · skip
      walk_at "rd"
      refine ⟨ty_lst hk1, ?_⟩
      walk_at "rd"
      refine ⟨lk, _, _, _, rfl, rfl, hk1, by omega, by rw [List.length_map]; omega, small' (by rw [List.length_map]; omega), ?_⟩
      rw [Ms.map_ins]
      walk_at "rd"
      exact q lk _ _ (S2.fresh nk) nk upd_same (by rw [Ms.ins_len]; omega) (Ms.badC_ins _ _ _ _)
theorem fn_l_rows {f : Addr} {fd : FuncData} (T : TB mg) {Ak : Ask} {R NF NP NR NC : Addr} (D_l_refused : Fn P w K mg base 16 "_law_refused" ["_law_lot", "_law_way", "_law_row", "_law_more"] (spRefused NF NP NR NC Ak))
    (F : Fun K "_law_rows" "_law_rows" s_l_rows f fd) (g : mg "_law_rows" = some (.ref f)) (b : Binds K fd ["_law_lot", "_law_row", "_law_bad", "_law_steps", "_law_change"] []) : Fn P w K mg base 17 "_law_rows" ["_law_lot", "_law_row", "_law_bad", "_law_steps", "_law_change"] (spRows K NR Ak) := by
  have nd := sc_l_rows.nd
  refine ⟨f, fd, g, F.kp, F.ok sc_l_rows (fun vs H Q E h => ?_) (fun cdv A outer s H vs Q E hr h => ?_), b⟩
  · obtain ⟨p, r, bd, j, c, row, bad, rfl, _⟩ := h
    rfl
  · obtain ⟨p, r, bd, j, c, row, bad, rfl, hr', hbd, lr, lb, ha, q⟩ := h
    refine ⟨_, (pss_cons (ps_set (i := 5) nd rfl (Or.inl rfl) (pe_callTy call_list_of (by rfl) T.n_list bt_list (pa_cons (pv 2) pa_nil)))
      (pss_cons (ps_for PassesOwn.never rfl (pi_range2 (by rfl) T.n_range (pa_cons pe_int (pa_cons pe_int pa_nil))) (pg_name (i := 6) nd rfl (Or.inl rfl)) (pss_cons (ps_set (i := 7) nd rfl (Or.inl rfl) (pv 3))
      (pss_cons (ps_if (PW.pt (pw_or (pt_cmpR op_eq (pv 6) pe_int (nomark _)) (pw_or1 (pt_cmpR op_eq (pv 6) pe_int (nomark _))))) (pss_one (ps_set (i := 7) nd rfl (Or.inl rfl) (pe_callTy call_list_of (by rfl) T.n_list bt_list (pa_cons (pv 1) pa_nil)))) pss_nil)
      (pss_cons (ps_if (pt_cmpR op_ge (pv 6) pe_int (nomark _)) (pss_one (ps_set (i := 7) nd rfl (Or.inl rfl) (pv 4))) pss_nil)
      (pss_one (ps_if (PW.pt (pw_or (pt_cmpR (op_neL hr.units0) (pe_fn D_l_refused (hr.mono (by decide)) (by rfl) (pa_cons (pv 0) (pa_cons (pv 6) (pa_cons (pv 2) (pa_cons (pv 7) pa_nil))))) (pe_lst (pa_cons pe_int (pa_cons pe_int pa_nil))) (nomark _)) (pw_or1 (pt_cmpR (op_neL hr.units0) (pv 2) (pv 5) (nomark _))))) (pss_one (ps_ret pe_bl)) pss_nil))))))
      (pss_one (ps_ret pe_bl)))), ?_⟩
    walk_at "rd"
    refine ⟨bd, _, rfl, .inl hbd, fun lk nk => ?_⟩
    have S0 := (Same.refl H).fresh (o := .lst (bad.map V.int)) nk
    have hk : (upd H lk (.lst (bad.map V.int))) lk = some (.lst (bad.map V.int)) := upd_same
    generalize upd H lk (.lst (bad.map V.int)) = H0 at *
    have ki := S0.seq hbd
    walk_at "rd"
    refine ⟨1, 10, rfl, ⟨by decide, by decide, by decide, by decide⟩, for_rng (n := 9) (fun i σ' H' => Same H0 H' ∧ ∃ a b : Option V, σ' = [some (.ref p), some (.ref r), some (.ref bd), some (.int j), some c, some (.ref lk), a, b]) ⟨Same.refl _, none, none, rfl⟩ (fun i σ' H' hi hP => ?_) fun σ' H' hP => ?_⟩
    · obtain ⟨S1, a, b, rfl⟩ := hP
      walk_at "rd"
      refine rd_D (fun c6 => ?_) (fun c6 => ?_)
      · skip
        walk_at "rd"
        refine ⟨r, _, rfl, .inl ((S0.trans S1).seq hr'), fun lm nm => ?_⟩
        have S2 := (Same.refl H').fresh (o := .lst (row.map V.int)) nm
        have hm : (upd H' lm (.lst (row.map V.int))) lm = some (.lst (row.map V.int)) := upd_same
        generalize upd H' lm (.lst (row.map V.int)) = H2 at *
        walk_at "rd"
        refine rd_D (fun c8 => absurd c8 (by omega)) (fun _ => ?_)
        walk_at "rd"
        refine ⟨p, _, _, _, _, [0, 3], rfl, ha _ _ _ (S0.trans (S1.trans S2)) (.inr (.inl ⟨by omega, lm, rfl, hm⟩)), fun X hX => ⟨3, by cases hX; exact .inr (.inr (.inl ⟨rfl, rfl⟩)), rfl⟩, (fun h => nomatch h), fun l H3 S3 nl h3 => ?_⟩
        walk_at "rd"
        refine ⟨by show 2 ≤ sizeLine; decide, fun l2 n2 => ?_⟩
        have S4 := (Same.refl H3).fresh (o := .lst [V.int 0, V.int 3]) n2
        refine ⟨l, l2, [0, 3], [0, 3], rfl, rfl, SqL.of (S4 _ _ h3), SqL.of upd_same, ?_⟩
        generalize upd H3 l2 (.lst [V.int 0, V.int 3]) = H4 at *
        walk_at "rd"
        refine rd_ND (fun c => absurd rfl c) (fun _ => ?_)
        walk_at "rd"
        refine ⟨bd, lk, bad, bad, rfl, rfl, ((S1.trans S2).trans (S3.trans S4)).seq ki, SqL.of (((S1.trans S2).trans (S3.trans S4)) _ _ hk), ?_⟩
        walk_at "rd"
        refine rd_ND (fun c => absurd rfl c) (fun _ => ?_)
        walk_at "rd"
        exact ⟨(S1.trans S2).trans (S3.trans S4), _, _, rfl⟩
      walk_at "rd"
      refine rd_D (fun c7 => ?_) (fun c7 => ?_)
      · skip
        walk_at "rd"
        refine ⟨r, _, rfl, .inl ((S0.trans S1).seq hr'), fun lm nm => ?_⟩
        have S2 := (Same.refl H').fresh (o := .lst (row.map V.int)) nm
        have hm : (upd H' lm (.lst (row.map V.int))) lm = some (.lst (row.map V.int)) := upd_same
        generalize upd H' lm (.lst (row.map V.int)) = H2 at *
        walk_at "rd"
        refine rd_D (fun c8 => absurd c8 (by omega)) (fun _ => ?_)
        walk_at "rd"
        refine ⟨p, _, _, _, _, [0, 3], rfl, ha _ _ _ (S0.trans (S1.trans S2)) (.inr (.inl ⟨by omega, lm, rfl, hm⟩)), fun X hX => ⟨3, by cases hX; exact .inr (.inr (.inl ⟨rfl, rfl⟩)), rfl⟩, (fun h => nomatch h), fun l H3 S3 nl h3 => ?_⟩
        walk_at "rd"
        refine ⟨by show 2 ≤ sizeLine; decide, fun l2 n2 => ?_⟩
        have S4 := (Same.refl H3).fresh (o := .lst [V.int 0, V.int 3]) n2
        refine ⟨l, l2, [0, 3], [0, 3], rfl, rfl, SqL.of (S4 _ _ h3), SqL.of upd_same, ?_⟩
        generalize upd H3 l2 (.lst [V.int 0, V.int 3]) = H4 at *
        walk_at "rd"
        refine rd_ND (fun c => absurd rfl c) (fun _ => ?_)
        walk_at "rd"
        refine ⟨bd, lk, bad, bad, rfl, rfl, ((S1.trans S2).trans (S3.trans S4)).seq ki, SqL.of (((S1.trans S2).trans (S3.trans S4)) _ _ hk), ?_⟩
        walk_at "rd"
        refine rd_ND (fun c => absurd rfl c) (fun _ => ?_)
        walk_at "rd"
        exact ⟨(S1.trans S2).trans (S3.trans S4), _, _, rfl⟩
      walk_at "rd"
      refine rd_D (fun c8 => ?_) (fun c8 => ?_)
      · skip
        walk_at "rd"
        refine ⟨p, _, _, _, _, [0, 3], rfl, ha _ _ _ (S0.trans S1) (.inr (.inr ⟨by omega, rfl⟩)), fun X hX => ⟨3, by cases hX; exact .inr (.inr (.inl ⟨rfl, rfl⟩)), rfl⟩, (fun h => nomatch h), fun l H3 S3 nl h3 => ?_⟩
        walk_at "rd"
        refine ⟨by show 2 ≤ sizeLine; decide, fun l2 n2 => ?_⟩
        have S4 := (Same.refl H3).fresh (o := .lst [V.int 0, V.int 3]) n2
        refine ⟨l, l2, [0, 3], [0, 3], rfl, rfl, SqL.of (S4 _ _ h3), SqL.of upd_same, ?_⟩
        generalize upd H3 l2 (.lst [V.int 0, V.int 3]) = H4 at *
        walk_at "rd"
        refine rd_ND (fun c => absurd rfl c) (fun _ => ?_)
        walk_at "rd"
        refine ⟨bd, lk, bad, bad, rfl, rfl, (S1.trans (S3.trans S4)).seq ki, SqL.of ((S1.trans (S3.trans S4)) _ _ hk), ?_⟩
        walk_at "rd"
        refine rd_ND (fun c => absurd rfl c) (fun _ => ?_)
        walk_at "rd"
        exact ⟨S1.trans (S3.trans S4), _, _, rfl⟩
      · skip
        walk_at "rd"
        refine ⟨p, _, _, _, _, [0, 3], rfl, ha _ _ _ (S0.trans S1) (.inl ⟨by omega, by omega, rfl⟩), fun X hX => ⟨3, by cases hX; exact .inr (.inr (.inl ⟨rfl, rfl⟩)), rfl⟩, (fun h => nomatch h), fun l H3 S3 nl h3 => ?_⟩
        walk_at "rd"
        refine ⟨by show 2 ≤ sizeLine; decide, fun l2 n2 => ?_⟩
        have S4 := (Same.refl H3).fresh (o := .lst [V.int 0, V.int 3]) n2
        refine ⟨l, l2, [0, 3], [0, 3], rfl, rfl, SqL.of (S4 _ _ h3), SqL.of upd_same, ?_⟩
        generalize upd H3 l2 (.lst [V.int 0, V.int 3]) = H4 at *
        walk_at "rd"
        refine rd_ND (fun c => absurd rfl c) (fun _ => ?_)
        walk_at "rd"
        refine ⟨bd, lk, bad, bad, rfl, rfl, (S1.trans (S3.trans S4)).seq ki, SqL.of ((S1.trans (S3.trans S4)) _ _ hk), ?_⟩
        walk_at "rd"
        refine rd_ND (fun c => absurd rfl c) (fun _ => ?_)
        walk_at "rd"
        exact ⟨S1.trans (S3.trans S4), _, _, rfl⟩
    · obtain ⟨S1, a, b, rfl⟩ := hP
      walk_at "rd"
      exact q _ (S0.trans S1)
theorem fn_l_places {f : Addr} {fd : FuncData} (T : TB mg) {Ak : Ask} {R NF NP NR NC : Addr} (D_l_refused : Fn P w K mg base 16 "_law_refused" ["_law_lot", "_law_way", "_law_row", "_law_more"] (spRefused NF NP NR NC Ak))
    (F : Fun K "_law_places" "_law_places" s_l_places f fd) (g : mg "_law_places" = some (.ref f)) (b : Binds K fd ["_law_lot", "_law_many", "_law_far"] []) : Fn P w K mg base 17 "_law_places" ["_law_lot", "_law_many", "_law_far"] (spPlaces NP Ak) := by
  have nd := sc_l_places.nd
  refine ⟨f, fd, g, F.kp, F.ok sc_l_places (fun vs H Q E h => ?_) (fun cdv A outer s H vs Q E hr h => ?_), b⟩
  · obtain ⟨p, m, far, rfl, _⟩ := h
    rfl
  · obtain ⟨p, m, far, rfl, hf, ha, q⟩ := h
    refine ⟨_, (pss_cons (ps_for PassesOwn.never rfl (pi_list (pe_lst (pa_cons (pe_op op_sub (pe_un un_neg pe_int) (pv 2)) (pa_cons (pe_op op_add (pv 1) (pv 2)) pa_nil)))) (pg_name (i := 3) nd rfl (Or.inl rfl)) (pss_one (ps_if (pt_cmpR (op_neL hr.units0) (pe_fn D_l_refused (hr.mono (by decide)) (by rfl) (pa_cons (pv 0) (pa_cons pe_int (pa_cons pe_non (pa_cons (pv 3) pa_nil))))) (pe_lst (pa_cons pe_int (pa_cons pe_int pa_nil))) (nomark _)) (pss_one (ps_ret pe_bl)) pss_nil)))
      (pss_one (ps_ret pe_bl))), ?_⟩
    walk_at "rd"
    refine ⟨by show 2 ≤ sizeLine; decide, fun lp np => ?_⟩
    have S0 := (Same.refl H).fresh (o := .lst [V.int (-1 - far), V.int (m + far)]) np
    have hp : (upd H lp (.lst [V.int (-1 - far), V.int (m + far)])) lp = some (.lst [V.int (-1 - far), V.int (m + far)]) := upd_same
    generalize upd H lp (.lst [V.int (-1 - far), V.int (m + far)]) = H0 at *
    walk_at "rd"
    refine ⟨lp, rfl, ⟨_, SqL.of hp⟩, for_lst (K := K) (xs := [V.int (-1 - far), V.int (m + far)]) (fun i σ' H' => Same H0 H' ∧ ∃ a : Option V, σ' = [some (.ref p), some (.int m), some (.int far), a]) ⟨Same.refl _, none, rfl⟩ (fun i σ' H' _ hP => SqL.of (hP.1 _ _ hp)) (fun i y σ' H' hy hP => ?_) fun σ' H' hP => ?_⟩
    · obtain ⟨S1, a, rfl⟩ := hP
      obtain ⟨k, rfl, hk⟩ : ∃ k : Int, y = .int k ∧ (k < 0 ∨ m ≤ k) := by
        match i, hy with
        | 0, hy => exact ⟨_, (Option.some.inj hy).symm, .inl (by omega)⟩
        | 1, hy => exact ⟨_, (Option.some.inj hy).symm, .inr (by omega)⟩
      walk_at "rd"
      refine ⟨p, _, _, _, _, [0, 2], rfl, ha _ k (S0.trans S1) hk, fun X hX => ⟨2, by cases hX; exact .inr (.inl ⟨rfl, rfl⟩), rfl⟩, (fun h => nomatch h), fun l H3 S3 nl h3 => ?_⟩
      walk_at "rd"
      refine ⟨by show 2 ≤ sizeLine; decide, fun l2 n2 => ?_⟩
      have S4 := (Same.refl H3).fresh (o := .lst [V.int 0, V.int 2]) n2
      refine ⟨l, l2, [0, 2], [0, 2], rfl, rfl, SqL.of (S4 _ _ h3), SqL.of upd_same, ?_⟩
      walk_at "rd"
      refine rd_ND (fun c => absurd rfl c) (fun _ => ?_)
      walk_at "rd"
      exact ⟨S1.trans (S3.trans S4), _, rfl⟩
    · obtain ⟨S1, a, rfl⟩ := hP
      walk_at "rd"
      exact q _ (S0.trans S1)
theorem fn_l_changes {f : Addr} {fd : FuncData} (T : TB mg) {Ak : Ask} {R NF NP NR NC : Addr} (D_l_refused : Fn P w K mg base 16 "_law_refused" ["_law_lot", "_law_way", "_law_row", "_law_more"] (spRefused NF NP NR NC Ak))
    (F : Fun K "_law_changes" "_law_changes" s_l_changes f fd) (g : mg "_law_changes" = some (.ref f)) (b : Binds K fd ["_law_lot", "_law_row", "_law_changes_here", "_law_fits"] []) : Fn P w K mg base 17 "_law_changes" ["_law_lot", "_law_row", "_law_changes_here", "_law_fits"] (spChanges K NC Ak) := by
  have nd := sc_l_changes.nd
  refine ⟨f, fd, g, F.kp, F.ok sc_l_changes (fun vs H Q E h => ?_) (fun cdv A outer s H vs Q E hr h => ?_), b⟩
  · obtain ⟨p, r, lc, lf, row, cs, fs, bs, rfl, _⟩ := h
    rfl
  · obtain ⟨p, r, lc, lf, row, cs, fs, bs, rfl, hr', lr, hc, hfs, lcs, lfs, lbs, hf, ha, q⟩ := h
    refine ⟨_, (pss_cons (ps_for PassesOwn.never rfl (pi_range1 (by rfl) T.n_range (pa_cons (pe_callB call_len_seq (by rfl) T.n_len bt_len (pa_cons (pv 2) pa_nil)) pa_nil)) (pg_name (i := 4) nd rfl (Or.inl rfl)) (pss_cons (ps_set (i := 5) nd rfl (Or.inl rfl) (pe_lst (pa_cons (pe_lst (pa_cons pe_int (pa_cons pe_int pa_nil))) (pa_cons (pe_lst pa_nil) pa_nil))))
      (pss_cons (ps_if (pt_cmpR (op_neL hr.units0) (pe_fn D_l_refused (hr.mono (by decide)) (by rfl) (pa_cons (pv 0) (pa_cons pe_int (pa_cons (pe_callTy call_list_of (by rfl) T.n_list bt_list (pa_cons (pv 1) pa_nil)) (pa_cons (pe_ix ix_list (pv 2) (pv 4) (fun _ _ => rfl)) pa_nil))))) (pe_ix ix_list (pv 5) (pe_callTy call_int1 (by rfl) T.n_int bt_int (pa_cons (pe_ix ix_tup (pe_ix ix_list (pv 3) (pv 4) (fun _ _ => rfl)) pe_int (fun _ _ => rfl)) pa_nil)) (fun _ _ => rfl)) (nomark _)) (pss_one (ps_ret pe_bl)) pss_nil)
      (pss_one (ps_if (pt_cmpR (op_neL hr.units0) (pe_fn D_l_refused (hr.mono (by decide)) (by rfl) (pa_cons (pv 0) (pa_cons pe_int (pa_cons (pe_callTy call_list_of (by rfl) T.n_list bt_list (pa_cons (pv 1) pa_nil)) (pa_cons (pe_ix ix_list (pv 2) (pv 4) (fun _ _ => rfl)) pa_nil))))) (pe_ix ix_list (pv 5) (pe_callTy call_int1 (by rfl) T.n_int bt_int (pa_cons (pe_ix ix_tup (pe_ix ix_list (pv 3) (pv 4) (fun _ _ => rfl)) pe_int (fun _ _ => rfl)) pa_nil)) (fun _ _ => rfl)) (nomark _)) (pss_one (ps_ret pe_bl)) pss_nil)))))
      (pss_one (ps_ret pe_bl))), ?_⟩
    walk_at "rd"
    refine ⟨lc, _, rfl, .inl (SqL.of hc), ?_⟩
    walk_at "rd"
    rw [List.length_map]
    refine ⟨_, rfl, by omega, by omega, for_rng (n := ((cs.length : Nat) : Int).toNat) (fun i σ' H' => Same H H' ∧ ∃ a b : Option V, σ' = [some (.ref p), some (.ref r), some (.ref lc), some (.ref lf), a, b]) ⟨Same.refl _, none, none, rfl⟩ (fun i σ' H' hi hP => ?_) fun σ' H' hP => ?_⟩
    · obtain ⟨S0, a, b, rfl⟩ := hP
      obtain ⟨c, hci⟩ : ∃ c, cs[i]? = some c := ⟨_, List.getElem?_eq_getElem (by omega)⟩
      obtain ⟨f1, hfi⟩ : ∃ c, fs[i]? = some c := ⟨_, List.getElem?_eq_getElem (by omega)⟩
      obtain ⟨bb, hbi⟩ : ∃ c, bs[i]? = some c := ⟨_, List.getElem?_eq_getElem (by omega)⟩
      have hfi' := hf i f1 bb hfi hbi
      walk_at "rd"
      refine ⟨by show 2 ≤ sizeLine; decide, fun u1 fn1 => ?_⟩
      have W1 := (Same.refl H').fresh (o := .lst [V.int 0, V.int 4]) fn1
      have k1 : (upd H' u1 (.lst [V.int 0, V.int 4])) u1 = some (.lst [V.int 0, V.int 4]) := upd_same
      generalize upd H' u1 (.lst [V.int 0, V.int 4]) = G1 at *
      walk_at "rd"
      refine ⟨by show 0 ≤ sizeLine; decide, fun u2 fn2 => ?_⟩
      have W2 := (Same.refl G1).fresh (o := .lst []) fn2
      have k2 : (upd G1 u2 (.lst [])) u2 = some (.lst []) := upd_same
      generalize upd G1 u2 (.lst []) = G2 at *
      walk_at "rd"
      refine ⟨by show 2 ≤ sizeLine; decide, fun u3 fn3 => ?_⟩
      have W3 := (Same.refl G2).fresh (o := .lst [V.ref u1, V.ref u2]) fn3
      have k3 : (upd G2 u3 (.lst [V.ref u1, V.ref u2])) u3 = some (.lst [V.ref u1, V.ref u2]) := upd_same
      generalize upd G2 u3 (.lst [V.ref u1, V.ref u2]) = G3 at *
      walk_at "rd"
      have S3 := S0.trans (W1.trans (W2.trans W3))
      have j1 := W3 _ _ (W2 _ _ k1)
      have j2 := W3 _ _ k2
      refine ⟨r, _, rfl, .inl (S3.seq hr'), fun lm1 nm => ?_⟩
      have M1 := (Same.refl G3).fresh (o := .lst (row.map V.int)) nm
      have hm : (upd G3 lm1 (.lst (row.map V.int))) lm1 = some (.lst (row.map V.int)) := upd_same
      generalize upd G3 lm1 (.lst (row.map V.int)) = A1 at *
      have S1 := S3.trans M1
      walk_at "rd"
      refine ⟨lc, _, _, .ref c, rfl, rfl, SqL.of (S1 _ _ hc), atR hci, ?_⟩
      walk_at "rd"
      refine ⟨p, _, _, _, _, if bb.1 then [] else [0, 4], rfl, (ha _ i c lm1 bb S1 hci hbi hm).1, ?_, ?_, fun l1 B1 R1 nl h1 => ?_⟩
      · intro X hX
        cases e : bb.1 with
        | true => rw [e] at hX; exact nomatch hX
        | false => rw [e] at hX; exact ⟨4, .inr (.inr (.inr ⟨(Option.some.inj hX).symm, rfl⟩)), rfl⟩
      · intro hX
        cases e : bb.1 with
        | true => rfl
        | false => rw [e] at hX; exact nomatch hX
      have T1 := S1.trans R1
      walk_at "rd"
      refine ⟨lf, _, _, .ref f1, rfl, rfl, SqL.of (T1 _ _ hfs), atR hfi, ?_⟩
      walk_at "rd"
      refine ⟨f1, _, _, .bl bb.1, rfl, rfl, SqT.of (T1 _ _ hfi'), rfl, ?_⟩
      walk_at "rd"
      refine .inr ⟨_, rfl, ?_⟩
      walk_at "rd"
      refine ⟨u3, _, _, _, rfl, rfl, SqL.of (R1 _ _ (M1 _ _ k3)), due_at u1 u2 bb.1, ?_⟩
      walk_at "rd"
      refine ⟨l1, _, _, _, rfl, rfl, SqL.of h1, SqL.of (due_is (R1 _ _ (M1 _ _ j1)) (R1 _ _ (M1 _ _ j2)) bb.1), ?_⟩
      walk_at "rd"
      refine rd_ND (fun c => absurd rfl c) (fun _ => ?_)
      walk_at "rd"
      refine ⟨r, _, rfl, .inl (T1.seq hr'), fun lm2 nm => ?_⟩
      have M2 := (Same.refl B1).fresh (o := .lst (row.map V.int)) nm
      have hm : (upd B1 lm2 (.lst (row.map V.int))) lm2 = some (.lst (row.map V.int)) := upd_same
      generalize upd B1 lm2 (.lst (row.map V.int)) = A2 at *
      have S2 := T1.trans M2
      walk_at "rd"
      refine ⟨lc, _, _, .ref c, rfl, rfl, SqL.of (S2 _ _ hc), atR hci, ?_⟩
      walk_at "rd"
      refine ⟨p, _, _, _, _, if bb.2 then [] else [0, 4], rfl, (ha _ i c lm2 bb S2 hci hbi hm).2, ?_, ?_, fun l2 B2 R2 nl h2 => ?_⟩
      · intro X hX
        cases e : bb.2 with
        | true => rw [e] at hX; exact nomatch hX
        | false => rw [e] at hX; exact ⟨4, .inr (.inr (.inr ⟨(Option.some.inj hX).symm, rfl⟩)), rfl⟩
      · intro hX
        cases e : bb.2 with
        | true => rfl
        | false => rw [e] at hX; exact nomatch hX
      have T2 := S2.trans R2
      walk_at "rd"
      refine ⟨lf, _, _, .ref f1, rfl, rfl, SqL.of (T2 _ _ hfs), atR hfi, ?_⟩
      walk_at "rd"
      refine ⟨f1, _, _, .bl bb.2, rfl, rfl, SqT.of (T2 _ _ hfi'), rfl, ?_⟩
      walk_at "rd"
      refine .inr ⟨_, rfl, ?_⟩
      walk_at "rd"
      refine ⟨u3, _, _, _, rfl, rfl, SqL.of (R2 _ _ (M2 _ _ (R1 _ _ (M1 _ _ k3)))), due_at u1 u2 bb.2, ?_⟩
      walk_at "rd"
      refine ⟨l2, _, _, _, rfl, rfl, SqL.of h2, SqL.of (due_is (R2 _ _ (M2 _ _ (R1 _ _ (M1 _ _ j1)))) (R2 _ _ (M2 _ _ (R1 _ _ (M1 _ _ j2)))) bb.2), ?_⟩
      walk_at "rd"
      refine rd_ND (fun c => absurd rfl c) (fun _ => ?_)
      walk_at "rd"
      exact ⟨T2, _, _, rfl⟩
    obtain ⟨Sc, a, b, rfl⟩ := hP
    walk_at "rd"
    exact q _ Sc
theorem fn_l_swaps {f : Addr} {fd : FuncData} (T : TB mg)  (D_l_cell_at : Fn P w K mg base 1 "_law_cell_at" ["_law_script", "_law_k"] (spCell K))
    (F : Fun K "_law_swaps" "_law_swaps" s_l_swaps f fd) (g : mg "_law_swaps" = some (.ref f)) (b : Binds K fd ["_law_script", "_law_length_here", "_law_far"] []) : Fn P w K mg base 2 "_law_swaps" ["_law_script", "_law_length_here", "_law_far"] (spSwaps K) := by
  have nd := sc_l_swaps.nd
  refine ⟨f, fd, g, F.kp, F.ok sc_l_swaps (fun vs H Q E h => ?_) (fun cdv A outer s H vs Q E hr h => ?_), b⟩
  · obtain ⟨a, n, far, ns, rfl, _⟩ := h
    rfl
  · obtain ⟨a, n, far, ns, rfl, hS, n0, n1, hf, q⟩ := h
    refine ⟨_, (pss_cons (ps_set (i := 3) nd rfl (Or.inl rfl) (pe_op op_add (pe_op op_mul pe_int (pv 1)) pe_int))
      (pss_cons (ps_set (i := 4) nd rfl (Or.inl rfl) (pe_lst (pa_cons (pe_tup (pa_cons (pe_op op_sub (pe_op op_sub (pe_op op_mod (pe_fn D_l_cell_at (hr.mono (by decide)) (by rfl) (pa_cons (pv 0) (pa_cons pe_int pa_nil))) (pv 3)) (pv 1)) pe_int) (pa_cons (pe_op op_sub (pe_op op_sub (pe_op op_mod (pe_fn D_l_cell_at (hr.mono (by decide)) (by rfl) (pa_cons (pv 0) (pa_cons pe_int pa_nil))) (pv 3)) (pv 1)) pe_int) pa_nil))) pa_nil)))
      (pss_cons (ps_expr (pe_bm PySem.F.plainAttrs_list PySem.F.slot_list_append PySem.F.type_list_append mt_append (pv 4) (pa_cons (pe_tup (pa_cons (pe_op op_mod (pe_fn D_l_cell_at (hr.mono (by decide)) (by rfl) (pa_cons (pv 0) (pa_cons pe_int pa_nil))) (pe_callB (call_max2 rfl) (by rfl) T.n_max bt_max (pa_cons pe_int (pa_cons (pv 1) pa_nil)))) (pa_cons (pe_op op_mod (pe_fn D_l_cell_at (hr.mono (by decide)) (by rfl) (pa_cons (pv 0) (pa_cons pe_int pa_nil))) (pe_callB (call_max2 rfl) (by rfl) T.n_max bt_max (pa_cons pe_int (pa_cons (pv 1) pa_nil)))) pa_nil))) pa_nil)))
      (pss_cons (ps_expr (pe_bm PySem.F.plainAttrs_list PySem.F.slot_list_append PySem.F.type_list_append mt_append (pv 4) (pa_cons (pe_tup (pa_cons (pe_op op_sub (pe_un un_neg pe_int) (pv 2)) (pa_cons (pe_op op_mod (pe_fn D_l_cell_at (hr.mono (by decide)) (by rfl) (pa_cons (pv 0) (pa_cons pe_int pa_nil))) (pe_op op_add (pv 1) pe_int)) pa_nil))) pa_nil)))
      (pss_cons (ps_expr (pe_bm PySem.F.plainAttrs_list PySem.F.slot_list_append PySem.F.type_list_append mt_append (pv 4) (pa_cons (pe_tup (pa_cons (pe_op op_mod (pe_fn D_l_cell_at (hr.mono (by decide)) (by rfl) (pa_cons (pv 0) (pa_cons pe_int pa_nil))) (pe_op op_add (pv 1) pe_int)) (pa_cons (pe_op op_add (pv 1) (pv 2)) pa_nil))) pa_nil)))
      (pss_one (ps_ret (pv 4)))))))), ?_⟩
    have hm : 0 < (if n > 1 then n else 1) := by split <;> omega
    generalize hmx : (if n > 1 then n else 1) = mx at *
    walk_at "rd"
    refine ⟨a, ns, 8, rfl, (Same.refl H).seq hS, by decide, ?_⟩
    walk_at "rd"
    refine ⟨a, ns, 9, rfl, (Same.refl H).seq hS, by decide, ?_⟩
    walk_at "rd"
    refine ⟨by show 2 ≤ sizeLine; decide, fun t1 nt1 => ?_⟩
    have Y1 := (Same.refl H).fresh (o := .tup [V.int (ns.getD (8 : Int).toNat 0 % (3 * n + 2) - n - 1), V.int (ns.getD (9 : Int).toNat 0 % (3 * n + 2) - n - 1)]) nt1
    have g1 : upd H t1 (.tup [V.int (ns.getD (8 : Int).toNat 0 % (3 * n + 2) - n - 1), V.int (ns.getD (9 : Int).toNat 0 % (3 * n + 2) - n - 1)]) t1 = some (.tup [V.int (ns.getD (8 : Int).toNat 0 % (3 * n + 2) - n - 1), V.int (ns.getD (9 : Int).toNat 0 % (3 * n + 2) - n - 1)]) := upd_same
    generalize upd H t1 (.tup [V.int (ns.getD (8 : Int).toNat 0 % (3 * n + 2) - n - 1), V.int (ns.getD (9 : Int).toNat 0 % (3 * n + 2) - n - 1)]) = J0 at *
    generalize ns.getD (8 : Int).toNat 0 % (3 * n + 2) - n - 1 = x1 at *
    generalize ns.getD (9 : Int).toNat 0 % (3 * n + 2) - n - 1 = y1 at *
    have Z1' := (Same.refl H).trans Y1
    walk_at "rd"
    refine ⟨by show 1 ≤ sizeLine; decide, fun u2 nu' => ?_⟩
    have nu := Z1'.free nu'
    have Z1 := Z1'.fresh (o := .lst [V.ref t1]) nu
    have hl1 : upd J0 u2 (.lst [V.ref t1]) u2 = some (.lst (([t1] : List Addr).map V.ref)) := upd_same
    have g1 := (Same.refl J0).fresh (o := .lst [V.ref t1]) nu' _ _ g1
    generalize upd J0 u2 (.lst [V.ref t1]) = J1 at *
    walk_at "rd"
    refine ⟨ty_lst hl1, ?_⟩
    walk_at "rd"
    refine ⟨a, ns, 10, rfl, Z1.seq hS, by decide, ?_⟩
    walk_at "rd"
    refine ⟨_, _, rfl, ?_⟩
    rw [hmx]
    walk_at "rd"
    refine ⟨a, ns, 11, rfl, Z1.seq hS, by decide, ?_⟩
    walk_at "rd"
    refine ⟨_, _, rfl, ?_⟩
    rw [hmx]
    walk_at "rd"
    refine ⟨by show 2 ≤ sizeLine; decide, fun t2 nt2 => ?_⟩
    have Y2 := (Same.refl J1).fresh (o := .tup [V.int (ns.getD (10 : Int).toNat 0 % mx), V.int (ns.getD (11 : Int).toNat 0 % mx)]) nt2
    have g2 : upd J1 t2 (.tup [V.int (ns.getD (10 : Int).toNat 0 % mx), V.int (ns.getD (11 : Int).toNat 0 % mx)]) t2 = some (.tup [V.int (ns.getD (10 : Int).toNat 0 % mx), V.int (ns.getD (11 : Int).toNat 0 % mx)]) := upd_same
    generalize upd J1 t2 (.tup [V.int (ns.getD (10 : Int).toNat 0 % mx), V.int (ns.getD (11 : Int).toNat 0 % mx)]) = J1' at *
    generalize ns.getD (10 : Int).toNat 0 % mx = x2 at *
    generalize ns.getD (11 : Int).toNat 0 % mx = y2 at *
    have Z2' := Z1.trans Y2
    have g1 := Y2 _ _ g1
    have hl1' := Y2 _ _ hl1
    walk_at "rd"
    refine ⟨u2, _, _, rfl, rfl, hl1', by show 1 < sizeLine; decide, ?_⟩
    have hl2 : upd J1' u2 (.lst (([t1] : List Addr).map V.ref ++ [V.ref t2])) u2 = some (.lst (([t1, t2] : List Addr).map V.ref)) := upd_same
    have Z2 : Same H (upd J1' u2 (.lst (([t1] : List Addr).map V.ref ++ [V.ref t2]))) := Z2'.fresh nu
    have g1 := upd_tup (zs := ([t1] : List Addr).map V.ref ++ [V.ref t2]) g1 hl1'
    have g2 := upd_tup (zs := ([t1] : List Addr).map V.ref ++ [V.ref t2]) g2 hl1'
    generalize upd J1' u2 (.lst (([t1] : List Addr).map V.ref ++ [V.ref t2])) = J2 at *
    walk_at "rd"
    refine ⟨ty_lst hl2, ?_⟩
    walk_at "rd"
    refine ⟨a, ns, 12, rfl, Z2.seq hS, by decide, ?_⟩
    walk_at "rd"
    refine ⟨by show 2 ≤ sizeLine; decide, fun t3 nt3 => ?_⟩
    have Y3 := (Same.refl J2).fresh (o := .tup [V.int (-1 - far), V.int (ns.getD (12 : Int).toNat 0 % (n + 1))]) nt3
    have g3 : upd J2 t3 (.tup [V.int (-1 - far), V.int (ns.getD (12 : Int).toNat 0 % (n + 1))]) t3 = some (.tup [V.int (-1 - far), V.int (ns.getD (12 : Int).toNat 0 % (n + 1))]) := upd_same
    generalize upd J2 t3 (.tup [V.int (-1 - far), V.int (ns.getD (12 : Int).toNat 0 % (n + 1))]) = J2' at *
    generalize -1 - far = x3 at *
    generalize ns.getD (12 : Int).toNat 0 % (n + 1) = y3 at *
    have Z3' := Z2.trans Y3
    have g1 := Y3 _ _ g1
    have g2 := Y3 _ _ g2
    have hl2' := Y3 _ _ hl2
    walk_at "rd"
    refine ⟨u2, _, _, rfl, rfl, hl2', by show 2 < sizeLine; decide, ?_⟩
    have hl3 : upd J2' u2 (.lst (([t1, t2] : List Addr).map V.ref ++ [V.ref t3])) u2 = some (.lst (([t1, t2, t3] : List Addr).map V.ref)) := upd_same
    have Z3 : Same H (upd J2' u2 (.lst (([t1, t2] : List Addr).map V.ref ++ [V.ref t3]))) := Z3'.fresh nu
    have g1 := upd_tup (zs := ([t1, t2] : List Addr).map V.ref ++ [V.ref t3]) g1 hl2'
    have g2 := upd_tup (zs := ([t1, t2] : List Addr).map V.ref ++ [V.ref t3]) g2 hl2'
    have g3 := upd_tup (zs := ([t1, t2] : List Addr).map V.ref ++ [V.ref t3]) g3 hl2'
    generalize upd J2' u2 (.lst (([t1, t2] : List Addr).map V.ref ++ [V.ref t3])) = J3 at *
    walk_at "rd"
    refine ⟨ty_lst hl3, ?_⟩
    walk_at "rd"
    refine ⟨a, ns, 12, rfl, Z3.seq hS, by decide, ?_⟩
    walk_at "rd"
    refine ⟨by show 2 ≤ sizeLine; decide, fun t4 nt4 => ?_⟩
    have Y4 := (Same.refl J3).fresh (o := .tup [V.int (ns.getD (12 : Int).toNat 0 % (n + 1)), V.int (n + far)]) nt4
    have g4 : upd J3 t4 (.tup [V.int (ns.getD (12 : Int).toNat 0 % (n + 1)), V.int (n + far)]) t4 = some (.tup [V.int (ns.getD (12 : Int).toNat 0 % (n + 1)), V.int (n + far)]) := upd_same
    generalize upd J3 t4 (.tup [V.int (ns.getD (12 : Int).toNat 0 % (n + 1)), V.int (n + far)]) = J3' at *
    generalize ns.getD (12 : Int).toNat 0 % (n + 1) = x4 at *
    generalize n + far = y4 at *
    have Z4' := Z3.trans Y4
    have g1 := Y4 _ _ g1
    have g2 := Y4 _ _ g2
    have g3 := Y4 _ _ g3
    have hl3' := Y4 _ _ hl3
    walk_at "rd"
    refine ⟨u2, _, _, rfl, rfl, hl3', by show 3 < sizeLine; decide, ?_⟩
    have hl4 : upd J3' u2 (.lst (([t1, t2, t3] : List Addr).map V.ref ++ [V.ref t4])) u2 = some (.lst (([t1, t2, t3, t4] : List Addr).map V.ref)) := upd_same
    have Z4 : Same H (upd J3' u2 (.lst (([t1, t2, t3] : List Addr).map V.ref ++ [V.ref t4]))) := Z4'.fresh nu
    have g1 := upd_tup (zs := ([t1, t2, t3] : List Addr).map V.ref ++ [V.ref t4]) g1 hl3'
    have g2 := upd_tup (zs := ([t1, t2, t3] : List Addr).map V.ref ++ [V.ref t4]) g2 hl3'
    have g3 := upd_tup (zs := ([t1, t2, t3] : List Addr).map V.ref ++ [V.ref t4]) g3 hl3'
    have g4 := upd_tup (zs := ([t1, t2, t3] : List Addr).map V.ref ++ [V.ref t4]) g4 hl3'
    generalize upd J3' u2 (.lst (([t1, t2, t3] : List Addr).map V.ref ++ [V.ref t4])) = J4 at *
    walk_at "rd"
    refine q u2 _ [t1, t2, t3, t4] [(x1, y1), (x2, y2), (x3, y3), (x4, y4)] Z4 nu hl4 rfl rfl (fun i t p ht hp => ?_)
    match i, ht, hp with
    | 0, ht, hp => cases ht; cases hp; exact g1
    | 1, ht, hp => cases ht; cases hp; exact g2
    | 2, ht, hp => cases ht; cases hp; exact g3
    | 3, ht, hp => cases ht; cases hp; exact g4
theorem fn_l_fit {f : Addr} {fd : FuncData} (T : TB mg)  
    (F : Fun K "_law_fit" "_law_fit" s_l_fit f fd) (g : mg "_law_fit" = some (.ref f)) (b : Binds K fd ["_law_row", "_law_out", "_law_into"] []) : Fn P w K mg base 1 "_law_fit" ["_law_row", "_law_out", "_law_into"] (spFit K) := by
  have nd := sc_l_fit.nd
  refine ⟨f, fd, g, F.kp, F.ok sc_l_fit (fun vs H Q E h => ?_) (fun cdv A outer s H vs Q E hr h => ?_), b⟩
  · obtain ⟨r, o, i, row, rfl, _⟩ := h
    rfl
  · obtain ⟨r, o, i, row, rfl, hr', q⟩ := h
    refine ⟨_, (pss_cons (ps_if (PW.pt (pw_or (pt_not (pt_chain op_le op_lt pe_int (pv 1) (pe_callB call_len_seq (by rfl) T.n_len bt_len (pa_cons (pv 0) pa_nil)))) (pw_or1 (pt_not (pt_chain op_le op_lt pe_int (pv 2) (pe_callB call_len_seq (by rfl) T.n_len bt_len (pa_cons (pv 0) pa_nil))))))) (pss_one (ps_ret pe_bl)) pss_nil)
      (pss_one (ps_ret (pe_and (pe_cmpR op_eq (pe_ix ix_list (pv 0) (pv 1) (fun _ _ => rfl)) pe_int (nomark _)) (pe_one (pe_cmpR op_eq (pe_ix ix_list (pv 0) (pv 2) (fun _ _ => rfl)) pe_int (nomark _))))))), ?_⟩
    walk_at "rd"
    refine rd_chain ?_
    walk_at "rd"
    refine rd_D (fun c1 => ?_) (fun c1 => ?_)
    rotate_left
    · walk_at "rd"
      exact (show fitB row o i = false from decide_eq_false fun z => by have := z.1; have := z.2.1; have := z.2.2.1; have := z.2.2.2.1; omega) ▸ q
    walk_at "rd"
    refine ⟨r, _, rfl, .inl hr', ?_⟩
    walk_at "rd"
    rw [List.length_map]
    walk_at "rd"
    refine rd_ND (fun c2 => ?_) (fun c2 => ?_)
    · walk_at "rd"
      exact (show fitB row o i = false from decide_eq_false fun z => by have := z.1; have := z.2.1; have := z.2.2.1; have := z.2.2.2.1; omega) ▸ q
    
    walk_at "rd"
    refine rd_chain ?_
    walk_at "rd"
    refine rd_D (fun c3 => ?_) (fun c3 => ?_)
    rotate_left
    · walk_at "rd"
      exact (show fitB row o i = false from decide_eq_false fun z => by have := z.1; have := z.2.1; have := z.2.2.1; have := z.2.2.2.1; omega) ▸ q
    walk_at "rd"
    refine ⟨r, _, rfl, .inl hr', ?_⟩
    walk_at "rd"
    rw [List.length_map]
    walk_at "rd"
    refine rd_ND (fun c4 => ?_) (fun c4 => ?_)
    · walk_at "rd"
      exact (show fitB row o i = false from decide_eq_false fun z => by have := z.1; have := z.2.1; have := z.2.2.1; have := z.2.2.2.1; omega) ▸ q
    
    walk_at "rd"
    refine ⟨r, _, _, _, rfl, rfl, hr', atI1 c1 (get_lt (by omega)), ?_⟩
    walk_at "rd"
    have e1 : row[o.toNat]? = some (row.getD o.toNat 0) := get_lt (by omega)
    have e2 : row[i.toNat]? = some (row.getD i.toNat 0) := get_lt (by omega)
    refine rd_D (fun c5 => ?_) (fun c5 => ?_)
    · walk_at "rd"
      refine ⟨r, _, _, _, rfl, rfl, hr', atI1 c3 e2, ?_⟩
      walk_at "rd"
      exact (show fitB row o i = decide (row.getD i.toNat 0 = 0) from decide_eq_decide.mpr ⟨fun z => Option.some.inj (e2.symm.trans z.2.2.2.2.2), fun z => ⟨c1, c2, c3, c4, by rw [e1, c5], by rw [e2, z]⟩⟩) ▸ q
    · exact (show fitB row o i = false from decide_eq_false fun z => c5 (Option.some.inj (e1.symm.trans z.2.2.2.2.1))) ▸ q
theorem fn_l_turning {f : Addr} {fd : FuncData} (T : TB mg) {C R NF NP NR NC : Addr} (KT : Kind C (TAt C) ["place_of", "many"]) (MK_T : Mkr P w K mg base C 9 "Turning" (spInitT C (TAt C))) (M_place_of : Mt P w K mg base C 10 "place_of" [] (spPlaceOfT K (TAt C))) (M_many : Mt P w K mg base C 10 "many" [] (spManyT (TAt C))) (D_l_cell_at : Fn P w K mg base 1 "_law_cell_at" ["_law_script", "_law_k"] (spCell K)) (D_l_bad_row : Fn P w K mg base 1 "_law_bad_row" ["_law_row", "_law_cell", "_law_signs_here", "_law_far"] (spBadRow K)) (D_l_swaps : Fn P w K mg base 2 "_law_swaps" ["_law_script", "_law_length_here", "_law_far"] (spSwaps K)) (D_l_rowsT : Fn P w K mg base 17 "_law_rows" ["_law_lot", "_law_row", "_law_bad", "_law_steps", "_law_change"] (spRows K NR (AkT K NP NR NC C))) (D_l_placesT : Fn P w K mg base 17 "_law_places" ["_law_lot", "_law_many", "_law_far"] (spPlaces NP (AkT K NP NR NC C))) (D_l_changesT : Fn P w K mg base 17 "_law_changes" ["_law_lot", "_law_row", "_law_changes_here", "_law_fits"] (spChanges K NC (AkT K NP NR NC C)))
    (F : Fun K "_law_turning" "_law_turning" s_l_turning f fd) (g : mg "_law_turning" = some (.ref f)) (b : Binds K fd ["_law_script", "_law_length_here", "_law_signs_here", "_law_far"] []) : Fn P w K mg base 18 "_law_turning" ["_law_script", "_law_length_here", "_law_signs_here", "_law_far"] (spTurningL K) := by
  have nd := sc_l_turning.nd
  refine ⟨f, fd, g, F.kp, F.ok sc_l_turning (fun vs H Q E h => ?_) (fun cdv A outer s H vs Q E hr h => ?_), b⟩
  · obtain ⟨a, n, s0, far, ns, rfl, _⟩ := h
    rfl
  · obtain ⟨a, n, s0, far, ns, rfl, hS, n0, n1, s1, s2, hf, q⟩ := h
    refine ⟨_, (pss_cons (ps_setComp (j := 4) nd rfl (Or.inl rfl) (x := "_law_k") (ns := ["_law_signs_here", "_law_script"]) (is := [2, 0]) (CompScope.of (N := ["_law_script", "_law_length_here", "_law_signs_here", "_law_far", "_law_row", "_law_lot", "_law_place", "_law_bad", "_law_changes_here", "_law_fits"]) (sc := defScope s_l_turning) rfl rfl (by decide +kernel)) rfl (pi_range1 (by rfl) T.n_range (pa_cons (pv 1) pa_nil)) (fun _ _ _ _ => pifs_nil) (fun _ _ _ _ => (pe_op op_mod (pe_op op_fdiv (pe_fn D_l_cell_at (hr.mono (by decide)) (by rfl) (pa_cons (pv 2) (pa_cons (pe_op op_add pe_int (pe_op op_mod (pv 0) pe_int)) pa_nil))) (pe_op op_add pe_int (pe_op op_mul (pe_op op_fdiv (pv 0) pe_int) pe_int))) (pv 1))))
      (pss_cons (ps_set (i := 5) nd rfl (Or.inl rfl) (pe_mk MK_T (hr.mono (by decide)) (by rfl) (pa_cons (pv 2) (pa_cons (pv 1) pa_nil))))
      (pss_cons (ps_set (i := 6) nd rfl (Or.inl rfl) (pe_mt (pv 5) M_place_of (hr.mono (by decide)) (pa_cons (pe_callTy call_list_of (by rfl) T.n_list bt_list (pa_cons (pv 4) pa_nil)) pa_nil)))
      (pss_cons (ps_set (i := 7) nd rfl (Or.inl rfl) (pe_fn D_l_bad_row (hr.mono (by decide)) (by rfl) (pa_cons (pv 4) (pa_cons (pe_fn D_l_cell_at (hr.mono (by decide)) (by rfl) (pa_cons (pv 0) (pa_cons pe_int pa_nil))) (pa_cons (pv 2) (pa_cons (pv 3) pa_nil))))))
      (pss_cons (ps_set (i := 8) nd rfl (Or.inl rfl) (pe_lst (pa_cons (pe_tup (pa_cons pe_str (pa_cons (pe_op op_sub (pe_un un_neg pe_int) (pv 3)) pa_nil))) (pa_cons (pe_tup (pa_cons pe_str (pa_cons (pe_op op_add (pv 1) (pv 3)) pa_nil))) pa_nil))))
      (pss_cons (ps_set (i := 8) nd rfl (Or.inl rfl) (pe_op op_cat (pv 8) (pe_comp (x := "_law_pair") (ns := []) (is := []) (CompScope.of (N := ["_law_script", "_law_length_here", "_law_signs_here", "_law_far", "_law_row", "_law_lot", "_law_place", "_law_bad", "_law_changes_here", "_law_fits"]) (sc := defScope s_l_turning) rfl rfl (by decide +kernel)) rfl (pi_list (pe_slice sl_list (pe_fn D_l_swaps (hr.mono (by decide)) (by rfl) (pa_cons (pv 0) (pa_cons (pv 1) (pa_cons (pv 3) pa_nil)))) po_none (po_some pe_int))) (fun _ _ _ _ => pifs_nil) (fun _ _ _ _ => (pe_tup (pa_cons pe_str (pa_cons (pe_ix (ix_tupK (K := K) rfl) (pv 0) pe_int (fun _ _ => rfl)) (pa_cons (pe_ix (ix_tupK (K := K) rfl) (pv 0) pe_int (fun _ _ => rfl)) pa_nil))))))))
      (pss_cons (ps_setComp (j := 9) nd rfl (Or.inl rfl) (x := "_law_k") (ns := []) (is := []) (CompScope.of (N := ["_law_script", "_law_length_here", "_law_signs_here", "_law_far", "_law_row", "_law_lot", "_law_place", "_law_bad", "_law_changes_here", "_law_fits"]) (sc := defScope s_l_turning) rfl rfl (by decide +kernel)) rfl (pi_range1 (by rfl) T.n_range (pa_cons pe_int pa_nil)) (fun _ _ _ _ => pifs_nil) (fun _ _ _ _ => (pe_tup (pa_cons pe_bl (pa_cons pe_bl pa_nil)))))
      (pss_cons (ps_if (pt_not (pt_val (pe_fn D_l_rowsT (hr.mono (by decide)) (by rfl) (pa_cons (pv 5) (pa_cons (pv 4) (pa_cons (pv 7) (pa_cons (pv 3) (pa_cons (pe_ix ix_list (pv 8) (pe_op op_mod (pe_fn D_l_cell_at (hr.mono (by decide)) (by rfl) (pa_cons (pv 0) (pa_cons pe_int pa_nil))) pe_int) (fun _ _ => rfl)) pa_nil)))))))) (pss_one (ps_ret pe_bl)) pss_nil)
      (pss_cons (ps_if (PW.pt (pw_or (pt_not (pt_val (pe_fn D_l_rowsT (hr.mono (by decide)) (by rfl) (pa_cons (pv 5) (pa_cons (pv 4) (pa_cons (pv 7) (pa_cons (pe_un un_neg (pv 3)) (pa_cons pe_non pa_nil)))))))) (pw_or1 (pt_not (pt_val (pe_fn D_l_placesT (hr.mono (by decide)) (by rfl) (pa_cons (pv 5) (pa_cons (pe_mt0 (pv 5) M_many (hr.mono (by decide))) (pa_cons (pv 3) pa_nil))))))))) (pss_one (ps_ret pe_bl)) pss_nil)
      (pss_one (ps_ret (pe_and (pe_fn D_l_changesT (hr.mono (by decide)) (by rfl) (pa_cons (pv 5) (pa_cons (pv 4) (pa_cons (pv 8) (pa_cons (pv 9) pa_nil))))) (pe_one (pe_cmpR op_eq (pe_mt (pv 5) M_place_of (hr.mono (by decide)) (pa_cons (pv 4) pa_nil)) (pv 6) (nomark _))))))))))))))), ?_⟩
    walk_at "rd"
    refine ⟨_, rfl, by omega, by omega, comp_rng (n := n.toNat) (fun j ys G => G = H ∧ ∃ zs : List Int, ys = zs.map V.int ∧ zs.length = j ∧ ∀ m ∈ zs, 0 ≤ m ∧ m < s0) ⟨rfl, [], rfl, rfl, (fun e he => by cases he)⟩ (small' (by omega)) (fun j ys G hP => by
      obtain ⟨_, zs, rfl, h, _⟩ := hP
      rw [List.length_map]
      omega) (fun j ys G hj hP => ?_) fun ys G hP => ?_⟩
    · obtain ⟨rfl, zs, rfl, z1, z2⟩ := hP
      walk_at "rd"
      refine ⟨a, ns, 13 + (0 + (j : Int)) % 50, rfl, hS, by omega, ?_⟩
      walk_at "rd"
      refine ⟨rfl, zs ++ [ns.getD (13 + (0 + (j : Int)) % 50).toNat 0 / (1 + (0 + (j : Int)) / 50 * 210) % s0], by rw [List.map_append]; rfl, by rw [List.length_append]; show _ + 1 = _; omega, fun m hm => ?_⟩
      rcases List.mem_append.mp hm with z | z
      · exact z2 m z
      · rw [List.mem_singleton.mp z]
        exact ⟨Int.emod_nonneg _ (by omega), Int.emod_lt_of_pos _ (by omega)⟩
    obtain ⟨rfl, row, rfl, rl, rm⟩ := hP
    have rl' : (row.length : Int) = n := by omega
    intro lr nr
    have S0 := (Same.refl G).fresh (o := .lst (row.map V.int)) nr
    have hr0 : (upd G lr (.lst (row.map V.int))) lr = some (.lst (row.map V.int)) := upd_same
    generalize upd G lr (.lst (row.map V.int)) = H0 at *
    walk_at "rd"
    intro x dx nx ndx nex
    refine ⟨x, dx, s0, n, rfl, upd_same, s1, s2, n0, n1, fun H1 keep tA => ⟨rfl, ?_⟩⟩
    have S1 : Same H0 H1 := fun b o e => keep b o (by rw [upd_ne (ne_of_none e nx), upd_ne (ne_of_none e ndx)]; exact e) (ne_of_none e nx)
    have S01 := S0.trans S1
    have hr1 := S1 _ _ hr0
    clear keep
    walk_at "rd"
    obtain ⟨dy, fs, hin, hms⟩ := KT.ins tA
    refine ⟨x, dy, fs, rfl, hin, hms _ (by simp), ?_⟩
    walk_at "rd"
    refine ⟨lr, _, rfl, .inl (SqL.of hr1), fun lk nk => ?_⟩
    have S2 := (Same.refl H1).fresh (o := .lst (row.map V.int)) nk
    have hk2 : (upd H1 lk (.lst (row.map V.int))) lk = some (.lst (row.map V.int)) := upd_same
    generalize upd H1 lk (.lst (row.map V.int)) = H2 at *
    walk_at "rd"
    refine ⟨x, lk, s0, n, row, rfl, KT.same tA S2, SqL.of hk2, rl', rm, fun H3 S3 => ?_⟩
    have S13 := S2.trans S3
    walk_at "rd"
    refine ⟨a, ns, 3, rfl, (S01.trans S13).seq hS, by decide, ?_⟩
    walk_at "rd"
    refine ⟨lr, _, s0, far, row, rfl, SqL.of (S13 _ _ hr1), by omega, s1, hf, fun lb H4 bad S4 nb hb4 lbad badT => ?_⟩
    rw [rl'] at badT
    have S14 := S13.trans S4
    have tA4 := KT.same tA S14
    have hr4 := S14 _ _ hr1
    have hS4 := (S01.trans S14).seq hS
    have SA := S01.trans S14
    clear S2 S3 S13 S4 S14 hk2
    walk_at "rd"
    refine ⟨by show 2 ≤ sizeLine; decide, fun u1 fn1 => ?_⟩
    have W1 := (Same.refl H4).fresh (o := .tup [V.str "turn", V.int (-1 - far)]) fn1
    have k1 : (upd H4 u1 (.tup [V.str "turn", V.int (-1 - far)])) u1 = some (.tup [V.str "turn", V.int (-1 - far)]) := upd_same
    generalize upd H4 u1 (.tup [V.str "turn", V.int (-1 - far)]) = G1 at *
    walk_at "rd"
    refine ⟨by show 2 ≤ sizeLine; decide, fun u2 fn2 => ?_⟩
    have W2 := (Same.refl G1).fresh (o := .tup [V.str "turn", V.int (n + far)]) fn2
    have k2 : (upd G1 u2 (.tup [V.str "turn", V.int (n + far)])) u2 = some (.tup [V.str "turn", V.int (n + far)]) := upd_same
    generalize upd G1 u2 (.tup [V.str "turn", V.int (n + far)]) = G2 at *
    walk_at "rd"
    refine ⟨by show 2 ≤ sizeLine; decide, fun u3 fn3 => ?_⟩
    have W3 := (Same.refl G2).fresh (o := .lst [V.ref u1, V.ref u2]) fn3
    have k3 : (upd G2 u3 (.lst [V.ref u1, V.ref u2])) u3 = some (.lst [V.ref u1, V.ref u2]) := upd_same
    generalize upd G2 u3 (.lst [V.ref u1, V.ref u2]) = G3 at *
    walk_at "rd"
    have S5 := W1.trans (W2.trans W3)
    refine ⟨a, n, far, ns, rfl, S5.seq hS4, n0, n1, hf, fun lw H8 ts ps S8 nw hw lt lp ht => ?_⟩
    have g1 := S8 _ _ (W3 _ _ (W2 _ _ k1))
    have g2 := S8 _ _ (W3 _ _ k2)
    have g3 := S8 _ _ k3
    have S48 := S5.trans S8
    clear S5 S8 W1 W2 W3 k1 k2 k3
    obtain ⟨a1, a2, a3, a4, rfl⟩ := Ms.list4 ts lt
    obtain ⟨q1, q2, q3, q4, rfl⟩ := Ms.list4 ps lp
    walk_at "rd"
    refine ⟨lw, _, rfl, SqL.of hw, fun lv nv => ?_⟩
    rw [show cutV (([a1, a2, a3, a4] : List Addr).map V.ref) none (some 2) = ([a1, a2] : List Addr).map V.ref from rfl]
    have S9 := (Same.refl H8).fresh (o := .lst (([a1, a2] : List Addr).map V.ref)) nv
    have hv : (upd H8 lv (.lst (([a1, a2] : List Addr).map V.ref))) lv = some (.lst (([a1, a2] : List Addr).map V.ref)) := upd_same
    generalize upd H8 lv (.lst (([a1, a2] : List Addr).map V.ref)) = H9 at *
    have ht9 : ∀ (i : Nat) (t : Addr) (p : Int × Int), ([a1, a2] : List Addr)[i]? = some t → ([q1, q2, q3, q4] : List (Int × Int))[i]? = some p → H9 t = some (.tup [.int p.1, .int p.2]) := fun i t p h1 h2 => S9 _ _ (ht i t p (match i, h1 with | 0, h1 => h1 | 1, h1 => h1) h2)
    
    refine ⟨lv, rfl, ⟨_, SqL.of hv⟩, comp_lst (K := K) (xs := ([a1, a2] : List Addr).map V.ref) (fun j ys G => Same H9 G ∧ ∃ us : List Addr, ys = us.map V.ref ∧ us.length = j ∧ ∀ (k : Nat) (u : Addr) (p : Int × Int), us[k]? = some u → ([q1, q2, q3, q4] : List (Int × Int))[k]? = some p → G u = some (.tup [.str "swap", .int p.1, .int p.2])) ⟨Same.refl _, [], rfl, rfl, (fun k u p he => by cases he)⟩ (small' (by show 2 ≤ 100000; decide)) (fun j ys G hP => by
      obtain ⟨_, us, rfl, h, _⟩ := hP
      rw [List.length_map]
      omega) (fun j ys G hj hP => SqL.of (hP.1 _ _ hv)) (fun j y ys G hj hP => ?_) fun ys G9 hP => ?_⟩
    · obtain ⟨Sg, us, rfl, hul, hus⟩ := hP
      obtain ⟨t, htj, rfl⟩ := Ms.ref_of_get hj
      have hjl : j < 2 := (List.getElem?_eq_some_iff.mp htj).1
      obtain ⟨p, hp⟩ : ∃ p, ([q1, q2, q3, q4] : List (Int × Int))[j]? = some p := ⟨_, List.getElem?_eq_getElem (by show j < 4; omega)⟩
      have gt := Sg _ _ (ht9 j t p htj hp)
      walk_at "rd"
      refine ⟨t, _, _, _, rfl, rfl, SqT.of gt, rfl, ?_⟩
      walk_at "rd"
      refine ⟨t, _, _, _, rfl, rfl, SqT.of gt, rfl, ?_⟩
      walk_at "rd"
      refine ⟨by show 3 ≤ sizeLine; decide, fun u nu => ⟨Sg.trans ((Same.refl G).fresh nu), us ++ [u], by rw [List.map_append]; rfl, by rw [List.length_append]; show _ + 1 = _; omega, fun k v p' hk hp' => ?_⟩⟩
      rcases Ms.snoc_get hk with hk2 | ⟨hk2, rfl⟩
      · exact (Same.refl G).fresh nu _ _ (hus k v p' hk2 hp')
      · rw [hk2, hul, hp] at hp'
        cases hp'
        exact upd_same
    obtain ⟨Sg, us, rfl, hul, hus⟩ := hP
    
    have S49 := S48.trans (S9.trans Sg)
    have g1 := Sg _ _ (S9 _ _ g1)
    have g2 := Sg _ _ (S9 _ _ g2)
    have g3 := Sg _ _ (S9 _ _ g3)
    clear S48 S9 Sg hv ht9 ht hw nv
    intro lu nlu
    have Sa := (Same.refl G9).fresh (o := .lst (us.map V.ref)) nlu
    have hlu : (upd G9 lu (.lst (us.map V.ref))) lu = some (.lst (us.map V.ref)) := upd_same
    generalize upd G9 lu (.lst (us.map V.ref)) = Ha at *
    walk_at "rd"
    refine ⟨u3, lu, _, _, rfl, rfl, Sa _ _ g3, hlu, by rw [List.length_map, hul]; show 2 + 2 ≤ sizeLine; decide, fun lc nlc => ?_⟩
    rw [show [V.ref u1, V.ref u2] ++ us.map V.ref = (u1 :: u2 :: us).map V.ref from rfl]
    have Sb := (Same.refl Ha).fresh (o := .lst ((u1 :: u2 :: us).map V.ref)) nlc
    have hlc : (upd Ha lc (.lst ((u1 :: u2 :: us).map V.ref))) lc = some (.lst ((u1 :: u2 :: us).map V.ref)) := upd_same
    generalize upd Ha lc (.lst ((u1 :: u2 :: us).map V.ref)) = Hb at *
    have Sab := Sa.trans Sb
    have S4b := S49.trans Sab
    have g1 := Sab _ _ g1
    have g2 := Sab _ _ g2
    have hcl : (u1 :: u2 :: us).length = 4 := by show us.length + 2 = 4; rw [hul]; rfl
    have hno : ∀ (c : Addr), c ∈ u1 :: u2 :: us → ∀ H', Same Hb H' → NoTurn K H' (.ref c) n := by
      intro c hc H' S'
      rcases List.mem_cons.mp hc with rfl | hc
      · exact ⟨_, rfl, .inr ⟨_, SqT.of (S' _ _ g1), by omega⟩⟩
      rcases List.mem_cons.mp hc with rfl | hc
      · exact ⟨_, rfl, .inr ⟨_, SqT.of (S' _ _ g2), by omega⟩⟩
      obtain ⟨k, hk, e⟩ := List.getElem_of_mem hc
      have hk4 : k < 2 := by rw [hul] at hk; exact hk
      obtain ⟨p, hp⟩ : ∃ p, ([q1, q2, q3, q4] : List (Int × Int))[k]? = some p := ⟨_, List.getElem?_eq_getElem (by show k < 4; omega)⟩
      exact ⟨_, rfl, .inl ⟨_, _, SqT.of (S' _ _ (Sab _ _ (hus k c p (by rw [List.getElem?_eq_getElem hk, e]) hp))), by decide⟩⟩
    clear g1 g2 g3 hus Sab Sa Sb hlu S49
    generalize u1 :: u2 :: us = cs at *
    walk_at "rd"
    refine ⟨4, rfl, by decide, by decide, comp_rng (n := 4) (fun j ys G => Same Hb G ∧ ∃ fs : List Addr, ys = fs.map V.ref ∧ fs.length = j ∧ ∀ (k : Nat) (f : Addr), fs[k]? = some f → G f = some (.tup [.bl false, .bl false])) ⟨Same.refl _, [], rfl, rfl, (fun k f he => by cases he)⟩ (small' (by decide)) (fun j ys G hP => by
      obtain ⟨_, zs, rfl, h, _⟩ := hP
      rw [List.length_map]
      omega) (fun j ys G hj hP => ?_) fun ys Gd hP => ?_⟩
    · obtain ⟨Sg, fs, rfl, z1, z2⟩ := hP
      walk_at "rd"
      refine ⟨by show 2 ≤ sizeLine; decide, fun u nu => ⟨Sg.trans ((Same.refl G).fresh nu), fs ++ [u], by rw [List.map_append]; rfl, by rw [List.length_append]; show _ + 1 = _; omega, fun k v hk => ?_⟩⟩
      rcases Ms.snoc_get hk with hk2 | ⟨hk2, rfl⟩
      · exact (Same.refl G).fresh nu _ _ (z2 k v hk2)
      · exact upd_same
    obtain ⟨Sc, fs, rfl, hfl, hft⟩ := hP
    intro lf nlf
    have Sd := (Same.refl Gd).fresh (o := .lst (fs.map V.ref)) nlf
    have hlf : (upd Gd lf (.lst (fs.map V.ref))) lf = some (.lst (fs.map V.ref)) := upd_same
    generalize upd Gd lf (.lst (fs.map V.ref)) = He at *
    have hft := fun k f h => Sd _ _ (hft k f h)
    have Sbe := Sc.trans Sd
    have hle := Sbe _ _ hlc
    have S4e := S4b.trans Sbe
    clear Sc Sd hlc S4b
    
    have hask : ∀ (H' : Hp) (way : Int) (mv : V) (j : Int) (c : V), Same H4 H' → ((1 ≤ way ∧ way ≤ 5 ∧ mv = .int j) ∨ ((way = 6 ∨ way = 7) ∧ ∃ r2, mv = .ref r2 ∧ H' r2 = some (.lst (row.map V.int))) ∨ ((way = 8 ∨ way = 9) ∧ mv = c)) → AkT K NP NR NC C H' x way (.ref lb) mv (some NR) := by
      intro H' way mv j c S' hw
      have wy : (1 ≤ way ∧ way ≤ 4) ∨ (way = 5 ∧ ∃ j, mv = .int j) ∨ ((way = 6 ∨ way = 7) ∧ ∃ (r2 : Addr) (row2 : List Int), mv = .ref r2 ∧ SqL K H' r2 (row2.map V.int) ∧ GT C H' x row2) ∨ way = 8 ∨ way = 9 := by
        rcases hw with ⟨w1, w2, w3⟩ | ⟨w1, r2, w2, w3⟩ | ⟨w1, w2⟩
        · by_cases w5 : way = 5
          · exact .inr (.inl ⟨w5, j, w3⟩)
          · exact .inl ⟨w1, by omega⟩
        · exact .inr (.inr (.inl ⟨w1, r2, row, w2, SqL.of w3, ⟨s0, n, KT.same tA4 S', rl', rm⟩⟩))
        · exact .inr (.inr (.inr w1))
      exact .inr ⟨lb, bad, rfl, SqL.of (S' _ _ hb4), .inl ⟨⟨s0, n, KT.same tA4 S', badT⟩, rfl, wy⟩⟩
    walk_at "rd"
    refine ⟨a, ns, 4, rfl, S4e.seq hS4, by decide, ?_⟩
    walk_at "rd"
    obtain ⟨uc, _, huc⟩ := Ms.at_some (xs := cs) (j := ns.getD (4 : Int).toNat 0 % 4) (by omega) (by omega)
    refine ⟨lc, _, _, _, rfl, rfl, SqL.of hle, huc, ?_⟩
    walk_at "rd"
    refine ⟨x, lr, lb, far, .ref uc, row, bad, rfl, SqL.of (S4e _ _ hr4), SqL.of (S4e _ _ hb4), by omega, by omega, fun H' way mv S' hw => hask H' way mv far (.ref uc) (S4e.trans S') hw, fun Hf Sf => ?_⟩
    have S4f := S4e.trans Sf
    walk_at "rd"
    refine ⟨x, lr, lb, -far, .non, row, bad, rfl, SqL.of (S4f _ _ hr4), SqL.of (S4f _ _ hb4), by omega, by omega, fun H' way mv S' hw => hask H' way mv (-far) .non (S4f.trans S') hw, fun Hg Sg => ?_⟩
    have S4g := S4f.trans Sg
    walk_at "rd"
    obtain ⟨dy1, fs1, hin1, hms1⟩ := KT.ins (KT.same tA4 S4g)
    refine ⟨x, dy1, fs1, rfl, hin1, hms1 _ (by simp), ?_⟩
    walk_at "rd"
    refine ⟨x, s0, n, rfl, KT.same tA4 S4g, fun Hh Sh => ?_⟩
    have S4h := S4g.trans Sh
    walk_at "rd"
    refine ⟨x, _, far, rfl, hf, fun H' k S' hk => .inl ⟨rfl, k, s0, n, rfl, KT.same tA4 (S4h.trans S'), fun z => hk.elim (fun h => by omega) (fun h => absurd z.2 (Int.not_lt.mpr h)), rfl⟩, fun Hi Si => ?_⟩
    have Sei := Sf.trans (Sg.trans (Sh.trans Si))
    have S4i := S4e.trans Sei
    walk_at "rd"
    refine ⟨x, lr, lc, lf, row, cs, fs, [(false, false), (false, false), (false, false), (false, false)], rfl, SqL.of (S4i _ _ hr4), by omega, Sei _ _ hle, Sei _ _ hlf, by omega, by omega, by rw [hcl]; rfl, fun i f b h1 h2 => ?_, fun H' i c r2 b S' h1 h2 h3 => ?_, fun Hj Sj => ?_⟩
    · rw [bs_ff h2]
      exact Sei _ _ (hft i f h1)
    · rw [bs_ff h2]
      have nt := hno c (List.mem_of_getElem? h1) H' (Sbe.trans (Sei.trans S'))
      have tA' := KT.same tA4 (S4i.trans S')
      exact ⟨.inr ⟨r2, row, rfl, SqL.of h3, .inr ⟨s0, n, tA', rl', rm, .inl rfl, nt, rfl⟩⟩, .inr ⟨r2, row, rfl, SqL.of h3, .inr ⟨s0, n, tA', rl', rm, .inr rfl, nt, rfl⟩⟩⟩
    have S4j := S4i.trans Sj
    walk_at "rd"
    obtain ⟨dy2, fs2, hin2, hms2⟩ := KT.ins (KT.same tA4 S4j)
    refine ⟨x, dy2, fs2, rfl, hin2, hms2 _ (by simp), ?_⟩
    walk_at "rd"
    refine ⟨x, lr, s0, n, row, rfl, KT.same tA4 S4j, SqL.of (S4j _ _ hr4), rl', rm, fun Hk Sk => ?_⟩
    walk_at "rd"
    rw [decide_eq_true rfl]
    exact q _ (SA.trans (S4j.trans Sk))
theorem fn_l_choosing {f : Addr} {fd : FuncData} (T : TB mg) {C R NF NP NR NC : Addr} (KT : KindC C (CAt C) ["place_of", "many"]) (MK_C : Mkr P w K mg base C 9 "Choosing" (spInitC C (CAt C))) (M_place_of : Mt P w K mg base C 10 "place_of" [] (spPlaceOfC K (CAt C))) (M_many : Mt P w K mg base C 10 "many" [] (spManyC (CAt C))) (D_l_cell_at : Fn P w K mg base 1 "_law_cell_at" ["_law_script", "_law_k"] (spCell K)) (D_l_bad_ones : Fn P w K mg base 1 "_law_bad_ones" ["_law_row", "_law_cell", "_law_other", "_law_far"] (spBadOnes K)) (D_l_swaps : Fn P w K mg base 2 "_law_swaps" ["_law_script", "_law_length_here", "_law_far"] (spSwaps K)) (D_l_fit : Fn P w K mg base 1 "_law_fit" ["_law_row", "_law_out", "_law_into"] (spFit K)) (D_l_rowsC : Fn P w K mg base 17 "_law_rows" ["_law_lot", "_law_row", "_law_bad", "_law_steps", "_law_change"] (spRows K NR (AkC K NP NR NC C))) (D_l_placesC : Fn P w K mg base 17 "_law_places" ["_law_lot", "_law_many", "_law_far"] (spPlaces NP (AkC K NP NR NC C))) (D_l_changesC : Fn P w K mg base 17 "_law_changes" ["_law_lot", "_law_row", "_law_changes_here", "_law_fits"] (spChanges K NC (AkC K NP NR NC C)))
    (F : Fun K "_law_choosing" "_law_choosing" s_l_choosing f fd) (g : mg "_law_choosing" = some (.ref f)) (b : Binds K fd ["_law_script", "_law_length_here", "_law_far"] []) : Fn P w K mg base 18 "_law_choosing" ["_law_script", "_law_length_here", "_law_far"] (spChoosingL K) := by
  have nd := sc_l_choosing.nd
  refine ⟨f, fd, g, F.kp, F.ok sc_l_choosing (fun vs H Q E h => ?_) (fun cdv A outer s H vs Q E hr h => ?_), b⟩
  · obtain ⟨a, n, far, ns, rfl, _⟩ := h
    rfl
  · obtain ⟨a, n, far, ns, rfl, hS, n0, n1, hf, q⟩ := h
    refine ⟨_, (pss_cons (ps_set (i := 3) nd rfl (Or.inl rfl) (pe_op op_mod (pe_fn D_l_cell_at (hr.mono (by decide)) (by rfl) (pa_cons (pv 0) (pa_cons pe_int pa_nil))) (pe_op op_add (pv 1) pe_int)))
      (pss_cons (ps_set (i := 4) nd rfl (Or.inl rfl) (pe_op op_mod (pe_fn D_l_cell_at (hr.mono (by decide)) (by rfl) (pa_cons (pv 0) (pa_cons pe_int pa_nil))) (pe_op op_add (pe_op op_sub (pv 1) (pv 3)) pe_int)))
      (pss_cons (ps_set (i := 5) nd rfl (Or.inr rfl) (pe_op op_cat (pe_op op_cat (pe_op op_rep (pe_lst (pa_cons pe_int pa_nil)) (pv 4)) (pe_op op_rep (pe_lst (pa_cons pe_int pa_nil)) (pv 3))) (pe_op op_rep (pe_lst (pa_cons pe_int pa_nil)) (pe_op op_sub (pe_op op_sub (pv 1) (pv 3)) (pv 4)))))
      (pss_cons (ps_set (i := 6) nd rfl (Or.inl rfl) (pe_mk MK_C (hr.mono (by decide)) (by rfl) (pa_cons (pv 1) (pa_cons (pv 3) pa_nil))))
      (pss_cons (ps_set (i := 7) nd rfl (Or.inl rfl) (pe_mt (pv 6) M_place_of (hr.mono (by decide)) (pa_cons (pe_callTy call_list_of (by rfl) T.n_list bt_list (pa_cons (pv 5) pa_nil)) pa_nil)))
      (pss_cons (ps_set (i := 8) nd rfl (Or.inl rfl) (pe_fn D_l_bad_ones (hr.mono (by decide)) (by rfl) (pa_cons (pv 5) (pa_cons (pe_fn D_l_cell_at (hr.mono (by decide)) (by rfl) (pa_cons (pv 0) (pa_cons pe_int pa_nil))) (pa_cons (pe_fn D_l_cell_at (hr.mono (by decide)) (by rfl) (pa_cons (pv 0) (pa_cons pe_int pa_nil))) (pa_cons (pv 2) pa_nil))))))
      (pss_cons (ps_set (i := 9) nd rfl (Or.inl rfl) (pe_fn D_l_swaps (hr.mono (by decide)) (by rfl) (pa_cons (pv 0) (pa_cons (pv 1) (pa_cons (pv 2) pa_nil)))))
      (pss_cons (ps_setComp (j := 10) nd rfl (Or.inl rfl) (x := "_law_pair") (ns := []) (is := []) (CompScope.of (N := ["_law_script", "_law_length_here", "_law_far", "_law_ones", "_law_ahead", "_law_row", "_law_lot", "_law_place", "_law_bad", "_law_pairs", "_law_changes_here", "_law_fits"]) (sc := defScope s_l_choosing) rfl rfl (by decide +kernel)) rfl (pi_list (pv 9)) (fun _ _ _ _ => pifs_nil) (fun _ _ _ _ => (pe_tup (pa_cons pe_str (pa_cons (pe_ix (ix_tupK (K := K) rfl) (pv 0) pe_int (fun _ _ => rfl)) (pa_cons (pe_ix (ix_tupK (K := K) rfl) (pv 0) pe_int (fun _ _ => rfl)) pa_nil))))))
      (pss_cons (ps_setComp (j := 11) nd rfl (Or.inl rfl) (x := "_law_pair") (ns := ["_law_row"]) (is := [5]) (CompScope.of (N := ["_law_script", "_law_length_here", "_law_far", "_law_ones", "_law_ahead", "_law_row", "_law_lot", "_law_place", "_law_bad", "_law_pairs", "_law_changes_here", "_law_fits"]) (sc := defScope s_l_choosing) rfl rfl (by decide +kernel)) rfl (pi_list (pv 9)) (fun _ _ _ _ => pifs_nil) (fun _ _ _ _ => (pe_tup (pa_cons (pe_fn D_l_fit (hr.mono (by decide)) (by rfl) (pa_cons (pv 1) (pa_cons (pe_ix (ix_tupK (K := K) rfl) (pv 0) pe_int (fun _ _ => rfl)) (pa_cons (pe_ix (ix_tupK (K := K) rfl) (pv 0) pe_int (fun _ _ => rfl)) pa_nil)))) (pa_cons (pe_fn D_l_fit (hr.mono (by decide)) (by rfl) (pa_cons (pv 1) (pa_cons (pe_ix (ix_tupK (K := K) rfl) (pv 0) pe_int (fun _ _ => rfl)) (pa_cons (pe_ix (ix_tupK (K := K) rfl) (pv 0) pe_int (fun _ _ => rfl)) pa_nil)))) pa_nil)))))
      (pss_cons (ps_expr (pe_bm PySem.F.plainAttrs_list PySem.F.slot_list_append PySem.F.type_list_append mt_append (pv 10) (pa_cons (pe_tup (pa_cons pe_str (pa_cons (pe_op op_mod (pe_fn D_l_cell_at (hr.mono (by decide)) (by rfl) (pa_cons (pv 0) (pa_cons pe_int pa_nil))) (pe_op op_add (pv 1) pe_int)) pa_nil))) pa_nil)))
      (pss_cons (ps_expr (pe_bm PySem.F.plainAttrs_list PySem.F.slot_list_append PySem.F.type_list_append mt_append (pv 11) (pa_cons (pe_tup (pa_cons pe_bl (pa_cons pe_bl pa_nil))) pa_nil)))
      (pss_cons (ps_if (pt_not (pt_val (pe_fn D_l_rowsC (hr.mono (by decide)) (by rfl) (pa_cons (pv 6) (pa_cons (pv 5) (pa_cons (pv 8) (pa_cons (pv 2) (pa_cons (pe_ix ix_list (pv 10) (pe_op op_mod (pe_fn D_l_cell_at (hr.mono (by decide)) (by rfl) (pa_cons (pv 0) (pa_cons pe_int pa_nil))) pe_int) (fun _ _ => rfl)) pa_nil)))))))) (pss_one (ps_ret pe_bl)) pss_nil)
      (pss_cons (ps_if (PW.pt (pw_or (pt_not (pt_val (pe_fn D_l_rowsC (hr.mono (by decide)) (by rfl) (pa_cons (pv 6) (pa_cons (pv 5) (pa_cons (pv 8) (pa_cons (pe_un un_neg (pv 2)) (pa_cons pe_non pa_nil)))))))) (pw_or1 (pt_not (pt_val (pe_fn D_l_placesC (hr.mono (by decide)) (by rfl) (pa_cons (pv 6) (pa_cons (pe_mt0 (pv 6) M_many (hr.mono (by decide))) (pa_cons (pv 2) pa_nil))))))))) (pss_one (ps_ret pe_bl)) pss_nil)
      (pss_one (ps_ret (pe_and (pe_fn D_l_changesC (hr.mono (by decide)) (by rfl) (pa_cons (pv 6) (pa_cons (pv 5) (pa_cons (pv 10) (pa_cons (pv 11) pa_nil))))) (pe_one (pe_cmpR op_eq (pe_mt (pv 6) M_place_of (hr.mono (by decide)) (pa_cons (pv 5) pa_nil)) (pv 7) (nomark _))))))))))))))))))), ?_⟩
    walk_at "rd"
    refine ⟨a, ns, 5, rfl, hS, by decide, ?_⟩
    walk_at "rd"
    generalize ho : ns.getD (5 : Int).toNat 0 % (n + 1) = o
    have ho0 : 0 ≤ o ∧ o ≤ n := by
      have a1 := Int.emod_nonneg (ns.getD (5 : Int).toNat 0) (show n + 1 ≠ 0 by omega)
      have a2 := Int.emod_lt_of_pos (ns.getD (5 : Int).toNat 0) (show 0 < n + 1 by omega)
      omega
    refine ⟨a, ns, 6, rfl, hS, by decide, ?_⟩
    walk_at "rd"
    generalize ht : ns.getD (6 : Int).toNat 0 % (n - o + 1) = t
    have ht0 : 0 ≤ t ∧ t ≤ n - o := by
      have a1 := Int.emod_nonneg (ns.getD (6 : Int).toNat 0) (show n - o + 1 ≠ 0 by omega)
      have a2 := Int.emod_lt_of_pos (ns.getD (6 : Int).toNat 0) (show 0 < n - o + 1 by omega)
      omega
    clear ho ht
    refine ⟨by show 1 ≤ sizeLine; decide, fun l1 nn1 => ?_⟩
    have S1 := (Same.refl H).fresh (o := .lst [V.int 0]) nn1
    have g1 : (upd H l1 (.lst [V.int 0])) l1 = some (.lst [V.int 0]) := upd_same
    generalize upd H l1 (.lst [V.int 0]) = H1 at *
    walk_at "rd"
    refine ⟨l1, t, _, rfl, rfl, g1, by omega, by omega, by show 1 * t.toNat ≤ sizeLine; exact Nat.le_of_lt (small' (by omega)), fun l2 nn2 => ?_⟩
    rw [rep_one, ← List.map_replicate (f := V.int)]
    have S2 := (Same.refl H1).fresh (o := .lst ((List.replicate t.toNat (0 : Int)).map V.int)) nn2
    have g2 : (upd H1 l2 (.lst ((List.replicate t.toNat (0 : Int)).map V.int))) l2 = some (.lst ((List.replicate t.toNat (0 : Int)).map V.int)) := upd_same
    generalize upd H1 l2 (.lst ((List.replicate t.toNat (0 : Int)).map V.int)) = H2 at *
    walk_at "rd"
    refine ⟨by show 1 ≤ sizeLine; decide, fun l3 nn3 => ?_⟩
    have S3 := (Same.refl H2).fresh (o := .lst [V.int 1]) nn3
    have g3 : (upd H2 l3 (.lst [V.int 1])) l3 = some (.lst [V.int 1]) := upd_same
    generalize upd H2 l3 (.lst [V.int 1]) = H3 at *
    walk_at "rd"
    refine ⟨l3, o, _, rfl, rfl, g3, by omega, by omega, by show 1 * o.toNat ≤ sizeLine; exact Nat.le_of_lt (small' (by omega)), fun l4 nn4 => ?_⟩
    rw [rep_one, ← List.map_replicate (f := V.int)]
    have S4 := (Same.refl H3).fresh (o := .lst ((List.replicate o.toNat (1 : Int)).map V.int)) nn4
    have g4 : (upd H3 l4 (.lst ((List.replicate o.toNat (1 : Int)).map V.int))) l4 = some (.lst ((List.replicate o.toNat (1 : Int)).map V.int)) := upd_same
    generalize upd H3 l4 (.lst ((List.replicate o.toNat (1 : Int)).map V.int)) = H4 at *
    walk_at "rd"
    refine ⟨l2, l4, _, _, rfl, rfl, S4 _ _ (S3 _ _ g2), g4, by rw [List.length_map, List.length_map, List.length_replicate, List.length_replicate]; exact Nat.le_of_lt (small' (by omega)), fun l5 nn5 => ?_⟩
    rw [← List.map_append]
    have S5 := (Same.refl H4).fresh (o := .lst ((List.replicate t.toNat (0 : Int) ++ List.replicate o.toNat 1).map V.int)) nn5
    have g5 : (upd H4 l5 (.lst ((List.replicate t.toNat (0 : Int) ++ List.replicate o.toNat 1).map V.int))) l5 = some (.lst ((List.replicate t.toNat (0 : Int) ++ List.replicate o.toNat 1).map V.int)) := upd_same
    generalize upd H4 l5 (.lst ((List.replicate t.toNat (0 : Int) ++ List.replicate o.toNat 1).map V.int)) = H5 at *
    walk_at "rd"
    refine ⟨by show 1 ≤ sizeLine; decide, fun l6 nn6 => ?_⟩
    have S6 := (Same.refl H5).fresh (o := .lst [V.int 0]) nn6
    have g6 : (upd H5 l6 (.lst [V.int 0])) l6 = some (.lst [V.int 0]) := upd_same
    generalize upd H5 l6 (.lst [V.int 0]) = H6 at *
    walk_at "rd"
    refine ⟨l6, _, _, rfl, rfl, g6, by omega, by omega, by show 1 * (n - o - t).toNat ≤ sizeLine; exact Nat.le_of_lt (small' (by omega)), fun l7 nn7 => ?_⟩
    rw [rep_one, ← List.map_replicate (f := V.int)]
    have S7 := (Same.refl H6).fresh (o := .lst ((List.replicate (n - o - t).toNat (0 : Int)).map V.int)) nn7
    have g7 : (upd H6 l7 (.lst ((List.replicate (n - o - t).toNat (0 : Int)).map V.int))) l7 = some (.lst ((List.replicate (n - o - t).toNat (0 : Int)).map V.int)) := upd_same
    generalize upd H6 l7 (.lst ((List.replicate (n - o - t).toNat (0 : Int)).map V.int)) = H7 at *
    walk_at "rd"
    refine ⟨l5, l7, _, _, rfl, rfl, S7 _ _ (S6 _ _ g5), g7, by rw [List.length_map, List.length_map, List.length_append, List.length_replicate, List.length_replicate, List.length_replicate]; exact Nat.le_of_lt (small' (by omega)), fun lr nn8 => ?_⟩
    rw [← List.map_append]
    have Sall := S1.trans (S2.trans (S3.trans (S4.trans (S5.trans (S6.trans S7)))))
    have rl' : ((List.replicate t.toNat (0 : Int) ++ List.replicate o.toNat 1 ++ List.replicate (n - o - t).toNat 0).length : Int) = n := by
      rw [List.length_append, List.length_append, List.length_replicate, List.length_replicate, List.length_replicate]
      omega
    have rb : Ms.BitsI (List.replicate t.toNat (0 : Int) ++ List.replicate o.toNat 1 ++ List.replicate (n - o - t).toNat 0) := by
      intro m hm
      rcases List.mem_append.mp hm with e | e
      · rcases List.mem_append.mp e with e | e
        · exact rep_bits (.inl rfl) m e
        · exact rep_bits (.inr rfl) m e
      · exact rep_bits (.inl rfl) m e
    have rs : (List.replicate t.toNat (0 : Int) ++ List.replicate o.toNat 1 ++ List.replicate (n - o - t).toNat 0).sum = o := by
      rw [List.sum_append, List.sum_append, Ms.sum_repI, Ms.sum_repI, Ms.sum_repI]
      omega
    generalize List.replicate t.toNat (0 : Int) ++ List.replicate o.toNat 1 ++ List.replicate (n - o - t).toNat 0 = row at *
    have S0 := Sall.fresh (o := .lst (row.map V.int)) (Sall.free nn8)
    have hr0 : (upd H7 lr (.lst (row.map V.int))) lr = some (.lst (row.map V.int)) := upd_same
    generalize upd H7 lr (.lst (row.map V.int)) = H0 at *
    clear S1 S2 S3 S4 S5 S6 S7 Sall g1 g2 g3 g4 g5 g6 g7 nn1 nn2 nn3 nn4 nn5 nn6 nn7 nn8
    walk_at "rd"
    intro x dx nx ndx nex
    refine ⟨x, dx, n, o, rfl, upd_same, n0, n1, ho0.1, ho0.2, fun H1 keep tA => ⟨rfl, ?_⟩⟩
    have S1 : Same H0 H1 := fun b o e => keep b o (by rw [upd_ne (ne_of_none e nx), upd_ne (ne_of_none e ndx)]; exact e) (ne_of_none e nx)
    have S01 := S0.trans S1
    have hr1 := S1 _ _ hr0
    clear keep
    walk_at "rd"
    obtain ⟨dy, fs, hin, hms⟩ := KT.ins tA
    refine ⟨x, dy, fs, rfl, hin, hms _ (by simp), ?_⟩
    walk_at "rd"
    refine ⟨lr, _, rfl, .inl (SqL.of hr1), fun lk nk => ?_⟩
    have S2 := (Same.refl H1).fresh (o := .lst (row.map V.int)) nk
    have hk2 : (upd H1 lk (.lst (row.map V.int))) lk = some (.lst (row.map V.int)) := upd_same
    generalize upd H1 lk (.lst (row.map V.int)) = H2 at *
    walk_at "rd"
    refine ⟨x, lk, n, o, row, rfl, KT.same tA S2, ⟨SqL.of hk2, rl', rb, rs⟩, fun H3 S3 => ?_⟩
    have S13 := S2.trans S3
    walk_at "rd"
    refine ⟨a, ns, 3, rfl, (S01.trans S13).seq hS, by decide, ?_⟩
    walk_at "rd"
    refine ⟨a, ns, 4, rfl, (S01.trans S13).seq hS, by decide, ?_⟩
    walk_at "rd"
    refine ⟨lr, _, _, far, row, rfl, SqL.of (S13 _ _ hr1), by omega, rb, hf, fun lb H4 bad S4 nb hb4 lbad badC => ?_⟩
    rw [rl', rs] at badC
    have S14 := S13.trans S4
    have tA4 := KT.same tA S14
    have hr4 := S14 _ _ hr1
    have hS4 := (S01.trans S14).seq hS
    have SA := S01.trans S14
    clear S2 S3 S13 S4 S14 hk2
    walk_at "rd"
    refine ⟨a, n, far, ns, rfl, hS4, n0, n1, hf, fun lw H9 ts ps S49 nw hw lt lp ht9 => ?_⟩
    obtain ⟨a1, a2, a3, a4, rfl⟩ := Ms.list4 ts lt
    obtain ⟨q1, q2, q3, q4, rfl⟩ := Ms.list4 ps lp
    walk_at "rd"
    
    refine ⟨lw, rfl, ⟨_, SqL.of hw⟩, comp_lst (K := K) (xs := ([a1, a2, a3, a4] : List Addr).map V.ref) (fun j ys G => Same H9 G ∧ ∃ us : List Addr, ys = us.map V.ref ∧ us.length = j ∧ ∀ (k : Nat) (u : Addr) (p : Int × Int), us[k]? = some u → ([q1, q2, q3, q4] : List (Int × Int))[k]? = some p → G u = some (.tup [.str "swap", .int p.1, .int p.2])) ⟨Same.refl _, [], rfl, rfl, (fun k u p he => by cases he)⟩ (small' (by show 4 ≤ 100000; decide)) (fun j ys G hP => by
      obtain ⟨_, us, rfl, h, _⟩ := hP
      rw [List.length_map]
      omega) (fun j ys G hj hP => SqL.of (hP.1 _ _ hw)) (fun j y ys G hj hP => ?_) fun ys G9 hP => ?_⟩
    · obtain ⟨Sg, us, rfl, hul, hus⟩ := hP
      obtain ⟨t, htj, rfl⟩ := Ms.ref_of_get hj
      have hjl : j < 4 := (List.getElem?_eq_some_iff.mp htj).1
      obtain ⟨p, hp⟩ : ∃ p, ([q1, q2, q3, q4] : List (Int × Int))[j]? = some p := ⟨_, List.getElem?_eq_getElem (by show j < 4; omega)⟩
      have gt := Sg _ _ (ht9 j t p htj hp)
      walk_at "rd"
      refine ⟨t, _, _, _, rfl, rfl, SqT.of gt, rfl, ?_⟩
      walk_at "rd"
      refine ⟨t, _, _, _, rfl, rfl, SqT.of gt, rfl, ?_⟩
      walk_at "rd"
      refine ⟨by show 3 ≤ sizeLine; decide, fun u nu => ⟨Sg.trans ((Same.refl G).fresh nu), us ++ [u], by rw [List.map_append]; rfl, by rw [List.length_append]; show _ + 1 = _; omega, fun k v p' hk hp' => ?_⟩⟩
      rcases Ms.snoc_get hk with hk2 | ⟨hk2, rfl⟩
      · exact (Same.refl G).fresh nu _ _ (hus k v p' hk2 hp')
      · rw [hk2, hul, hp] at hp'
        cases hp'
        exact upd_same
    obtain ⟨Sg, us, rfl, hul, hus⟩ := hP
    
    intro lc nlc
    have S4g := S49.trans Sg
    have Sa := (Same.refl G9).fresh (o := .lst (us.map V.ref)) nlc
    have c4 := S4g.free nlc
    have hlc : (upd G9 lc (.lst (us.map V.ref))) lc = some (.lst (us.map V.ref)) := upd_same
    generalize upd G9 lc (.lst (us.map V.ref)) = Ha at *
    have S9a := Sg.trans Sa
    have S4a := S4g.trans Sa
    have gu : ∀ (k : Nat) (u : Addr) (p : Int × Int), us[k]? = some u → ([q1, q2, q3, q4] : List (Int × Int))[k]? = some p → Ha u = some (.tup [.str "swap", .int p.1, .int p.2]) := fun k u p h1 h2 => Sa _ _ (hus k u p h1 h2)
    have hwa := S9a _ _ hw
    have hul4 : us.length = 4 := hul
    clear Sg Sa S4g nlc hus hul
    walk_at "rd"
    refine ⟨lw, rfl, ⟨_, SqL.of hwa⟩, comp_lst (K := K) (xs := ([a1, a2, a3, a4] : List Addr).map V.ref) (fun j ys G => Same Ha G ∧ ∃ fs : List Addr, ys = fs.map V.ref ∧ fs.length = j ∧ ∀ (k : Nat) (f : Addr) (p : Int × Int), fs[k]? = some f → ([q1, q2, q3, q4] : List (Int × Int))[k]? = some p → G f = some (.tup [.bl (fitB row p.1 p.2), .bl (fitB row p.2 p.1)])) ⟨Same.refl _, [], rfl, rfl, (fun k u p he => by cases he)⟩ (small' (by show 4 ≤ 100000; decide)) (fun j ys G hP => by
      obtain ⟨_, us, rfl, h, _⟩ := hP
      rw [List.length_map]
      omega) (fun j ys G hj hP => SqL.of (hP.1 _ _ hwa)) (fun j y ys G hj hP => ?_) fun ys Gb hP => ?_⟩
    · obtain ⟨Sg, fs, rfl, hfl, hfs⟩ := hP
      obtain ⟨t, htj, rfl⟩ := Ms.ref_of_get hj
      have hjl : j < 4 := (List.getElem?_eq_some_iff.mp htj).1
      obtain ⟨p, hp⟩ : ∃ p, ([q1, q2, q3, q4] : List (Int × Int))[j]? = some p := ⟨_, List.getElem?_eq_getElem hjl⟩
      have gt := Sg _ _ (S9a _ _ (ht9 j t p htj hp))
      have hrg := Sg _ _ (S4a _ _ hr4)
      walk_at "rd"
      refine ⟨t, _, _, _, rfl, rfl, SqT.of gt, rfl, ?_⟩
      walk_at "rd"
      refine ⟨t, _, _, _, rfl, rfl, SqT.of gt, rfl, ?_⟩
      walk_at "rd"
      refine ⟨lr, p.1, p.2, row, rfl, SqL.of hrg, ?_⟩
      walk_at "rd"
      refine ⟨t, _, _, _, rfl, rfl, SqT.of gt, rfl, ?_⟩
      walk_at "rd"
      refine ⟨t, _, _, _, rfl, rfl, SqT.of gt, rfl, ?_⟩
      walk_at "rd"
      refine ⟨lr, p.2, p.1, row, rfl, SqL.of hrg, ?_⟩
      walk_at "rd"
      refine ⟨by show 2 ≤ sizeLine; decide, fun u nu => ⟨Sg.trans ((Same.refl G).fresh nu), fs ++ [u], by rw [List.map_append]; rfl, by rw [List.length_append]; show _ + 1 = _; omega, fun k v p' hk hp' => ?_⟩⟩
      rcases Ms.snoc_get hk with hk2 | ⟨hk2, rfl⟩
      · exact (Same.refl G).fresh nu _ _ (hfs k v p' hk2 hp')
      · rw [hk2, hfl, hp] at hp'
        cases hp'
        exact upd_same
    obtain ⟨Sg, fs, rfl, hfl, hfs⟩ := hP
    intro lf nlf
    have Sb := (Same.refl Gb).fresh (o := .lst (fs.map V.ref)) nlf
    have f4 := (S4a.trans Sg).free nlf
    have nfc : lf ≠ lc := fun e => by rw [e, Sg _ _ hlc] at nlf; cases nlf
    have hlf : (upd Gb lf (.lst (fs.map V.ref))) lf = some (.lst (fs.map V.ref)) := upd_same
    generalize upd Gb lf (.lst (fs.map V.ref)) = Hb at *
    have Sab := Sg.trans Sb
    have S4b := S4a.trans Sab
    have hlc := Sab _ _ hlc
    have gu := fun k u p h1 h2 => Sab _ _ (gu k u p h1 h2)
    have gf : ∀ (k : Nat) (f : Addr) (p : Int × Int), fs[k]? = some f → ([q1, q2, q3, q4] : List (Int × Int))[k]? = some p → Hb f = some (.tup [.bl (fitB row p.1 p.2), .bl (fitB row p.2 p.1)]) := fun k u p h1 h2 => Sb _ _ (hfs k u p h1 h2)
    have hfl4 : fs.length = 4 := hfl
    clear Sg Sb S4a S9a Sab hfs hfl nlf ht9 hwa hw S49
    walk_at "rd"
    refine ⟨ty_lst hlc, ?_⟩
    walk_at "rd"
    refine ⟨a, ns, 12, rfl, S4b.seq hS4, by decide, ?_⟩
    walk_at "rd"
    generalize ns.getD (12 : Int).toNat 0 % (n + 1) = tj
    refine ⟨by show 2 ≤ sizeLine; decide, fun ut nut => ?_⟩
    have Sc := (Same.refl Hb).fresh (o := .tup [V.str "turn", V.int tj]) nut
    have gt : (upd Hb ut (.tup [V.str "turn", V.int tj])) ut = some (.tup [V.str "turn", V.int tj]) := upd_same
    generalize upd Hb ut (.tup [V.str "turn", V.int tj]) = Hc at *
    have hlc := Sc _ _ hlc
    have hlf := Sc _ _ hlf
    walk_at "rd"
    refine ⟨lc, _, _, rfl, rfl, hlc, small' (by rw [List.length_map]; omega), ?_⟩
    rw [show us.map V.ref ++ [V.ref ut] = (us ++ [ut]).map V.ref by rw [List.map_append]; rfl]
    have S4d := (S4b.trans Sc).fresh (o := .lst ((us ++ [ut]).map V.ref)) c4
    have hld : upd Hc lc (.lst ((us ++ [ut]).map V.ref)) lc = some (.lst ((us ++ [ut]).map V.ref)) := upd_same
    have hlf : upd Hc lc (.lst ((us ++ [ut]).map V.ref)) lf = some (.lst (fs.map V.ref)) := by rw [upd_ne nfc]; exact hlf
    have gt := upd_tup (zs := (us ++ [ut]).map V.ref) gt hlc
    have gu := fun k u p h1 h2 => upd_tup (zs := (us ++ [ut]).map V.ref) (Sc _ _ (gu k u p h1 h2)) hlc
    have gf := fun k u p h1 h2 => upd_tup (zs := (us ++ [ut]).map V.ref) (Sc _ _ (gf k u p h1 h2)) hlc
    generalize upd Hc lc (.lst ((us ++ [ut]).map V.ref)) = Hd at *
    clear Sc S4b hlc
    walk_at "rd"
    refine ⟨ty_lst hlf, ?_⟩
    walk_at "rd"
    refine ⟨by show 2 ≤ sizeLine; decide, fun uf nuf => ?_⟩
    have Sc := (Same.refl Hd).fresh (o := .tup [V.bl false, V.bl false]) nuf
    have gff : (upd Hd uf (.tup [V.bl false, V.bl false])) uf = some (.tup [V.bl false, V.bl false]) := upd_same
    generalize upd Hd uf (.tup [V.bl false, V.bl false]) = He at *
    have hle := Sc _ _ hld
    have hlf := Sc _ _ hlf
    walk_at "rd"
    refine ⟨lf, _, _, rfl, rfl, hlf, small' (by rw [List.length_map]; omega), ?_⟩
    rw [show fs.map V.ref ++ [V.ref uf] = (fs ++ [uf]).map V.ref by rw [List.map_append]; rfl]
    have S4e := (S4d.trans Sc).fresh (o := .lst ((fs ++ [uf]).map V.ref)) f4
    have hlg : upd He lf (.lst ((fs ++ [uf]).map V.ref)) lf = some (.lst ((fs ++ [uf]).map V.ref)) := upd_same
    have hle : upd He lf (.lst ((fs ++ [uf]).map V.ref)) lc = some (.lst ((us ++ [ut]).map V.ref)) := by rw [upd_ne (Ne.symm nfc)]; exact hle
    have gt := upd_tup (zs := (fs ++ [uf]).map V.ref) (Sc _ _ gt) hlf
    have gff := upd_tup (zs := (fs ++ [uf]).map V.ref) gff hlf
    have gu := fun k u p h1 h2 => upd_tup (zs := (fs ++ [uf]).map V.ref) (Sc _ _ (gu k u p h1 h2)) hlf
    have gf := fun k u p h1 h2 => upd_tup (zs := (fs ++ [uf]).map V.ref) (Sc _ _ (gf k u p h1 h2)) hlf
    generalize upd He lf (.lst ((fs ++ [uf]).map V.ref)) = Hq at *
    clear Sc S4d hld hlf
    have hcl : (us ++ [ut]).length = 5 := by rw [List.length_append, hul4]; rfl
    have hfl5 : (fs ++ [uf]).length = 5 := by rw [List.length_append, hfl4]; rfl
    
    have hask : ∀ (H' : Hp) (way : Int) (mv : V) (j : Int) (c : V), Same H4 H' → ((1 ≤ way ∧ way ≤ 5 ∧ mv = .int j) ∨ ((way = 6 ∨ way = 7) ∧ ∃ r2, mv = .ref r2 ∧ H' r2 = some (.lst (row.map V.int))) ∨ ((way = 8 ∨ way = 9) ∧ mv = c)) → AkC K NP NR NC C H' x way (.ref lb) mv (some NR) := by
      intro H' way mv j c S' hw
      have wy : (1 ≤ way ∧ way ≤ 4) ∨ (way = 5 ∧ ∃ j, mv = .int j) ∨ ((way = 6 ∨ way = 7) ∧ ∃ (r2 : Addr) (row2 : List Int), mv = .ref r2 ∧ SqL K H' r2 (row2.map V.int) ∧ GC C H' x row2) ∨ way = 8 ∨ way = 9 := by
        rcases hw with ⟨w1, w2, w3⟩ | ⟨w1, r2, w2, w3⟩ | ⟨w1, w2⟩
        · by_cases w5 : way = 5
          · exact .inr (.inl ⟨w5, j, w3⟩)
          · exact .inl ⟨w1, by omega⟩
        · exact .inr (.inr (.inl ⟨w1, r2, row, w2, SqL.of w3, ⟨n, o, KT.same tA4 S', rl', rb, rs⟩⟩))
        · exact .inr (.inr (.inr w1))
      exact .inr ⟨lb, bad, rfl, .inl ⟨⟨n, o, KT.same tA4 S', badC⟩, SqL.of (S' _ _ hb4), rfl, wy⟩⟩
    walk_at "rd"
    refine ⟨a, ns, 4, rfl, S4e.seq hS4, by decide, ?_⟩
    walk_at "rd"
    obtain ⟨uc, _, huc⟩ := Ms.at_some (xs := us ++ [ut]) (j := ns.getD (4 : Int).toNat 0 % 5) (by omega) (by omega)
    refine ⟨lc, _, _, _, rfl, rfl, SqL.of hle, huc, ?_⟩
    walk_at "rd"
    refine ⟨x, lr, lb, far, .ref uc, row, bad, rfl, SqL.of (S4e _ _ hr4), SqL.of (S4e _ _ hb4), by omega, by omega, fun H' way mv S' hw => hask H' way mv far (.ref uc) (S4e.trans S') hw, fun Hf Sf => ?_⟩
    have S4f := S4e.trans Sf
    walk_at "rd"
    refine ⟨x, lr, lb, -far, .non, row, bad, rfl, SqL.of (S4f _ _ hr4), SqL.of (S4f _ _ hb4), by omega, by omega, fun H' way mv S' hw => hask H' way mv (-far) .non (S4f.trans S') hw, fun Hg Sg => ?_⟩
    have S4g := S4f.trans Sg
    walk_at "rd"
    obtain ⟨dy1, fs1, hin1, hms1⟩ := KT.ins (KT.same tA4 S4g)
    refine ⟨x, dy1, fs1, rfl, hin1, hms1 _ (by simp), ?_⟩
    walk_at "rd"
    refine ⟨x, n, o, rfl, KT.same tA4 S4g, fun Hh Sh => ?_⟩
    have S4h := S4g.trans Sh
    walk_at "rd"
    refine ⟨x, _, far, rfl, hf, fun H' k S' hk => .inl ⟨rfl, k, n, o, rfl, KT.same tA4 (S4h.trans S'), fun z => hk.elim (fun h => by omega) (fun h => absurd z.2 (Int.not_lt.mpr h)), rfl⟩, fun Hi Si => ?_⟩
    have Sei := Sf.trans (Sg.trans (Sh.trans Si))
    have S4i := S4e.trans Sei
    walk_at "rd"
    refine ⟨x, lr, lc, lf, row, us ++ [ut], fs ++ [uf], ([q1, q2, q3, q4] : List (Int × Int)).map (fun p => (fitB row p.1 p.2, fitB row p.2 p.1)) ++ [(false, false)], rfl, SqL.of (S4i _ _ hr4), by omega, Sei _ _ hle, Sei _ _ hlg, by omega, by omega, by rw [hcl]; rfl, fun i f b h1 h2 => ?_, fun H' i c r2 b S' h1 h2 h3 => ?_, fun Hj Sj => ?_⟩
    · rcases Ms.snoc_get h1 with e1 | ⟨e1, rfl⟩
      · have hi := (List.getElem?_eq_some_iff.mp e1).1
        rcases Ms.snoc_get h2 with e2 | ⟨e2, rfl⟩
        · obtain ⟨p, hp, rfl⟩ := Ms.map_get e2
          exact Sei _ _ (gf i f p e1 hp)
        · exact absurd (show i = 4 from e2) (by omega)
      · rcases Ms.snoc_get h2 with e2 | ⟨e2, rfl⟩
        · exact absurd (show i < 4 from (List.getElem?_eq_some_iff.mp e2).1) (by omega)
        · exact Sei _ _ gff
    · have cA := KT.same tA4 (S4i.trans S')
      rcases Ms.snoc_get h1 with e1 | ⟨e1, rfl⟩
      · have hi := (List.getElem?_eq_some_iff.mp e1).1
        rcases Ms.snoc_get h2 with e2 | ⟨e2, rfl⟩
        · obtain ⟨p, hp, rfl⟩ := Ms.map_get e2
          exact fit_ask _ _ _ cA ⟨SqL.of h3, rl', rb, rs⟩ (S' _ _ (Sei _ _ (gu i c p e1 hp)))
        · exact absurd (show i = 4 from e2) (by omega)
      · rcases Ms.snoc_get h2 with e2 | ⟨e2, rfl⟩
        · exact absurd (show i < 4 from (List.getElem?_eq_some_iff.mp e2).1) (by omega)
        · exact turn_ask _ _ _ cA ⟨SqL.of h3, rl', rb, rs⟩ (S' _ _ (Sei _ _ gt))
    have S4j := S4i.trans Sj
    walk_at "rd"
    obtain ⟨dy2, fs2, hin2, hms2⟩ := KT.ins (KT.same tA4 S4j)
    refine ⟨x, dy2, fs2, rfl, hin2, hms2 _ (by simp), ?_⟩
    walk_at "rd"
    refine ⟨x, lr, n, o, row, rfl, KT.same tA4 S4j, ⟨SqL.of (S4j _ _ hr4), rl', rb, rs⟩, fun Hk Sk => ?_⟩
    walk_at "rd"
    rw [decide_eq_true rfl]
    exact q _ (SA.trans (S4j.trans Sk))
theorem ok_law {f : Addr} {fd : FuncData} (T : TB mg)  (D_l_cell_at : Fn P w K mg base 1 "_law_cell_at" ["_law_script", "_law_k"] (spCell K)) (D_l_length : Fn P w K mg base 1 "_law_length" ["_law_cell"] spLength) (D_l_signs : Fn P w K mg base 1 "_law_signs" ["_law_cell"] spSigns) (D_l_forms : Fn P w K mg base 15 "_law_forms" ["_law_length_here", "_law_signs_here", "_law_far"] spForms) (D_l_turning : Fn P w K mg base 18 "_law_turning" ["_law_script", "_law_length_here", "_law_signs_here", "_law_far"] (spTurningL K)) (D_l_choosing : Fn P w K mg base 18 "_law_choosing" ["_law_script", "_law_length_here", "_law_far"] (spChoosingL K))
    (F : Fun K "law" "law" s_law f fd) : FnOk P w K mg base CX0 19 f fd ["_law_script"] (spLaw K) := by
  have nd := sc_law.nd
  refine F.ok sc_law (fun vs H Q E h => ?_) (fun cdv A outer s H vs Q E hr h => ?_)
  · obtain ⟨a, ns, rfl, _⟩ := h
    rfl
  · obtain ⟨a, ns, rfl, hS, hl, q⟩ := h
    refine ⟨_, (pss_cons (ps_set (i := 1) nd rfl (Or.inl rfl) (pe_fn D_l_length (hr.mono (by decide)) (by rfl) (pa_cons (pe_fn D_l_cell_at (hr.mono (by decide)) (by rfl) (pa_cons (pv 0) (pa_cons pe_int pa_nil))) pa_nil)))
      (pss_cons (ps_set (i := 2) nd rfl (Or.inl rfl) (pe_fn D_l_signs (hr.mono (by decide)) (by rfl) (pa_cons (pe_fn D_l_cell_at (hr.mono (by decide)) (by rfl) (pa_cons (pv 0) (pa_cons pe_int pa_nil))) pa_nil)))
      (pss_cons (ps_set (i := 3) nd rfl (Or.inl rfl) pe_int)
      (pss_cons (ps_if (pt_cmpR op_eq (pe_op op_mod (pe_fn D_l_cell_at (hr.mono (by decide)) (by rfl) (pa_cons (pv 0) (pa_cons pe_int pa_nil))) pe_int) pe_int (nomark _)) (pss_one (ps_set (i := 3) nd rfl (Or.inl rfl) (pe_op op_mod (pe_op op_mul (pe_op op_fdiv (pe_fn D_l_cell_at (hr.mono (by decide)) (by rfl) (pa_cons (pv 0) (pa_cons pe_int pa_nil))) pe_int) pe_int) (pe_op op_pow pe_int pe_int)))) pss_nil)
      (pss_cons (ps_if (pt_not (pt_val (pe_fn D_l_forms (hr.mono (by decide)) (by rfl) (pa_cons (pv 1) (pa_cons (pv 2) (pa_cons (pv 3) pa_nil)))))) (pss_one (ps_ret pe_bl)) pss_nil)
      (pss_one (ps_ret (pe_and (pe_fn D_l_turning (hr.mono (by decide)) (by rfl) (pa_cons (pv 0) (pa_cons (pv 1) (pa_cons (pv 2) (pa_cons (pv 3) pa_nil))))) (pe_one (pe_fn D_l_choosing (hr.mono (by decide)) (by rfl) (pa_cons (pv 0) (pa_cons (pv 1) (pa_cons (pv 3) pa_nil))))))))))))), ?_⟩
    walk_at "rd"
    refine ⟨a, ns, 0, rfl, hS, by decide, ?_⟩
    walk_at "rd"
    refine ⟨_, rfl, fun n n0 n1 => ?_⟩
    walk_at "rd"
    refine ⟨a, ns, 1, rfl, hS, by decide, ?_⟩
    walk_at "rd"
    refine ⟨_, rfl, fun s0 s1 s2 => ?_⟩
    walk_at "rd"
    refine ⟨a, ns, 2, rfl, hS, by decide, ?_⟩
    walk_at "rd"
    refine rd_D (fun c => ?_) (fun c => ?_)
    · walk_at "rd"
      refine ⟨a, ns, 2, rfl, hS, by decide, ?_⟩
      walk_at "rd"
      have e30 : (10 : Int) ^ (30 : Int).toNat = 1000000000000000000000000000000 := by decide +kernel
      rw [e30]
      walk_at "rd"
      have hf := Int.emod_nonneg (ns.getD (2 : Int).toNat 0 / 3 * 982451653) (show (1000000000000000000000000000000 : Int) ≠ 0 by decide)
      generalize ns.getD (2 : Int).toNat 0 / 3 * 982451653 % 1000000000000000000000000000000 = far at *
      refine ⟨n, s0, far, rfl, n0, n1, s1, s2, hf, fun H1 S1 => ?_⟩
      walk_at "rd"
      refine ⟨a, n, s0, far, ns, rfl, S1.seq hS, n0, n1, s1, s2, hf, fun H2 S2 => ?_⟩
      walk_at "rd"
      refine ⟨a, n, far, ns, rfl, (S1.trans S2).seq hS, n0, n1, hf, fun H3 S3 => ?_⟩
      walk_at "rd"
      exact q _
    · walk_at "rd"
      obtain ⟨far, efar, hf⟩ : ∃ far : Int, far = 0 ∧ 0 ≤ far := ⟨0, rfl, by decide⟩
      rw [← efar]
      refine ⟨n, s0, far, rfl, n0, n1, s1, s2, hf, fun H1 S1 => ?_⟩
      walk_at "rd"
      refine ⟨a, n, s0, far, ns, rfl, S1.seq hS, n0, n1, s1, s2, hf, fun H2 S2 => ?_⟩
      walk_at "rd"
      refine ⟨a, n, far, ns, rfl, (S1.trans S2).seq hS, n0, n1, hf, fun H3 S3 => ?_⟩
      walk_at "rd"
      exact q _
end
theorem all_mk {l : W.OpenLaw} {w : World} {K : W.Frag} {h : Heap} {mg : Str → Option Value} {fa C_T C_C C_L C_R C_NF C_NP C_NR C_NC f_count_all f_Listing___init f_Listing_many f_Listing_check_place f_Turning___init f_Turning_row_at f_Turning_check_row f_Turning_figures_of f_Turning_place_of f_Turning_check_turn f_choose f_Choosing___init f_Choosing_row_at f_Choosing_check_row f_Choosing_place_of f_Choosing_check_spots f_Choosing_swapped f_Choosing_done f_Choosing_undone f_Turning_change f_Listing_leap dt_Listing_leap f_Listing_next_row f_Listing_row_before f_Listing_steps_to f_Turning_turned f_Turning_done f_Turning_undone f_Choosing_change f_l_cell_at f_l_length f_l_signs f_l_which f_l_formed f_l_ask f_l_refused f_l_forms f_l_bad_row f_l_bad_ones f_l_rows f_l_places f_l_changes f_l_swaps f_l_fit f_l_turning f_l_choosing f_law : Addr} (X : K.In h) (G : h.Ns mainGlobals mg) (hfa : mg "law" = some (.ref fa))
    {od_count_all an_count_all od_Listing___init an_Listing___init od_Listing_many an_Listing_many od_Listing_check_place an_Listing_check_place od_Turning___init an_Turning___init od_Turning_row_at an_Turning_row_at od_Turning_check_row an_Turning_check_row od_Turning_figures_of an_Turning_figures_of od_Turning_place_of an_Turning_place_of od_Turning_check_turn an_Turning_check_turn od_choose an_choose od_Choosing___init an_Choosing___init od_Choosing_row_at an_Choosing_row_at od_Choosing_check_row an_Choosing_check_row od_Choosing_place_of an_Choosing_place_of od_Choosing_check_spots an_Choosing_check_spots od_Choosing_swapped an_Choosing_swapped od_Choosing_done an_Choosing_done od_Choosing_undone an_Choosing_undone od_Turning_change an_Turning_change od_Listing_leap an_Listing_leap dod_Listing_leap od_Listing_next_row an_Listing_next_row od_Listing_row_before an_Listing_row_before od_Listing_steps_to an_Listing_steps_to od_Turning_turned an_Turning_turned od_Turning_done an_Turning_done od_Turning_undone an_Turning_undone od_Choosing_change an_Choosing_change od_l_cell_at an_l_cell_at od_l_length an_l_length od_l_signs an_l_signs od_l_which an_l_which od_l_formed an_l_formed od_l_ask an_l_ask od_l_refused an_l_refused od_l_forms an_l_forms od_l_bad_row an_l_bad_row od_l_bad_ones an_l_bad_ones od_l_rows an_l_rows od_l_places an_l_places od_l_changes an_l_changes od_l_swaps an_l_swaps od_l_fit an_l_fit od_l_turning an_l_turning od_l_choosing an_l_choosing od_law an_law : Option Addr} {sl_count_all sl_Listing___init sl_Listing_many sl_Listing_check_place sl_Turning___init sl_Turning_row_at sl_Turning_check_row sl_Turning_figures_of sl_Turning_place_of sl_Turning_check_turn sl_choose sl_Choosing___init sl_Choosing_row_at sl_Choosing_check_row sl_Choosing_place_of sl_Choosing_check_spots sl_Choosing_swapped sl_Choosing_done sl_Choosing_undone sl_Turning_change sl_Listing_leap dsl_Listing_leap sl_Listing_next_row sl_Listing_row_before sl_Listing_steps_to sl_Turning_turned sl_Turning_done sl_Turning_undone sl_Choosing_change sl_l_cell_at sl_l_length sl_l_signs sl_l_which sl_l_formed sl_l_ask sl_l_refused sl_l_forms sl_l_bad_row sl_l_bad_ones sl_l_rows sl_l_places sl_l_changes sl_l_swaps sl_l_fit sl_l_turning sl_l_choosing sl_law : Array (Option Value)} {mcL oc_count_all kV_count_all dc_count_all pm_count_all cd_count_all ct_count_all oc_Listing___init kV_Listing___init dc_Listing___init pm_Listing___init cd_Listing___init ct_Listing___init oc_Listing_many kV_Listing_many dc_Listing_many pm_Listing_many cd_Listing_many ct_Listing_many oc_Listing_check_place kV_Listing_check_place dc_Listing_check_place pm_Listing_check_place cd_Listing_check_place ct_Listing_check_place oc_Turning___init kV_Turning___init dc_Turning___init pm_Turning___init cd_Turning___init ct_Turning___init oc_Turning_row_at kV_Turning_row_at dc_Turning_row_at pm_Turning_row_at cd_Turning_row_at ct_Turning_row_at oc_Turning_check_row kV_Turning_check_row dc_Turning_check_row pm_Turning_check_row cd_Turning_check_row ct_Turning_check_row oc_Turning_figures_of kV_Turning_figures_of dc_Turning_figures_of pm_Turning_figures_of cd_Turning_figures_of ct_Turning_figures_of oc_Turning_place_of kV_Turning_place_of dc_Turning_place_of pm_Turning_place_of cd_Turning_place_of ct_Turning_place_of oc_Turning_check_turn kV_Turning_check_turn dc_Turning_check_turn pm_Turning_check_turn cd_Turning_check_turn ct_Turning_check_turn oc_choose kV_choose dc_choose pm_choose cd_choose ct_choose oc_Choosing___init kV_Choosing___init dc_Choosing___init pm_Choosing___init cd_Choosing___init ct_Choosing___init oc_Choosing_row_at kV_Choosing_row_at dc_Choosing_row_at pm_Choosing_row_at cd_Choosing_row_at ct_Choosing_row_at oc_Choosing_check_row kV_Choosing_check_row dc_Choosing_check_row pm_Choosing_check_row cd_Choosing_check_row ct_Choosing_check_row oc_Choosing_place_of kV_Choosing_place_of dc_Choosing_place_of pm_Choosing_place_of cd_Choosing_place_of ct_Choosing_place_of oc_Choosing_check_spots kV_Choosing_check_spots dc_Choosing_check_spots pm_Choosing_check_spots cd_Choosing_check_spots ct_Choosing_check_spots oc_Choosing_swapped kV_Choosing_swapped dc_Choosing_swapped pm_Choosing_swapped cd_Choosing_swapped ct_Choosing_swapped oc_Choosing_done kV_Choosing_done dc_Choosing_done pm_Choosing_done cd_Choosing_done ct_Choosing_done oc_Choosing_undone kV_Choosing_undone dc_Choosing_undone pm_Choosing_undone cd_Choosing_undone ct_Choosing_undone oc_Turning_change kV_Turning_change dc_Turning_change pm_Turning_change cd_Turning_change ct_Turning_change oc_Listing_leap kV_Listing_leap dc_Listing_leap pm_Listing_leap cd_Listing_leap ct_Listing_leap doc_Listing_leap oc_Listing_next_row kV_Listing_next_row dc_Listing_next_row pm_Listing_next_row cd_Listing_next_row ct_Listing_next_row oc_Listing_row_before kV_Listing_row_before dc_Listing_row_before pm_Listing_row_before cd_Listing_row_before ct_Listing_row_before oc_Listing_steps_to kV_Listing_steps_to dc_Listing_steps_to pm_Listing_steps_to cd_Listing_steps_to ct_Listing_steps_to oc_Turning_turned kV_Turning_turned dc_Turning_turned pm_Turning_turned cd_Turning_turned ct_Turning_turned oc_Turning_done kV_Turning_done dc_Turning_done pm_Turning_done cd_Turning_done ct_Turning_done oc_Turning_undone kV_Turning_undone dc_Turning_undone pm_Turning_undone cd_Turning_undone ct_Turning_undone oc_Choosing_change kV_Choosing_change dc_Choosing_change pm_Choosing_change cd_Choosing_change ct_Choosing_change oc_l_cell_at kV_l_cell_at dc_l_cell_at pm_l_cell_at cd_l_cell_at ct_l_cell_at oc_l_length kV_l_length dc_l_length pm_l_length cd_l_length ct_l_length oc_l_signs kV_l_signs dc_l_signs pm_l_signs cd_l_signs ct_l_signs oc_l_which kV_l_which dc_l_which pm_l_which cd_l_which ct_l_which oc_l_formed kV_l_formed dc_l_formed pm_l_formed cd_l_formed ct_l_formed oc_l_ask kV_l_ask dc_l_ask pm_l_ask cd_l_ask ct_l_ask oc_l_refused kV_l_refused dc_l_refused pm_l_refused cd_l_refused ct_l_refused oc_l_forms kV_l_forms dc_l_forms pm_l_forms cd_l_forms ct_l_forms oc_l_bad_row kV_l_bad_row dc_l_bad_row pm_l_bad_row cd_l_bad_row ct_l_bad_row oc_l_bad_ones kV_l_bad_ones dc_l_bad_ones pm_l_bad_ones cd_l_bad_ones ct_l_bad_ones oc_l_rows kV_l_rows dc_l_rows pm_l_rows cd_l_rows ct_l_rows oc_l_places kV_l_places dc_l_places pm_l_places cd_l_places ct_l_places oc_l_changes kV_l_changes dc_l_changes pm_l_changes cd_l_changes ct_l_changes oc_l_swaps kV_l_swaps dc_l_swaps pm_l_swaps cd_l_swaps ct_l_swaps oc_l_fit kV_l_fit dc_l_fit pm_l_fit cd_l_fit ct_l_fit oc_l_turning kV_l_turning dc_l_turning pm_l_turning cd_l_turning ct_l_turning oc_l_choosing kV_l_choosing dc_l_choosing pm_l_choosing cd_l_choosing ct_l_choosing oc_law kV_law dc_law pm_law cd_law ct_law : Value} {tkL tk_Listing_leap : Tok} {nn_Listing_leap : Nat}
    (aC_T : W.nsIn K mainGlobals "Turning" = some (some (.ref C_T)))
    (pg_T : W.plainGet K C_T Str.empty = true)
    (hd_T : W.hasDictIn K C_T = true)
    (po_T : W.plainOver K C_T = true)
    (sa_T : W.findIn K (.ref C_T) "__setattr__" = some (some (.builtin "object.__setattr__")))
    (mk_T : W.makesIn K C_T = true)
    (kc_T : W.keepIn K (.ref C_T) = true)
    (na_T_size : W.findIn K (.ref C_T) "size" = some none)
    (na_T_signs : W.findIn K (.ref C_T) "signs" = some none)
    (na_T_length : W.findIn K (.ref C_T) "length" = some none)
    (aC_C : W.nsIn K mainGlobals "Choosing" = some (some (.ref C_C)))
    (pg_C : W.plainGet K C_C Str.empty = true)
    (hd_C : W.hasDictIn K C_C = true)
    (po_C : W.plainOver K C_C = true)
    (sa_C : W.findIn K (.ref C_C) "__setattr__" = some (some (.builtin "object.__setattr__")))
    (mk_C : W.makesIn K C_C = true)
    (kc_C : W.keepIn K (.ref C_C) = true)
    (na_C_size : W.findIn K (.ref C_C) "size" = some none)
    (na_C_length : W.findIn K (.ref C_C) "length" = some none)
    (na_C_ones : W.findIn K (.ref C_C) "ones" = some none)
    (aC_L : W.nsIn K mainGlobals "Listing" = some (some (.ref C_L)))
    (ga_L : W.specialIn K (.ref C_L) "__getattribute__" = some (some (.builtin "type.__getattribute__")))
    (ty_L : W.typeIn K (.ref C_L) = some mcL)
    (rd_L : W.readsIn K C_L mcL = true)
    (aC_R : W.nsIn K mainGlobals "RowError" = some (some (.ref C_R)))
    (aC_NF : W.nsIn K mainGlobals "NoForm" = some (some (.ref C_NF)))
    (aC_NP : W.nsIn K mainGlobals "NoPlace" = some (some (.ref C_NP)))
    (aC_NR : W.nsIn K mainGlobals "NoRow" = some (some (.ref C_NR)))
    (aC_NC : W.nsIn K mainGlobals "NoChange" = some (some (.ref C_NC)))
    (x_NF : L2.xclsIn K C_NF C_R = true)
    (ga_NF : W.findIn K (.ref C_NF) "__getattribute__" = some (some (.builtin "BaseException.__getattribute__")))
    (gn_NF : W.findIn K (.ref C_NF) "__getattr__" = some none)
    (cl_NF : W.findIn K (.ref C_NF) "__class__" = some (some (.builtin "object.__class__")))
    (ob_NF : W.mroIn K C_NF (.type "object") = some true)
    (be_NF : W.mroIn K C_NF (.type "BaseException") = some true)
    (ic_NF : (W.clsIn K C_NF).isSome = true)
    (ex_NF : W.exmOne K (.ref C_NF) (.ref C_R) = some true)
    (kv_NF : W.kitOne K (.ref C_NF) (.type "ValueError") = some true)
    (kt_NF_NF : W.kitOne K (.ref C_NF) (.ref C_NF) = some true)
    (kt_NF_NP : W.kitOne K (.ref C_NF) (.ref C_NP) = some false)
    (kt_NF_NR : W.kitOne K (.ref C_NF) (.ref C_NR) = some false)
    (kt_NF_NC : W.kitOne K (.ref C_NF) (.ref C_NC) = some false)
    (x_NP : L2.xclsIn K C_NP C_R = true)
    (ga_NP : W.findIn K (.ref C_NP) "__getattribute__" = some (some (.builtin "BaseException.__getattribute__")))
    (gn_NP : W.findIn K (.ref C_NP) "__getattr__" = some none)
    (cl_NP : W.findIn K (.ref C_NP) "__class__" = some (some (.builtin "object.__class__")))
    (ob_NP : W.mroIn K C_NP (.type "object") = some true)
    (be_NP : W.mroIn K C_NP (.type "BaseException") = some true)
    (ic_NP : (W.clsIn K C_NP).isSome = true)
    (ex_NP : W.exmOne K (.ref C_NP) (.ref C_R) = some true)
    (kv_NP : W.kitOne K (.ref C_NP) (.type "ValueError") = some true)
    (kt_NP_NF : W.kitOne K (.ref C_NP) (.ref C_NF) = some false)
    (kt_NP_NP : W.kitOne K (.ref C_NP) (.ref C_NP) = some true)
    (kt_NP_NR : W.kitOne K (.ref C_NP) (.ref C_NR) = some false)
    (kt_NP_NC : W.kitOne K (.ref C_NP) (.ref C_NC) = some false)
    (x_NR : L2.xclsIn K C_NR C_R = true)
    (ga_NR : W.findIn K (.ref C_NR) "__getattribute__" = some (some (.builtin "BaseException.__getattribute__")))
    (gn_NR : W.findIn K (.ref C_NR) "__getattr__" = some none)
    (cl_NR : W.findIn K (.ref C_NR) "__class__" = some (some (.builtin "object.__class__")))
    (ob_NR : W.mroIn K C_NR (.type "object") = some true)
    (be_NR : W.mroIn K C_NR (.type "BaseException") = some true)
    (ic_NR : (W.clsIn K C_NR).isSome = true)
    (ex_NR : W.exmOne K (.ref C_NR) (.ref C_R) = some true)
    (kv_NR : W.kitOne K (.ref C_NR) (.type "ValueError") = some true)
    (kt_NR_NF : W.kitOne K (.ref C_NR) (.ref C_NF) = some false)
    (kt_NR_NP : W.kitOne K (.ref C_NR) (.ref C_NP) = some false)
    (kt_NR_NR : W.kitOne K (.ref C_NR) (.ref C_NR) = some true)
    (kt_NR_NC : W.kitOne K (.ref C_NR) (.ref C_NC) = some false)
    (x_NC : L2.xclsIn K C_NC C_R = true)
    (ga_NC : W.findIn K (.ref C_NC) "__getattribute__" = some (some (.builtin "BaseException.__getattribute__")))
    (gn_NC : W.findIn K (.ref C_NC) "__getattr__" = some none)
    (cl_NC : W.findIn K (.ref C_NC) "__class__" = some (some (.builtin "object.__class__")))
    (ob_NC : W.mroIn K C_NC (.type "object") = some true)
    (be_NC : W.mroIn K C_NC (.type "BaseException") = some true)
    (ic_NC : (W.clsIn K C_NC).isSome = true)
    (ex_NC : W.exmOne K (.ref C_NC) (.ref C_R) = some true)
    (kv_NC : W.kitOne K (.ref C_NC) (.type "ValueError") = some true)
    (kt_NC_NF : W.kitOne K (.ref C_NC) (.ref C_NF) = some false)
    (kt_NC_NP : W.kitOne K (.ref C_NC) (.ref C_NP) = some false)
    (kt_NC_NR : W.kitOne K (.ref C_NC) (.ref C_NR) = some false)
    (kt_NC_NC : W.kitOne K (.ref C_NC) (.ref C_NC) = some true)
    (z_VE : W.nsIn K mainGlobals "ValueError" = some none)
    (a_count_all : W.nsIn K mainGlobals "count_all" = some (some (.ref f_count_all)))
    (l_count_all : K.lookup f_count_all = some ⟨oc_count_all, od_count_all, .func (W.fnOf "count_all" "count_all" (defArgs s_count_all) (defBody s_count_all) (defScope s_count_all) .none kV_count_all dc_count_all pm_count_all an_count_all cd_count_all ct_count_all), sl_count_all⟩)
    (c_count_all : W.codeIn K cd_count_all "count_all" = true)
    (k_count_all : W.keepIn K (.ref f_count_all) = true)
    (a_Listing___init : W.findCls K (.ref C_L) mcL "__init__" = some (.val (.ref f_Listing___init)))
    (l_Listing___init : K.lookup f_Listing___init = some ⟨oc_Listing___init, od_Listing___init, .func (W.fnOf "__init__" "Listing.__init__" (defArgs s_Listing___init) (defBody s_Listing___init) (defScope s_Listing___init) .none kV_Listing___init dc_Listing___init pm_Listing___init an_Listing___init cd_Listing___init ct_Listing___init), sl_Listing___init⟩)
    (c_Listing___init : W.codeIn K cd_Listing___init "Listing.__init__" = true)
    (k_Listing___init : W.keepIn K (.ref f_Listing___init) = true)
    (a_Listing_many_T : W.findIn K (.ref C_T) "many" = some (some (.ref f_Listing_many)))
    (l_Listing_many : K.lookup f_Listing_many = some ⟨oc_Listing_many, od_Listing_many, .func (W.fnOf "many" "Listing.many" (defArgs s_Listing_many) (defBody s_Listing_many) (defScope s_Listing_many) .none kV_Listing_many dc_Listing_many pm_Listing_many an_Listing_many cd_Listing_many ct_Listing_many), sl_Listing_many⟩)
    (c_Listing_many : W.codeIn K cd_Listing_many "Listing.many" = true)
    (k_Listing_many : W.keepIn K (.ref f_Listing_many) = true)
    (i_Listing_many : W.isFn K (.ref f_Listing_many) = true)
    (a_Listing_check_place_T : W.findIn K (.ref C_T) "check_place" = some (some (.ref f_Listing_check_place)))
    (l_Listing_check_place : K.lookup f_Listing_check_place = some ⟨oc_Listing_check_place, od_Listing_check_place, .func (W.fnOf "check_place" "Listing.check_place" (defArgs s_Listing_check_place) (defBody s_Listing_check_place) (defScope s_Listing_check_place) .none kV_Listing_check_place dc_Listing_check_place pm_Listing_check_place an_Listing_check_place cd_Listing_check_place ct_Listing_check_place), sl_Listing_check_place⟩)
    (c_Listing_check_place : W.codeIn K cd_Listing_check_place "Listing.check_place" = true)
    (k_Listing_check_place : W.keepIn K (.ref f_Listing_check_place) = true)
    (i_Listing_check_place : W.isFn K (.ref f_Listing_check_place) = true)
    (a_Turning___init_T : W.findIn K (.ref C_T) "__init__" = some (some (.ref f_Turning___init)))
    (l_Turning___init : K.lookup f_Turning___init = some ⟨oc_Turning___init, od_Turning___init, .func (W.fnOf "__init__" "Turning.__init__" (defArgs s_Turning___init) (defBody s_Turning___init) (defScope s_Turning___init) .none kV_Turning___init dc_Turning___init pm_Turning___init an_Turning___init cd_Turning___init ct_Turning___init), sl_Turning___init⟩)
    (c_Turning___init : W.codeIn K cd_Turning___init "Turning.__init__" = true)
    (k_Turning___init : W.keepIn K (.ref f_Turning___init) = true)
    (i_Turning___init : W.isFn K (.ref f_Turning___init) = true)
    (a_Turning_row_at_T : W.findIn K (.ref C_T) "row_at" = some (some (.ref f_Turning_row_at)))
    (l_Turning_row_at : K.lookup f_Turning_row_at = some ⟨oc_Turning_row_at, od_Turning_row_at, .func (W.fnOf "row_at" "Turning.row_at" (defArgs s_Turning_row_at) (defBody s_Turning_row_at) (defScope s_Turning_row_at) .none kV_Turning_row_at dc_Turning_row_at pm_Turning_row_at an_Turning_row_at cd_Turning_row_at ct_Turning_row_at), sl_Turning_row_at⟩)
    (c_Turning_row_at : W.codeIn K cd_Turning_row_at "Turning.row_at" = true)
    (k_Turning_row_at : W.keepIn K (.ref f_Turning_row_at) = true)
    (i_Turning_row_at : W.isFn K (.ref f_Turning_row_at) = true)
    (a_Turning_check_row_T : W.findIn K (.ref C_T) "check_row" = some (some (.ref f_Turning_check_row)))
    (l_Turning_check_row : K.lookup f_Turning_check_row = some ⟨oc_Turning_check_row, od_Turning_check_row, .func (W.fnOf "check_row" "Turning.check_row" (defArgs s_Turning_check_row) (defBody s_Turning_check_row) (defScope s_Turning_check_row) .none kV_Turning_check_row dc_Turning_check_row pm_Turning_check_row an_Turning_check_row cd_Turning_check_row ct_Turning_check_row), sl_Turning_check_row⟩)
    (c_Turning_check_row : W.codeIn K cd_Turning_check_row "Turning.check_row" = true)
    (k_Turning_check_row : W.keepIn K (.ref f_Turning_check_row) = true)
    (i_Turning_check_row : W.isFn K (.ref f_Turning_check_row) = true)
    (a_Turning_figures_of_T : W.findIn K (.ref C_T) "figures_of" = some (some (.ref f_Turning_figures_of)))
    (l_Turning_figures_of : K.lookup f_Turning_figures_of = some ⟨oc_Turning_figures_of, od_Turning_figures_of, .func (W.fnOf "figures_of" "Turning.figures_of" (defArgs s_Turning_figures_of) (defBody s_Turning_figures_of) (defScope s_Turning_figures_of) .none kV_Turning_figures_of dc_Turning_figures_of pm_Turning_figures_of an_Turning_figures_of cd_Turning_figures_of ct_Turning_figures_of), sl_Turning_figures_of⟩)
    (c_Turning_figures_of : W.codeIn K cd_Turning_figures_of "Turning.figures_of" = true)
    (k_Turning_figures_of : W.keepIn K (.ref f_Turning_figures_of) = true)
    (i_Turning_figures_of : W.isFn K (.ref f_Turning_figures_of) = true)
    (a_Turning_place_of_T : W.findIn K (.ref C_T) "place_of" = some (some (.ref f_Turning_place_of)))
    (l_Turning_place_of : K.lookup f_Turning_place_of = some ⟨oc_Turning_place_of, od_Turning_place_of, .func (W.fnOf "place_of" "Turning.place_of" (defArgs s_Turning_place_of) (defBody s_Turning_place_of) (defScope s_Turning_place_of) .none kV_Turning_place_of dc_Turning_place_of pm_Turning_place_of an_Turning_place_of cd_Turning_place_of ct_Turning_place_of), sl_Turning_place_of⟩)
    (c_Turning_place_of : W.codeIn K cd_Turning_place_of "Turning.place_of" = true)
    (k_Turning_place_of : W.keepIn K (.ref f_Turning_place_of) = true)
    (i_Turning_place_of : W.isFn K (.ref f_Turning_place_of) = true)
    (a_Turning_check_turn_T : W.findIn K (.ref C_T) "check_turn" = some (some (.ref f_Turning_check_turn)))
    (l_Turning_check_turn : K.lookup f_Turning_check_turn = some ⟨oc_Turning_check_turn, od_Turning_check_turn, .func (W.fnOf "check_turn" "Turning.check_turn" (defArgs s_Turning_check_turn) (defBody s_Turning_check_turn) (defScope s_Turning_check_turn) .none kV_Turning_check_turn dc_Turning_check_turn pm_Turning_check_turn an_Turning_check_turn cd_Turning_check_turn ct_Turning_check_turn), sl_Turning_check_turn⟩)
    (c_Turning_check_turn : W.codeIn K cd_Turning_check_turn "Turning.check_turn" = true)
    (k_Turning_check_turn : W.keepIn K (.ref f_Turning_check_turn) = true)
    (i_Turning_check_turn : W.isFn K (.ref f_Turning_check_turn) = true)
    (a_choose : W.nsIn K mainGlobals "choose" = some (some (.ref f_choose)))
    (l_choose : K.lookup f_choose = some ⟨oc_choose, od_choose, .func (W.fnOf "choose" "choose" (defArgs s_choose) (defBody s_choose) (defScope s_choose) .none kV_choose dc_choose pm_choose an_choose cd_choose ct_choose), sl_choose⟩)
    (c_choose : W.codeIn K cd_choose "choose" = true)
    (k_choose : W.keepIn K (.ref f_choose) = true)
    (a_Listing_many_C : W.findIn K (.ref C_C) "many" = some (some (.ref f_Listing_many)))
    (a_Listing_check_place_C : W.findIn K (.ref C_C) "check_place" = some (some (.ref f_Listing_check_place)))
    (a_Choosing___init_C : W.findIn K (.ref C_C) "__init__" = some (some (.ref f_Choosing___init)))
    (l_Choosing___init : K.lookup f_Choosing___init = some ⟨oc_Choosing___init, od_Choosing___init, .func (W.fnOf "__init__" "Choosing.__init__" (defArgs s_Choosing___init) (defBody s_Choosing___init) (defScope s_Choosing___init) .none kV_Choosing___init dc_Choosing___init pm_Choosing___init an_Choosing___init cd_Choosing___init ct_Choosing___init), sl_Choosing___init⟩)
    (c_Choosing___init : W.codeIn K cd_Choosing___init "Choosing.__init__" = true)
    (k_Choosing___init : W.keepIn K (.ref f_Choosing___init) = true)
    (i_Choosing___init : W.isFn K (.ref f_Choosing___init) = true)
    (a_Choosing_row_at_C : W.findIn K (.ref C_C) "row_at" = some (some (.ref f_Choosing_row_at)))
    (l_Choosing_row_at : K.lookup f_Choosing_row_at = some ⟨oc_Choosing_row_at, od_Choosing_row_at, .func (W.fnOf "row_at" "Choosing.row_at" (defArgs s_Choosing_row_at) (defBody s_Choosing_row_at) (defScope s_Choosing_row_at) .none kV_Choosing_row_at dc_Choosing_row_at pm_Choosing_row_at an_Choosing_row_at cd_Choosing_row_at ct_Choosing_row_at), sl_Choosing_row_at⟩)
    (c_Choosing_row_at : W.codeIn K cd_Choosing_row_at "Choosing.row_at" = true)
    (k_Choosing_row_at : W.keepIn K (.ref f_Choosing_row_at) = true)
    (i_Choosing_row_at : W.isFn K (.ref f_Choosing_row_at) = true)
    (a_Choosing_check_row_C : W.findIn K (.ref C_C) "check_row" = some (some (.ref f_Choosing_check_row)))
    (l_Choosing_check_row : K.lookup f_Choosing_check_row = some ⟨oc_Choosing_check_row, od_Choosing_check_row, .func (W.fnOf "check_row" "Choosing.check_row" (defArgs s_Choosing_check_row) (defBody s_Choosing_check_row) (defScope s_Choosing_check_row) .none kV_Choosing_check_row dc_Choosing_check_row pm_Choosing_check_row an_Choosing_check_row cd_Choosing_check_row ct_Choosing_check_row), sl_Choosing_check_row⟩)
    (c_Choosing_check_row : W.codeIn K cd_Choosing_check_row "Choosing.check_row" = true)
    (k_Choosing_check_row : W.keepIn K (.ref f_Choosing_check_row) = true)
    (i_Choosing_check_row : W.isFn K (.ref f_Choosing_check_row) = true)
    (a_Choosing_place_of_C : W.findIn K (.ref C_C) "place_of" = some (some (.ref f_Choosing_place_of)))
    (l_Choosing_place_of : K.lookup f_Choosing_place_of = some ⟨oc_Choosing_place_of, od_Choosing_place_of, .func (W.fnOf "place_of" "Choosing.place_of" (defArgs s_Choosing_place_of) (defBody s_Choosing_place_of) (defScope s_Choosing_place_of) .none kV_Choosing_place_of dc_Choosing_place_of pm_Choosing_place_of an_Choosing_place_of cd_Choosing_place_of ct_Choosing_place_of), sl_Choosing_place_of⟩)
    (c_Choosing_place_of : W.codeIn K cd_Choosing_place_of "Choosing.place_of" = true)
    (k_Choosing_place_of : W.keepIn K (.ref f_Choosing_place_of) = true)
    (i_Choosing_place_of : W.isFn K (.ref f_Choosing_place_of) = true)
    (a_Choosing_check_spots_C : W.findIn K (.ref C_C) "check_spots" = some (some (.ref f_Choosing_check_spots)))
    (l_Choosing_check_spots : K.lookup f_Choosing_check_spots = some ⟨oc_Choosing_check_spots, od_Choosing_check_spots, .func (W.fnOf "check_spots" "Choosing.check_spots" (defArgs s_Choosing_check_spots) (defBody s_Choosing_check_spots) (defScope s_Choosing_check_spots) .none kV_Choosing_check_spots dc_Choosing_check_spots pm_Choosing_check_spots an_Choosing_check_spots cd_Choosing_check_spots ct_Choosing_check_spots), sl_Choosing_check_spots⟩)
    (c_Choosing_check_spots : W.codeIn K cd_Choosing_check_spots "Choosing.check_spots" = true)
    (k_Choosing_check_spots : W.keepIn K (.ref f_Choosing_check_spots) = true)
    (i_Choosing_check_spots : W.isFn K (.ref f_Choosing_check_spots) = true)
    (a_Choosing_swapped_C : W.findIn K (.ref C_C) "swapped" = some (some (.ref f_Choosing_swapped)))
    (l_Choosing_swapped : K.lookup f_Choosing_swapped = some ⟨oc_Choosing_swapped, od_Choosing_swapped, .func (W.fnOf "swapped" "Choosing.swapped" (defArgs s_Choosing_swapped) (defBody s_Choosing_swapped) (defScope s_Choosing_swapped) .none kV_Choosing_swapped dc_Choosing_swapped pm_Choosing_swapped an_Choosing_swapped cd_Choosing_swapped ct_Choosing_swapped), sl_Choosing_swapped⟩)
    (c_Choosing_swapped : W.codeIn K cd_Choosing_swapped "Choosing.swapped" = true)
    (k_Choosing_swapped : W.keepIn K (.ref f_Choosing_swapped) = true)
    (i_Choosing_swapped : W.isFn K (.ref f_Choosing_swapped) = true)
    (a_Choosing_done_C : W.findIn K (.ref C_C) "done" = some (some (.ref f_Choosing_done)))
    (l_Choosing_done : K.lookup f_Choosing_done = some ⟨oc_Choosing_done, od_Choosing_done, .func (W.fnOf "done" "Choosing.done" (defArgs s_Choosing_done) (defBody s_Choosing_done) (defScope s_Choosing_done) .none kV_Choosing_done dc_Choosing_done pm_Choosing_done an_Choosing_done cd_Choosing_done ct_Choosing_done), sl_Choosing_done⟩)
    (c_Choosing_done : W.codeIn K cd_Choosing_done "Choosing.done" = true)
    (k_Choosing_done : W.keepIn K (.ref f_Choosing_done) = true)
    (i_Choosing_done : W.isFn K (.ref f_Choosing_done) = true)
    (a_Choosing_undone_C : W.findIn K (.ref C_C) "undone" = some (some (.ref f_Choosing_undone)))
    (l_Choosing_undone : K.lookup f_Choosing_undone = some ⟨oc_Choosing_undone, od_Choosing_undone, .func (W.fnOf "undone" "Choosing.undone" (defArgs s_Choosing_undone) (defBody s_Choosing_undone) (defScope s_Choosing_undone) .none kV_Choosing_undone dc_Choosing_undone pm_Choosing_undone an_Choosing_undone cd_Choosing_undone ct_Choosing_undone), sl_Choosing_undone⟩)
    (c_Choosing_undone : W.codeIn K cd_Choosing_undone "Choosing.undone" = true)
    (k_Choosing_undone : W.keepIn K (.ref f_Choosing_undone) = true)
    (i_Choosing_undone : W.isFn K (.ref f_Choosing_undone) = true)
    (a_Turning_change_T : W.findIn K (.ref C_T) "change" = some (some (.ref f_Turning_change)))
    (l_Turning_change : K.lookup f_Turning_change = some ⟨oc_Turning_change, od_Turning_change, .func (W.fnOf "change" "Turning.change" (defArgs s_Turning_change) (defBody s_Turning_change) (defScope s_Turning_change) .none kV_Turning_change dc_Turning_change pm_Turning_change an_Turning_change cd_Turning_change ct_Turning_change), sl_Turning_change⟩)
    (c_Turning_change : W.codeIn K cd_Turning_change "Turning.change" = true)
    (k_Turning_change : W.keepIn K (.ref f_Turning_change) = true)
    (i_Turning_change : W.isFn K (.ref f_Turning_change) = true)
    (a_Listing_leap_T : W.findIn K (.ref C_T) "leap" = some (some (.ref f_Listing_leap)))
    (l_Listing_leap : K.lookup f_Listing_leap = some ⟨oc_Listing_leap, od_Listing_leap, .func (W.fnOf "leap" "Listing.leap" (defArgs s_Listing_leap) (defBody s_Listing_leap) (defScope s_Listing_leap) (.ref dt_Listing_leap) kV_Listing_leap dc_Listing_leap pm_Listing_leap an_Listing_leap cd_Listing_leap ct_Listing_leap), sl_Listing_leap⟩)
    (d_Listing_leap : K.lookup dt_Listing_leap = some ⟨doc_Listing_leap, dod_Listing_leap, .seq #[.int 1 tk_Listing_leap] nn_Listing_leap, dsl_Listing_leap⟩)
    (c_Listing_leap : W.codeIn K cd_Listing_leap "Listing.leap" = true)
    (k_Listing_leap : W.keepIn K (.ref f_Listing_leap) = true)
    (i_Listing_leap : W.isFn K (.ref f_Listing_leap) = true)
    (a_Listing_next_row_T : W.findIn K (.ref C_T) "next_row" = some (some (.ref f_Listing_next_row)))
    (l_Listing_next_row : K.lookup f_Listing_next_row = some ⟨oc_Listing_next_row, od_Listing_next_row, .func (W.fnOf "next_row" "Listing.next_row" (defArgs s_Listing_next_row) (defBody s_Listing_next_row) (defScope s_Listing_next_row) .none kV_Listing_next_row dc_Listing_next_row pm_Listing_next_row an_Listing_next_row cd_Listing_next_row ct_Listing_next_row), sl_Listing_next_row⟩)
    (c_Listing_next_row : W.codeIn K cd_Listing_next_row "Listing.next_row" = true)
    (k_Listing_next_row : W.keepIn K (.ref f_Listing_next_row) = true)
    (i_Listing_next_row : W.isFn K (.ref f_Listing_next_row) = true)
    (a_Listing_row_before_T : W.findIn K (.ref C_T) "row_before" = some (some (.ref f_Listing_row_before)))
    (l_Listing_row_before : K.lookup f_Listing_row_before = some ⟨oc_Listing_row_before, od_Listing_row_before, .func (W.fnOf "row_before" "Listing.row_before" (defArgs s_Listing_row_before) (defBody s_Listing_row_before) (defScope s_Listing_row_before) .none kV_Listing_row_before dc_Listing_row_before pm_Listing_row_before an_Listing_row_before cd_Listing_row_before ct_Listing_row_before), sl_Listing_row_before⟩)
    (c_Listing_row_before : W.codeIn K cd_Listing_row_before "Listing.row_before" = true)
    (k_Listing_row_before : W.keepIn K (.ref f_Listing_row_before) = true)
    (i_Listing_row_before : W.isFn K (.ref f_Listing_row_before) = true)
    (a_Listing_steps_to_T : W.findIn K (.ref C_T) "steps_to" = some (some (.ref f_Listing_steps_to)))
    (l_Listing_steps_to : K.lookup f_Listing_steps_to = some ⟨oc_Listing_steps_to, od_Listing_steps_to, .func (W.fnOf "steps_to" "Listing.steps_to" (defArgs s_Listing_steps_to) (defBody s_Listing_steps_to) (defScope s_Listing_steps_to) .none kV_Listing_steps_to dc_Listing_steps_to pm_Listing_steps_to an_Listing_steps_to cd_Listing_steps_to ct_Listing_steps_to), sl_Listing_steps_to⟩)
    (c_Listing_steps_to : W.codeIn K cd_Listing_steps_to "Listing.steps_to" = true)
    (k_Listing_steps_to : W.keepIn K (.ref f_Listing_steps_to) = true)
    (i_Listing_steps_to : W.isFn K (.ref f_Listing_steps_to) = true)
    (a_Turning_turned_T : W.findIn K (.ref C_T) "turned" = some (some (.ref f_Turning_turned)))
    (l_Turning_turned : K.lookup f_Turning_turned = some ⟨oc_Turning_turned, od_Turning_turned, .func (W.fnOf "turned" "Turning.turned" (defArgs s_Turning_turned) (defBody s_Turning_turned) (defScope s_Turning_turned) .none kV_Turning_turned dc_Turning_turned pm_Turning_turned an_Turning_turned cd_Turning_turned ct_Turning_turned), sl_Turning_turned⟩)
    (c_Turning_turned : W.codeIn K cd_Turning_turned "Turning.turned" = true)
    (k_Turning_turned : W.keepIn K (.ref f_Turning_turned) = true)
    (i_Turning_turned : W.isFn K (.ref f_Turning_turned) = true)
    (a_Turning_done_T : W.findIn K (.ref C_T) "done" = some (some (.ref f_Turning_done)))
    (l_Turning_done : K.lookup f_Turning_done = some ⟨oc_Turning_done, od_Turning_done, .func (W.fnOf "done" "Turning.done" (defArgs s_Turning_done) (defBody s_Turning_done) (defScope s_Turning_done) .none kV_Turning_done dc_Turning_done pm_Turning_done an_Turning_done cd_Turning_done ct_Turning_done), sl_Turning_done⟩)
    (c_Turning_done : W.codeIn K cd_Turning_done "Turning.done" = true)
    (k_Turning_done : W.keepIn K (.ref f_Turning_done) = true)
    (i_Turning_done : W.isFn K (.ref f_Turning_done) = true)
    (a_Turning_undone_T : W.findIn K (.ref C_T) "undone" = some (some (.ref f_Turning_undone)))
    (l_Turning_undone : K.lookup f_Turning_undone = some ⟨oc_Turning_undone, od_Turning_undone, .func (W.fnOf "undone" "Turning.undone" (defArgs s_Turning_undone) (defBody s_Turning_undone) (defScope s_Turning_undone) .none kV_Turning_undone dc_Turning_undone pm_Turning_undone an_Turning_undone cd_Turning_undone ct_Turning_undone), sl_Turning_undone⟩)
    (c_Turning_undone : W.codeIn K cd_Turning_undone "Turning.undone" = true)
    (k_Turning_undone : W.keepIn K (.ref f_Turning_undone) = true)
    (i_Turning_undone : W.isFn K (.ref f_Turning_undone) = true)
    (a_Listing_leap_C : W.findIn K (.ref C_C) "leap" = some (some (.ref f_Listing_leap)))
    (a_Listing_next_row_C : W.findIn K (.ref C_C) "next_row" = some (some (.ref f_Listing_next_row)))
    (a_Listing_row_before_C : W.findIn K (.ref C_C) "row_before" = some (some (.ref f_Listing_row_before)))
    (a_Listing_steps_to_C : W.findIn K (.ref C_C) "steps_to" = some (some (.ref f_Listing_steps_to)))
    (a_Choosing_change_C : W.findIn K (.ref C_C) "change" = some (some (.ref f_Choosing_change)))
    (l_Choosing_change : K.lookup f_Choosing_change = some ⟨oc_Choosing_change, od_Choosing_change, .func (W.fnOf "change" "Choosing.change" (defArgs s_Choosing_change) (defBody s_Choosing_change) (defScope s_Choosing_change) .none kV_Choosing_change dc_Choosing_change pm_Choosing_change an_Choosing_change cd_Choosing_change ct_Choosing_change), sl_Choosing_change⟩)
    (c_Choosing_change : W.codeIn K cd_Choosing_change "Choosing.change" = true)
    (k_Choosing_change : W.keepIn K (.ref f_Choosing_change) = true)
    (i_Choosing_change : W.isFn K (.ref f_Choosing_change) = true)
    (a_l_cell_at : W.nsIn K mainGlobals "_law_cell_at" = some (some (.ref f_l_cell_at)))
    (l_l_cell_at : K.lookup f_l_cell_at = some ⟨oc_l_cell_at, od_l_cell_at, .func (W.fnOf "_law_cell_at" "_law_cell_at" (defArgs s_l_cell_at) (defBody s_l_cell_at) (defScope s_l_cell_at) .none kV_l_cell_at dc_l_cell_at pm_l_cell_at an_l_cell_at cd_l_cell_at ct_l_cell_at), sl_l_cell_at⟩)
    (c_l_cell_at : W.codeIn K cd_l_cell_at "_law_cell_at" = true)
    (k_l_cell_at : W.keepIn K (.ref f_l_cell_at) = true)
    (a_l_length : W.nsIn K mainGlobals "_law_length" = some (some (.ref f_l_length)))
    (l_l_length : K.lookup f_l_length = some ⟨oc_l_length, od_l_length, .func (W.fnOf "_law_length" "_law_length" (defArgs s_l_length) (defBody s_l_length) (defScope s_l_length) .none kV_l_length dc_l_length pm_l_length an_l_length cd_l_length ct_l_length), sl_l_length⟩)
    (c_l_length : W.codeIn K cd_l_length "_law_length" = true)
    (k_l_length : W.keepIn K (.ref f_l_length) = true)
    (a_l_signs : W.nsIn K mainGlobals "_law_signs" = some (some (.ref f_l_signs)))
    (l_l_signs : K.lookup f_l_signs = some ⟨oc_l_signs, od_l_signs, .func (W.fnOf "_law_signs" "_law_signs" (defArgs s_l_signs) (defBody s_l_signs) (defScope s_l_signs) .none kV_l_signs dc_l_signs pm_l_signs an_l_signs cd_l_signs ct_l_signs), sl_l_signs⟩)
    (c_l_signs : W.codeIn K cd_l_signs "_law_signs" = true)
    (k_l_signs : W.keepIn K (.ref f_l_signs) = true)
    (a_l_which : W.nsIn K mainGlobals "_law_which" = some (some (.ref f_l_which)))
    (l_l_which : K.lookup f_l_which = some ⟨oc_l_which, od_l_which, .func (W.fnOf "_law_which" "_law_which" (defArgs s_l_which) (defBody s_l_which) (defScope s_l_which) .none kV_l_which dc_l_which pm_l_which an_l_which cd_l_which ct_l_which), sl_l_which⟩)
    (c_l_which : W.codeIn K cd_l_which "_law_which" = true)
    (k_l_which : W.keepIn K (.ref f_l_which) = true)
    (a_l_formed : W.nsIn K mainGlobals "_law_formed" = some (some (.ref f_l_formed)))
    (l_l_formed : K.lookup f_l_formed = some ⟨oc_l_formed, od_l_formed, .func (W.fnOf "_law_formed" "_law_formed" (defArgs s_l_formed) (defBody s_l_formed) (defScope s_l_formed) .none kV_l_formed dc_l_formed pm_l_formed an_l_formed cd_l_formed ct_l_formed), sl_l_formed⟩)
    (c_l_formed : W.codeIn K cd_l_formed "_law_formed" = true)
    (k_l_formed : W.keepIn K (.ref f_l_formed) = true)
    (a_l_ask : W.nsIn K mainGlobals "_law_ask" = some (some (.ref f_l_ask)))
    (l_l_ask : K.lookup f_l_ask = some ⟨oc_l_ask, od_l_ask, .func (W.fnOf "_law_ask" "_law_ask" (defArgs s_l_ask) (defBody s_l_ask) (defScope s_l_ask) .none kV_l_ask dc_l_ask pm_l_ask an_l_ask cd_l_ask ct_l_ask), sl_l_ask⟩)
    (c_l_ask : W.codeIn K cd_l_ask "_law_ask" = true)
    (k_l_ask : W.keepIn K (.ref f_l_ask) = true)
    (a_l_refused : W.nsIn K mainGlobals "_law_refused" = some (some (.ref f_l_refused)))
    (l_l_refused : K.lookup f_l_refused = some ⟨oc_l_refused, od_l_refused, .func (W.fnOf "_law_refused" "_law_refused" (defArgs s_l_refused) (defBody s_l_refused) (defScope s_l_refused) .none kV_l_refused dc_l_refused pm_l_refused an_l_refused cd_l_refused ct_l_refused), sl_l_refused⟩)
    (c_l_refused : W.codeIn K cd_l_refused "_law_refused" = true)
    (k_l_refused : W.keepIn K (.ref f_l_refused) = true)
    (a_l_forms : W.nsIn K mainGlobals "_law_forms" = some (some (.ref f_l_forms)))
    (l_l_forms : K.lookup f_l_forms = some ⟨oc_l_forms, od_l_forms, .func (W.fnOf "_law_forms" "_law_forms" (defArgs s_l_forms) (defBody s_l_forms) (defScope s_l_forms) .none kV_l_forms dc_l_forms pm_l_forms an_l_forms cd_l_forms ct_l_forms), sl_l_forms⟩)
    (c_l_forms : W.codeIn K cd_l_forms "_law_forms" = true)
    (k_l_forms : W.keepIn K (.ref f_l_forms) = true)
    (a_l_bad_row : W.nsIn K mainGlobals "_law_bad_row" = some (some (.ref f_l_bad_row)))
    (l_l_bad_row : K.lookup f_l_bad_row = some ⟨oc_l_bad_row, od_l_bad_row, .func (W.fnOf "_law_bad_row" "_law_bad_row" (defArgs s_l_bad_row) (defBody s_l_bad_row) (defScope s_l_bad_row) .none kV_l_bad_row dc_l_bad_row pm_l_bad_row an_l_bad_row cd_l_bad_row ct_l_bad_row), sl_l_bad_row⟩)
    (c_l_bad_row : W.codeIn K cd_l_bad_row "_law_bad_row" = true)
    (k_l_bad_row : W.keepIn K (.ref f_l_bad_row) = true)
    (a_l_bad_ones : W.nsIn K mainGlobals "_law_bad_ones" = some (some (.ref f_l_bad_ones)))
    (l_l_bad_ones : K.lookup f_l_bad_ones = some ⟨oc_l_bad_ones, od_l_bad_ones, .func (W.fnOf "_law_bad_ones" "_law_bad_ones" (defArgs s_l_bad_ones) (defBody s_l_bad_ones) (defScope s_l_bad_ones) .none kV_l_bad_ones dc_l_bad_ones pm_l_bad_ones an_l_bad_ones cd_l_bad_ones ct_l_bad_ones), sl_l_bad_ones⟩)
    (c_l_bad_ones : W.codeIn K cd_l_bad_ones "_law_bad_ones" = true)
    (k_l_bad_ones : W.keepIn K (.ref f_l_bad_ones) = true)
    (a_l_rows : W.nsIn K mainGlobals "_law_rows" = some (some (.ref f_l_rows)))
    (l_l_rows : K.lookup f_l_rows = some ⟨oc_l_rows, od_l_rows, .func (W.fnOf "_law_rows" "_law_rows" (defArgs s_l_rows) (defBody s_l_rows) (defScope s_l_rows) .none kV_l_rows dc_l_rows pm_l_rows an_l_rows cd_l_rows ct_l_rows), sl_l_rows⟩)
    (c_l_rows : W.codeIn K cd_l_rows "_law_rows" = true)
    (k_l_rows : W.keepIn K (.ref f_l_rows) = true)
    (a_l_places : W.nsIn K mainGlobals "_law_places" = some (some (.ref f_l_places)))
    (l_l_places : K.lookup f_l_places = some ⟨oc_l_places, od_l_places, .func (W.fnOf "_law_places" "_law_places" (defArgs s_l_places) (defBody s_l_places) (defScope s_l_places) .none kV_l_places dc_l_places pm_l_places an_l_places cd_l_places ct_l_places), sl_l_places⟩)
    (c_l_places : W.codeIn K cd_l_places "_law_places" = true)
    (k_l_places : W.keepIn K (.ref f_l_places) = true)
    (a_l_changes : W.nsIn K mainGlobals "_law_changes" = some (some (.ref f_l_changes)))
    (l_l_changes : K.lookup f_l_changes = some ⟨oc_l_changes, od_l_changes, .func (W.fnOf "_law_changes" "_law_changes" (defArgs s_l_changes) (defBody s_l_changes) (defScope s_l_changes) .none kV_l_changes dc_l_changes pm_l_changes an_l_changes cd_l_changes ct_l_changes), sl_l_changes⟩)
    (c_l_changes : W.codeIn K cd_l_changes "_law_changes" = true)
    (k_l_changes : W.keepIn K (.ref f_l_changes) = true)
    (a_l_swaps : W.nsIn K mainGlobals "_law_swaps" = some (some (.ref f_l_swaps)))
    (l_l_swaps : K.lookup f_l_swaps = some ⟨oc_l_swaps, od_l_swaps, .func (W.fnOf "_law_swaps" "_law_swaps" (defArgs s_l_swaps) (defBody s_l_swaps) (defScope s_l_swaps) .none kV_l_swaps dc_l_swaps pm_l_swaps an_l_swaps cd_l_swaps ct_l_swaps), sl_l_swaps⟩)
    (c_l_swaps : W.codeIn K cd_l_swaps "_law_swaps" = true)
    (k_l_swaps : W.keepIn K (.ref f_l_swaps) = true)
    (a_l_fit : W.nsIn K mainGlobals "_law_fit" = some (some (.ref f_l_fit)))
    (l_l_fit : K.lookup f_l_fit = some ⟨oc_l_fit, od_l_fit, .func (W.fnOf "_law_fit" "_law_fit" (defArgs s_l_fit) (defBody s_l_fit) (defScope s_l_fit) .none kV_l_fit dc_l_fit pm_l_fit an_l_fit cd_l_fit ct_l_fit), sl_l_fit⟩)
    (c_l_fit : W.codeIn K cd_l_fit "_law_fit" = true)
    (k_l_fit : W.keepIn K (.ref f_l_fit) = true)
    (a_l_turning : W.nsIn K mainGlobals "_law_turning" = some (some (.ref f_l_turning)))
    (l_l_turning : K.lookup f_l_turning = some ⟨oc_l_turning, od_l_turning, .func (W.fnOf "_law_turning" "_law_turning" (defArgs s_l_turning) (defBody s_l_turning) (defScope s_l_turning) .none kV_l_turning dc_l_turning pm_l_turning an_l_turning cd_l_turning ct_l_turning), sl_l_turning⟩)
    (c_l_turning : W.codeIn K cd_l_turning "_law_turning" = true)
    (k_l_turning : W.keepIn K (.ref f_l_turning) = true)
    (a_l_choosing : W.nsIn K mainGlobals "_law_choosing" = some (some (.ref f_l_choosing)))
    (l_l_choosing : K.lookup f_l_choosing = some ⟨oc_l_choosing, od_l_choosing, .func (W.fnOf "_law_choosing" "_law_choosing" (defArgs s_l_choosing) (defBody s_l_choosing) (defScope s_l_choosing) .none kV_l_choosing dc_l_choosing pm_l_choosing an_l_choosing cd_l_choosing ct_l_choosing), sl_l_choosing⟩)
    (c_l_choosing : W.codeIn K cd_l_choosing "_law_choosing" = true)
    (k_l_choosing : W.keepIn K (.ref f_l_choosing) = true)
    (a_law : W.nsIn K mainGlobals "law" = some (some (.ref f_law)))
    (l_law : K.lookup f_law = some ⟨oc_law, od_law, .func (W.fnOf "law" "law" (defArgs s_law) (defBody s_law) (defScope s_law) .none kV_law dc_law pm_law an_law cd_law ct_law), sl_law⟩)
    (c_law : W.codeIn K cd_law "law" = true)
    (k_law : W.keepIn K (.ref f_law) = true)
    (z_len : W.nsIn K mainGlobals "len" = some none)
    (z_range : W.nsIn K mainGlobals "range" = some none)
    (z_isinstance : W.nsIn K mainGlobals "isinstance" = some none)
    (z_int : W.nsIn K mainGlobals "int" = some none)
    (z_bool : W.nsIn K mainGlobals "bool" = some none)
    (z_str : W.nsIn K mainGlobals "str" = some none)
    (z_list : W.nsIn K mainGlobals "list" = some none)
    (z_tuple : W.nsIn K mainGlobals "tuple" = some none)
    (z_all : W.nsIn K mainGlobals "all" = some none)
    (z_sum : W.nsIn K mainGlobals "sum" = some none)
    (z_max : W.nsIn K mainGlobals "max" = some none)
    (z_min : W.nsIn K mainGlobals "min" = some none)
    (z_reversed : W.nsIn K mainGlobals "reversed" = some none)
    (z_enumerate : W.nsIn K mainGlobals "enumerate" = some none)
    (z_zip : W.nsIn K mainGlobals "zip" = some none)
    (aLong : W.nsIn K mainGlobals "LONGEST" = some (some (.int 200 tkL)))
    : ∃ fd : FuncData, (∀ (s : Shared) (v : Value), BindsTo s fd ⟨[v], []⟩ [("_law_script", v)]) ∧ ∀ base : Heap, K.In base → base.Ns mainGlobals mg → FnOk l.prog w K mg base CX0 19 fa fd ["_law_script"] (spLaw K) := by
  have e := hfa.symm.trans (W.mg_of X G a_law)
  cases e
  have T : TB mg := ⟨W.mg_none_of X G z_len, W.mg_none_of X G z_range, W.mg_none_of X G z_isinstance, W.mg_none_of X G z_int, W.mg_none_of X G z_bool, W.mg_none_of X G z_str, W.mg_none_of X G z_list, W.mg_none_of X G z_tuple, W.mg_none_of X G z_all, W.mg_none_of X G z_sum, W.mg_none_of X G z_max, W.mg_none_of X G z_min, W.mg_none_of X G z_reversed⟩
  have T2 : TB2 mg := ⟨W.mg_none_of X G z_enumerate, W.mg_none_of X G z_zip, tkL, W.mg_of X G aLong⟩
  have TC_T : CT K C_T := ⟨⟨pg_T, hd_T, po_T, sa_T⟩, na_T_size, na_T_signs, na_T_length⟩
  have TC_C : CC K C_C := ⟨⟨pg_C, hd_C, po_C, sa_C⟩, na_C_size, na_C_length, na_C_ones⟩
  have XE : XT K mg C_R C_NF C_NP C_NR C_NC := ⟨x_NF, W.mg_of X G aC_NF, x_NP, W.mg_of X G aC_NP, x_NR, W.mg_of X G aC_NR, x_NC, W.mg_of X G aC_NC⟩
  have ne_NF_NP : C_NF ≠ C_NP := fun e => by rw [← e] at kt_NF_NP; exact nomatch kt_NF_NF.symm.trans kt_NF_NP
  have ne_NF_NR : C_NF ≠ C_NR := fun e => by rw [← e] at kt_NF_NR; exact nomatch kt_NF_NF.symm.trans kt_NF_NR
  have ne_NF_NC : C_NF ≠ C_NC := fun e => by rw [← e] at kt_NF_NC; exact nomatch kt_NF_NF.symm.trans kt_NF_NC
  have ne_NP_NF : C_NP ≠ C_NF := fun e => by rw [← e] at kt_NP_NF; exact nomatch kt_NP_NP.symm.trans kt_NP_NF
  have ne_NP_NR : C_NP ≠ C_NR := fun e => by rw [← e] at kt_NP_NR; exact nomatch kt_NP_NP.symm.trans kt_NP_NR
  have ne_NP_NC : C_NP ≠ C_NC := fun e => by rw [← e] at kt_NP_NC; exact nomatch kt_NP_NP.symm.trans kt_NP_NC
  have ne_NR_NF : C_NR ≠ C_NF := fun e => by rw [← e] at kt_NR_NF; exact nomatch kt_NR_NR.symm.trans kt_NR_NF
  have ne_NR_NP : C_NR ≠ C_NP := fun e => by rw [← e] at kt_NR_NP; exact nomatch kt_NR_NR.symm.trans kt_NR_NP
  have ne_NR_NC : C_NR ≠ C_NC := fun e => by rw [← e] at kt_NR_NC; exact nomatch kt_NR_NR.symm.trans kt_NR_NC
  have ne_NC_NF : C_NC ≠ C_NF := fun e => by rw [← e] at kt_NC_NF; exact nomatch kt_NC_NC.symm.trans kt_NC_NF
  have ne_NC_NP : C_NC ≠ C_NP := fun e => by rw [← e] at kt_NC_NP; exact nomatch kt_NC_NC.symm.trans kt_NC_NP
  have ne_NC_NR : C_NC ≠ C_NR := fun e => by rw [← e] at kt_NC_NR; exact nomatch kt_NC_NC.symm.trans kt_NC_NR
  have XL : XW K mg C_R C_NF C_NP C_NR C_NC := by
    refine ⟨W.mg_of X G aC_R, fun C hC => ?_, ne_NF_NP, ne_NF_NR, ne_NF_NC, ne_NP_NR, ne_NP_NC, ne_NR_NC⟩
    rcases hC with e | e | e | e
    · rw [e]; exact ⟨⟨ga_NF, gn_NF, cl_NF, ob_NF, be_NF, ic_NF⟩, ex_NF, kv_NF, kt_NF_NF.trans (congrArg some (decide_eq_true rfl).symm), kt_NF_NP.trans (congrArg some (decide_eq_false ne_NF_NP).symm), kt_NF_NR.trans (congrArg some (decide_eq_false ne_NF_NR).symm), kt_NF_NC.trans (congrArg some (decide_eq_false ne_NF_NC).symm)⟩
    · rw [e]; exact ⟨⟨ga_NP, gn_NP, cl_NP, ob_NP, be_NP, ic_NP⟩, ex_NP, kv_NP, kt_NP_NF.trans (congrArg some (decide_eq_false ne_NP_NF).symm), kt_NP_NP.trans (congrArg some (decide_eq_true rfl).symm), kt_NP_NR.trans (congrArg some (decide_eq_false ne_NP_NR).symm), kt_NP_NC.trans (congrArg some (decide_eq_false ne_NP_NC).symm)⟩
    · rw [e]; exact ⟨⟨ga_NR, gn_NR, cl_NR, ob_NR, be_NR, ic_NR⟩, ex_NR, kv_NR, kt_NR_NF.trans (congrArg some (decide_eq_false ne_NR_NF).symm), kt_NR_NP.trans (congrArg some (decide_eq_false ne_NR_NP).symm), kt_NR_NR.trans (congrArg some (decide_eq_true rfl).symm), kt_NR_NC.trans (congrArg some (decide_eq_false ne_NR_NC).symm)⟩
    · rw [e]; exact ⟨⟨ga_NC, gn_NC, cl_NC, ob_NC, be_NC, ic_NC⟩, ex_NC, kv_NC, kt_NC_NF.trans (congrArg some (decide_eq_false ne_NC_NF).symm), kt_NC_NP.trans (congrArg some (decide_eq_false ne_NC_NP).symm), kt_NC_NR.trans (congrArg some (decide_eq_false ne_NC_NR).symm), kt_NC_NC.trans (congrArg some (decide_eq_true rfl).symm)⟩
  have nVE := W.mg_none_of X G z_VE
  have F_count_all := fun_mk (st := s_count_all) l_count_all c_count_all k_count_all
  have b_count_all := F_count_all.binds (ps := ["signs", "length"]) fun _ _ _ _ _ _ us hl => by obtain ⟨a0, r0, rfl, h0⟩ := len_s hl; obtain ⟨a1, r1, rfl, h1⟩ := len_s h0; obtain rfl := List.length_eq_zero_iff.mp h1; rfl
  have F_Listing___init := fun_mk (st := s_Listing___init) l_Listing___init c_Listing___init k_Listing___init
  have b_Listing___init := F_Listing___init.binds (ps := ["self", "size"]) fun _ _ _ _ _ _ us hl => by obtain ⟨a0, r0, rfl, h0⟩ := len_s hl; obtain ⟨a1, r1, rfl, h1⟩ := len_s h0; obtain rfl := List.length_eq_zero_iff.mp h1; rfl
  have F_Listing_many := fun_mk (st := s_Listing_many) l_Listing_many c_Listing_many k_Listing_many
  have b_Listing_many := F_Listing_many.binds (ps := ["self"]) fun _ _ _ _ _ _ us hl => by obtain ⟨a0, r0, rfl, h0⟩ := len_s hl; obtain rfl := List.length_eq_zero_iff.mp h0; rfl
  have F_Listing_check_place := fun_mk (st := s_Listing_check_place) l_Listing_check_place c_Listing_check_place k_Listing_check_place
  have b_Listing_check_place := F_Listing_check_place.binds (ps := ["self", "place"]) fun _ _ _ _ _ _ us hl => by obtain ⟨a0, r0, rfl, h0⟩ := len_s hl; obtain ⟨a1, r1, rfl, h1⟩ := len_s h0; obtain rfl := List.length_eq_zero_iff.mp h1; rfl
  have F_Turning___init := fun_mk (st := s_Turning___init) l_Turning___init c_Turning___init k_Turning___init
  have b_Turning___init := F_Turning___init.binds (ps := ["self", "signs", "length"]) fun _ _ _ _ _ _ us hl => by obtain ⟨a0, r0, rfl, h0⟩ := len_s hl; obtain ⟨a1, r1, rfl, h1⟩ := len_s h0; obtain ⟨a2, r2, rfl, h2⟩ := len_s h1; obtain rfl := List.length_eq_zero_iff.mp h2; rfl
  have F_Turning_row_at := fun_mk (st := s_Turning_row_at) l_Turning_row_at c_Turning_row_at k_Turning_row_at
  have b_Turning_row_at := F_Turning_row_at.binds (ps := ["self", "place"]) fun _ _ _ _ _ _ us hl => by obtain ⟨a0, r0, rfl, h0⟩ := len_s hl; obtain ⟨a1, r1, rfl, h1⟩ := len_s h0; obtain rfl := List.length_eq_zero_iff.mp h1; rfl
  have F_Turning_check_row := fun_mk (st := s_Turning_check_row) l_Turning_check_row c_Turning_check_row k_Turning_check_row
  have b_Turning_check_row := F_Turning_check_row.binds (ps := ["self", "row"]) fun _ _ _ _ _ _ us hl => by obtain ⟨a0, r0, rfl, h0⟩ := len_s hl; obtain ⟨a1, r1, rfl, h1⟩ := len_s h0; obtain rfl := List.length_eq_zero_iff.mp h1; rfl
  have F_Turning_figures_of := fun_mk (st := s_Turning_figures_of) l_Turning_figures_of c_Turning_figures_of k_Turning_figures_of
  have b_Turning_figures_of := F_Turning_figures_of.binds (ps := ["self", "row"]) fun _ _ _ _ _ _ us hl => by obtain ⟨a0, r0, rfl, h0⟩ := len_s hl; obtain ⟨a1, r1, rfl, h1⟩ := len_s h0; obtain rfl := List.length_eq_zero_iff.mp h1; rfl
  have F_Turning_place_of := fun_mk (st := s_Turning_place_of) l_Turning_place_of c_Turning_place_of k_Turning_place_of
  have b_Turning_place_of := F_Turning_place_of.binds (ps := ["self", "row"]) fun _ _ _ _ _ _ us hl => by obtain ⟨a0, r0, rfl, h0⟩ := len_s hl; obtain ⟨a1, r1, rfl, h1⟩ := len_s h0; obtain rfl := List.length_eq_zero_iff.mp h1; rfl
  have F_Turning_check_turn := fun_mk (st := s_Turning_check_turn) l_Turning_check_turn c_Turning_check_turn k_Turning_check_turn
  have b_Turning_check_turn := F_Turning_check_turn.binds (ps := ["self", "change"]) fun _ _ _ _ _ _ us hl => by obtain ⟨a0, r0, rfl, h0⟩ := len_s hl; obtain ⟨a1, r1, rfl, h1⟩ := len_s h0; obtain rfl := List.length_eq_zero_iff.mp h1; rfl
  have F_choose := fun_mk (st := s_choose) l_choose c_choose k_choose
  have b_choose := F_choose.binds (ps := ["length", "ones"]) fun _ _ _ _ _ _ us hl => by obtain ⟨a0, r0, rfl, h0⟩ := len_s hl; obtain ⟨a1, r1, rfl, h1⟩ := len_s h0; obtain rfl := List.length_eq_zero_iff.mp h1; rfl
  have F_Choosing___init := fun_mk (st := s_Choosing___init) l_Choosing___init c_Choosing___init k_Choosing___init
  have b_Choosing___init := F_Choosing___init.binds (ps := ["self", "length", "ones"]) fun _ _ _ _ _ _ us hl => by obtain ⟨a0, r0, rfl, h0⟩ := len_s hl; obtain ⟨a1, r1, rfl, h1⟩ := len_s h0; obtain ⟨a2, r2, rfl, h2⟩ := len_s h1; obtain rfl := List.length_eq_zero_iff.mp h2; rfl
  have F_Choosing_row_at := fun_mk (st := s_Choosing_row_at) l_Choosing_row_at c_Choosing_row_at k_Choosing_row_at
  have b_Choosing_row_at := F_Choosing_row_at.binds (ps := ["self", "place"]) fun _ _ _ _ _ _ us hl => by obtain ⟨a0, r0, rfl, h0⟩ := len_s hl; obtain ⟨a1, r1, rfl, h1⟩ := len_s h0; obtain rfl := List.length_eq_zero_iff.mp h1; rfl
  have F_Choosing_check_row := fun_mk (st := s_Choosing_check_row) l_Choosing_check_row c_Choosing_check_row k_Choosing_check_row
  have b_Choosing_check_row := F_Choosing_check_row.binds (ps := ["self", "row"]) fun _ _ _ _ _ _ us hl => by obtain ⟨a0, r0, rfl, h0⟩ := len_s hl; obtain ⟨a1, r1, rfl, h1⟩ := len_s h0; obtain rfl := List.length_eq_zero_iff.mp h1; rfl
  have F_Choosing_place_of := fun_mk (st := s_Choosing_place_of) l_Choosing_place_of c_Choosing_place_of k_Choosing_place_of
  have b_Choosing_place_of := F_Choosing_place_of.binds (ps := ["self", "row"]) fun _ _ _ _ _ _ us hl => by obtain ⟨a0, r0, rfl, h0⟩ := len_s hl; obtain ⟨a1, r1, rfl, h1⟩ := len_s h0; obtain rfl := List.length_eq_zero_iff.mp h1; rfl
  have F_Choosing_check_spots := fun_mk (st := s_Choosing_check_spots) l_Choosing_check_spots c_Choosing_check_spots k_Choosing_check_spots
  have b_Choosing_check_spots := F_Choosing_check_spots.binds (ps := ["self", "row", "out", "into"]) fun _ _ _ _ _ _ us hl => by obtain ⟨a0, r0, rfl, h0⟩ := len_s hl; obtain ⟨a1, r1, rfl, h1⟩ := len_s h0; obtain ⟨a2, r2, rfl, h2⟩ := len_s h1; obtain ⟨a3, r3, rfl, h3⟩ := len_s h2; obtain rfl := List.length_eq_zero_iff.mp h3; rfl
  have F_Choosing_swapped := fun_mk (st := s_Choosing_swapped) l_Choosing_swapped c_Choosing_swapped k_Choosing_swapped
  have b_Choosing_swapped := F_Choosing_swapped.binds (ps := ["self", "row", "change", "back"]) fun _ _ _ _ _ _ us hl => by obtain ⟨a0, r0, rfl, h0⟩ := len_s hl; obtain ⟨a1, r1, rfl, h1⟩ := len_s h0; obtain ⟨a2, r2, rfl, h2⟩ := len_s h1; obtain ⟨a3, r3, rfl, h3⟩ := len_s h2; obtain rfl := List.length_eq_zero_iff.mp h3; rfl
  have F_Choosing_done := fun_mk (st := s_Choosing_done) l_Choosing_done c_Choosing_done k_Choosing_done
  have b_Choosing_done := F_Choosing_done.binds (ps := ["self", "row", "change"]) fun _ _ _ _ _ _ us hl => by obtain ⟨a0, r0, rfl, h0⟩ := len_s hl; obtain ⟨a1, r1, rfl, h1⟩ := len_s h0; obtain ⟨a2, r2, rfl, h2⟩ := len_s h1; obtain rfl := List.length_eq_zero_iff.mp h2; rfl
  have F_Choosing_undone := fun_mk (st := s_Choosing_undone) l_Choosing_undone c_Choosing_undone k_Choosing_undone
  have b_Choosing_undone := F_Choosing_undone.binds (ps := ["self", "row", "change"]) fun _ _ _ _ _ _ us hl => by obtain ⟨a0, r0, rfl, h0⟩ := len_s hl; obtain ⟨a1, r1, rfl, h1⟩ := len_s h0; obtain ⟨a2, r2, rfl, h2⟩ := len_s h1; obtain rfl := List.length_eq_zero_iff.mp h2; rfl
  have F_Turning_change := fun_mk (st := s_Turning_change) l_Turning_change c_Turning_change k_Turning_change
  have b_Turning_change := F_Turning_change.binds (ps := ["self", "row"]) fun _ _ _ _ _ _ us hl => by obtain ⟨a0, r0, rfl, h0⟩ := len_s hl; obtain ⟨a1, r1, rfl, h1⟩ := len_s h0; obtain rfl := List.length_eq_zero_iff.mp h1; rfl
  have F_Listing_leap := funD_mk (st := s_Listing_leap) l_Listing_leap c_Listing_leap k_Listing_leap
  have b_Listing_leap : Binds K (W.fnOf "leap" "Listing.leap" (defArgs s_Listing_leap) (defBody s_Listing_leap) (defScope s_Listing_leap) (.ref dt_Listing_leap) kV_Listing_leap dc_Listing_leap pm_Listing_leap an_Listing_leap cd_Listing_leap ct_Listing_leap) ["self", "row", "steps"] [] := fun s us X hl => by match us, hl with | [_, _, _], _ => exact W.binds_K X rfl d_Listing_leap rfl rfl rfl
  have b1_Listing_leap : Binds K (W.fnOf "leap" "Listing.leap" (defArgs s_Listing_leap) (defBody s_Listing_leap) (defScope s_Listing_leap) (.ref dt_Listing_leap) kV_Listing_leap dc_Listing_leap pm_Listing_leap an_Listing_leap cd_Listing_leap ct_Listing_leap) ["self", "row", "steps"] [.int 1 tk_Listing_leap] := fun s us X hl => match us, (show us.length = 2 from Nat.add_right_cancel (m := 1) (List.length_append.symm.trans hl)) with | [_, _], _ => W.binds_K X rfl d_Listing_leap rfl rfl rfl
  have F_Listing_next_row := fun_mk (st := s_Listing_next_row) l_Listing_next_row c_Listing_next_row k_Listing_next_row
  have b_Listing_next_row := F_Listing_next_row.binds (ps := ["self", "row"]) fun _ _ _ _ _ _ us hl => by obtain ⟨a0, r0, rfl, h0⟩ := len_s hl; obtain ⟨a1, r1, rfl, h1⟩ := len_s h0; obtain rfl := List.length_eq_zero_iff.mp h1; rfl
  have F_Listing_row_before := fun_mk (st := s_Listing_row_before) l_Listing_row_before c_Listing_row_before k_Listing_row_before
  have b_Listing_row_before := F_Listing_row_before.binds (ps := ["self", "row"]) fun _ _ _ _ _ _ us hl => by obtain ⟨a0, r0, rfl, h0⟩ := len_s hl; obtain ⟨a1, r1, rfl, h1⟩ := len_s h0; obtain rfl := List.length_eq_zero_iff.mp h1; rfl
  have F_Listing_steps_to := fun_mk (st := s_Listing_steps_to) l_Listing_steps_to c_Listing_steps_to k_Listing_steps_to
  have b_Listing_steps_to := F_Listing_steps_to.binds (ps := ["self", "row", "other"]) fun _ _ _ _ _ _ us hl => by obtain ⟨a0, r0, rfl, h0⟩ := len_s hl; obtain ⟨a1, r1, rfl, h1⟩ := len_s h0; obtain ⟨a2, r2, rfl, h2⟩ := len_s h1; obtain rfl := List.length_eq_zero_iff.mp h2; rfl
  have F_Turning_turned := fun_mk (st := s_Turning_turned) l_Turning_turned c_Turning_turned k_Turning_turned
  have b_Turning_turned := F_Turning_turned.binds (ps := ["self", "row", "change", "by"]) fun _ _ _ _ _ _ us hl => by obtain ⟨a0, r0, rfl, h0⟩ := len_s hl; obtain ⟨a1, r1, rfl, h1⟩ := len_s h0; obtain ⟨a2, r2, rfl, h2⟩ := len_s h1; obtain ⟨a3, r3, rfl, h3⟩ := len_s h2; obtain rfl := List.length_eq_zero_iff.mp h3; rfl
  have F_Turning_done := fun_mk (st := s_Turning_done) l_Turning_done c_Turning_done k_Turning_done
  have b_Turning_done := F_Turning_done.binds (ps := ["self", "row", "change"]) fun _ _ _ _ _ _ us hl => by obtain ⟨a0, r0, rfl, h0⟩ := len_s hl; obtain ⟨a1, r1, rfl, h1⟩ := len_s h0; obtain ⟨a2, r2, rfl, h2⟩ := len_s h1; obtain rfl := List.length_eq_zero_iff.mp h2; rfl
  have F_Turning_undone := fun_mk (st := s_Turning_undone) l_Turning_undone c_Turning_undone k_Turning_undone
  have b_Turning_undone := F_Turning_undone.binds (ps := ["self", "row", "change"]) fun _ _ _ _ _ _ us hl => by obtain ⟨a0, r0, rfl, h0⟩ := len_s hl; obtain ⟨a1, r1, rfl, h1⟩ := len_s h0; obtain ⟨a2, r2, rfl, h2⟩ := len_s h1; obtain rfl := List.length_eq_zero_iff.mp h2; rfl
  have F_Choosing_change := fun_mk (st := s_Choosing_change) l_Choosing_change c_Choosing_change k_Choosing_change
  have b_Choosing_change := F_Choosing_change.binds (ps := ["self", "row"]) fun _ _ _ _ _ _ us hl => by obtain ⟨a0, r0, rfl, h0⟩ := len_s hl; obtain ⟨a1, r1, rfl, h1⟩ := len_s h0; obtain rfl := List.length_eq_zero_iff.mp h1; rfl
  have F_l_cell_at := fun_mk (st := s_l_cell_at) l_l_cell_at c_l_cell_at k_l_cell_at
  have b_l_cell_at := F_l_cell_at.binds (ps := ["_law_script", "_law_k"]) fun _ _ _ _ _ _ us hl => by obtain ⟨a0, r0, rfl, h0⟩ := len_s hl; obtain ⟨a1, r1, rfl, h1⟩ := len_s h0; obtain rfl := List.length_eq_zero_iff.mp h1; rfl
  have F_l_length := fun_mk (st := s_l_length) l_l_length c_l_length k_l_length
  have b_l_length := F_l_length.binds (ps := ["_law_cell"]) fun _ _ _ _ _ _ us hl => by obtain ⟨a0, r0, rfl, h0⟩ := len_s hl; obtain rfl := List.length_eq_zero_iff.mp h0; rfl
  have F_l_signs := fun_mk (st := s_l_signs) l_l_signs c_l_signs k_l_signs
  have b_l_signs := F_l_signs.binds (ps := ["_law_cell"]) fun _ _ _ _ _ _ us hl => by obtain ⟨a0, r0, rfl, h0⟩ := len_s hl; obtain rfl := List.length_eq_zero_iff.mp h0; rfl
  have F_l_which := fun_mk (st := s_l_which) l_l_which c_l_which k_l_which
  have b_l_which := F_l_which.binds (ps := ["_law_error"]) fun _ _ _ _ _ _ us hl => by obtain ⟨a0, r0, rfl, h0⟩ := len_s hl; obtain rfl := List.length_eq_zero_iff.mp h0; rfl
  have F_l_formed := fun_mk (st := s_l_formed) l_l_formed c_l_formed k_l_formed
  have b_l_formed := F_l_formed.binds (ps := ["_law_turning_here", "_law_one", "_law_two"]) fun _ _ _ _ _ _ us hl => by obtain ⟨a0, r0, rfl, h0⟩ := len_s hl; obtain ⟨a1, r1, rfl, h1⟩ := len_s h0; obtain ⟨a2, r2, rfl, h2⟩ := len_s h1; obtain rfl := List.length_eq_zero_iff.mp h2; rfl
  have F_l_ask := fun_mk (st := s_l_ask) l_l_ask c_l_ask k_l_ask
  have b_l_ask := F_l_ask.binds (ps := ["_law_lot", "_law_way", "_law_row", "_law_more"]) fun _ _ _ _ _ _ us hl => by obtain ⟨a0, r0, rfl, h0⟩ := len_s hl; obtain ⟨a1, r1, rfl, h1⟩ := len_s h0; obtain ⟨a2, r2, rfl, h2⟩ := len_s h1; obtain ⟨a3, r3, rfl, h3⟩ := len_s h2; obtain rfl := List.length_eq_zero_iff.mp h3; rfl
  have F_l_refused := fun_mk (st := s_l_refused) l_l_refused c_l_refused k_l_refused
  have b_l_refused := F_l_refused.binds (ps := ["_law_lot", "_law_way", "_law_row", "_law_more"]) fun _ _ _ _ _ _ us hl => by obtain ⟨a0, r0, rfl, h0⟩ := len_s hl; obtain ⟨a1, r1, rfl, h1⟩ := len_s h0; obtain ⟨a2, r2, rfl, h2⟩ := len_s h1; obtain ⟨a3, r3, rfl, h3⟩ := len_s h2; obtain rfl := List.length_eq_zero_iff.mp h3; rfl
  have F_l_forms := fun_mk (st := s_l_forms) l_l_forms c_l_forms k_l_forms
  have b_l_forms := F_l_forms.binds (ps := ["_law_length_here", "_law_signs_here", "_law_far"]) fun _ _ _ _ _ _ us hl => by obtain ⟨a0, r0, rfl, h0⟩ := len_s hl; obtain ⟨a1, r1, rfl, h1⟩ := len_s h0; obtain ⟨a2, r2, rfl, h2⟩ := len_s h1; obtain rfl := List.length_eq_zero_iff.mp h2; rfl
  have F_l_bad_row := fun_mk (st := s_l_bad_row) l_l_bad_row c_l_bad_row k_l_bad_row
  have b_l_bad_row := F_l_bad_row.binds (ps := ["_law_row", "_law_cell", "_law_signs_here", "_law_far"]) fun _ _ _ _ _ _ us hl => by obtain ⟨a0, r0, rfl, h0⟩ := len_s hl; obtain ⟨a1, r1, rfl, h1⟩ := len_s h0; obtain ⟨a2, r2, rfl, h2⟩ := len_s h1; obtain ⟨a3, r3, rfl, h3⟩ := len_s h2; obtain rfl := List.length_eq_zero_iff.mp h3; rfl
  have F_l_bad_ones := fun_mk (st := s_l_bad_ones) l_l_bad_ones c_l_bad_ones k_l_bad_ones
  have b_l_bad_ones := F_l_bad_ones.binds (ps := ["_law_row", "_law_cell", "_law_other", "_law_far"]) fun _ _ _ _ _ _ us hl => by obtain ⟨a0, r0, rfl, h0⟩ := len_s hl; obtain ⟨a1, r1, rfl, h1⟩ := len_s h0; obtain ⟨a2, r2, rfl, h2⟩ := len_s h1; obtain ⟨a3, r3, rfl, h3⟩ := len_s h2; obtain rfl := List.length_eq_zero_iff.mp h3; rfl
  have F_l_rows := fun_mk (st := s_l_rows) l_l_rows c_l_rows k_l_rows
  have b_l_rows := F_l_rows.binds (ps := ["_law_lot", "_law_row", "_law_bad", "_law_steps", "_law_change"]) fun _ _ _ _ _ _ us hl => by obtain ⟨a0, r0, rfl, h0⟩ := len_s hl; obtain ⟨a1, r1, rfl, h1⟩ := len_s h0; obtain ⟨a2, r2, rfl, h2⟩ := len_s h1; obtain ⟨a3, r3, rfl, h3⟩ := len_s h2; obtain ⟨a4, r4, rfl, h4⟩ := len_s h3; obtain rfl := List.length_eq_zero_iff.mp h4; rfl
  have F_l_places := fun_mk (st := s_l_places) l_l_places c_l_places k_l_places
  have b_l_places := F_l_places.binds (ps := ["_law_lot", "_law_many", "_law_far"]) fun _ _ _ _ _ _ us hl => by obtain ⟨a0, r0, rfl, h0⟩ := len_s hl; obtain ⟨a1, r1, rfl, h1⟩ := len_s h0; obtain ⟨a2, r2, rfl, h2⟩ := len_s h1; obtain rfl := List.length_eq_zero_iff.mp h2; rfl
  have F_l_changes := fun_mk (st := s_l_changes) l_l_changes c_l_changes k_l_changes
  have b_l_changes := F_l_changes.binds (ps := ["_law_lot", "_law_row", "_law_changes_here", "_law_fits"]) fun _ _ _ _ _ _ us hl => by obtain ⟨a0, r0, rfl, h0⟩ := len_s hl; obtain ⟨a1, r1, rfl, h1⟩ := len_s h0; obtain ⟨a2, r2, rfl, h2⟩ := len_s h1; obtain ⟨a3, r3, rfl, h3⟩ := len_s h2; obtain rfl := List.length_eq_zero_iff.mp h3; rfl
  have F_l_swaps := fun_mk (st := s_l_swaps) l_l_swaps c_l_swaps k_l_swaps
  have b_l_swaps := F_l_swaps.binds (ps := ["_law_script", "_law_length_here", "_law_far"]) fun _ _ _ _ _ _ us hl => by obtain ⟨a0, r0, rfl, h0⟩ := len_s hl; obtain ⟨a1, r1, rfl, h1⟩ := len_s h0; obtain ⟨a2, r2, rfl, h2⟩ := len_s h1; obtain rfl := List.length_eq_zero_iff.mp h2; rfl
  have F_l_fit := fun_mk (st := s_l_fit) l_l_fit c_l_fit k_l_fit
  have b_l_fit := F_l_fit.binds (ps := ["_law_row", "_law_out", "_law_into"]) fun _ _ _ _ _ _ us hl => by obtain ⟨a0, r0, rfl, h0⟩ := len_s hl; obtain ⟨a1, r1, rfl, h1⟩ := len_s h0; obtain ⟨a2, r2, rfl, h2⟩ := len_s h1; obtain rfl := List.length_eq_zero_iff.mp h2; rfl
  have F_l_turning := fun_mk (st := s_l_turning) l_l_turning c_l_turning k_l_turning
  have b_l_turning := F_l_turning.binds (ps := ["_law_script", "_law_length_here", "_law_signs_here", "_law_far"]) fun _ _ _ _ _ _ us hl => by obtain ⟨a0, r0, rfl, h0⟩ := len_s hl; obtain ⟨a1, r1, rfl, h1⟩ := len_s h0; obtain ⟨a2, r2, rfl, h2⟩ := len_s h1; obtain ⟨a3, r3, rfl, h3⟩ := len_s h2; obtain rfl := List.length_eq_zero_iff.mp h3; rfl
  have F_l_choosing := fun_mk (st := s_l_choosing) l_l_choosing c_l_choosing k_l_choosing
  have b_l_choosing := F_l_choosing.binds (ps := ["_law_script", "_law_length_here", "_law_far"]) fun _ _ _ _ _ _ us hl => by obtain ⟨a0, r0, rfl, h0⟩ := len_s hl; obtain ⟨a1, r1, rfl, h1⟩ := len_s h0; obtain ⟨a2, r2, rfl, h2⟩ := len_s h1; obtain rfl := List.length_eq_zero_iff.mp h2; rfl
  have F_law := fun_mk (st := s_law) l_law c_law k_law
  have b_law := F_law.binds (ps := ["_law_script"]) fun _ _ _ _ _ _ us hl => by obtain ⟨a0, r0, rfl, h0⟩ := len_s hl; obtain rfl := List.length_eq_zero_iff.mp h0; rfl
  refine ⟨W.fnOf "law" "law" (defArgs s_law) (defBody s_law) (defScope s_law) .none kV_law dc_law pm_law an_law cd_law ct_law, fun s v => .of_eq rfl, fun base _ _ => ?_⟩
  have D_count_all := fn_count_all (P := l.prog) (w := w) (base := base) (T := T)    (F := F_count_all) (g := W.mg_of X G a_count_all) (b := b_count_all)
  have B_Listing___init_T : Base l.prog w K mg base 1 "Listing" "__init__" (spBaseInit C_T) := ⟨C_L, _, mcL, _, _, W.mg_of X G aC_L, ⟨ga_L, rd_L, a_Listing___init, k_Listing___init⟩, ok_Listing___initT (C := C_T) T T2 TC_T F_Listing___init, b_Listing___init⟩
  have m_T_many : Mt l.prog w K mg base C_T 1 "many" [] (spManyT (TAt C_T)) := ⟨TC_T.cl, _, _, _, _, ⟨a_Listing_many_T, i_Listing_many, k_Listing_many⟩, ok_Listing_manyT (P := l.prog) (w := w) (base := base) (C := C_T) (T := T) (T2 := T2) (TC := TC_T)  (F := F_Listing_many), b_Listing_many, .nil⟩
  have m_T_check_place : Mt l.prog w K mg base C_T 1 "check_place" [] (spPlaceOkT C_T) := ⟨TC_T.cl, _, _, _, _, ⟨a_Listing_check_place_T, i_Listing_check_place, k_Listing_check_place⟩, ok_Listing_check_placeT (P := l.prog) (w := w) (base := base) (C := C_T) (T := T) (T2 := T2) (TC := TC_T)  (F := F_Listing_check_place), b_Listing_check_place, .nil⟩
  have mk_T_ok : Mkr l.prog w K mg base C_T 9 "Turning" (spInitT C_T (TAt C_T)) := ⟨_, _, _, ⟨mk_T, a_Turning___init_T, i_Turning___init, kc_T⟩, W.mg_of X G aC_T, (ok_Turning___init (P := l.prog) (w := w) (base := base) (C := C_T) (T := T) (T2 := T2) (TC := TC_T) (D_count_all := D_count_all) (B_Listing___init := B_Listing___init_T) (F := F_Turning___init)).mono (by decide), b_Turning___init⟩
  have m_T_row_at : Mt l.prog w K mg base C_T 2 "row_at" [] (spRowAtT (TAt C_T)) := ⟨TC_T.cl, _, _, _, _, ⟨a_Turning_row_at_T, i_Turning_row_at, k_Turning_row_at⟩, ok_Turning_row_at (P := l.prog) (w := w) (base := base) (C := C_T) (T := T) (T2 := T2) (TC := TC_T) (M_check_place := m_T_check_place) (F := F_Turning_row_at), b_Turning_row_at, .nil⟩
  have m_T_check_row : Mt l.prog w K mg base C_T 1 "check_row" [] (spRowOkT K C_T) := ⟨TC_T.cl, _, _, _, _, ⟨a_Turning_check_row_T, i_Turning_check_row, k_Turning_check_row⟩, ok_Turning_check_row (P := l.prog) (w := w) (base := base) (C := C_T) (T := T) (T2 := T2) (TC := TC_T)  (F := F_Turning_check_row), b_Turning_check_row, .nil⟩
  have m_T_figures_of : Mt l.prog w K mg base C_T 1 "figures_of" [] (spFigsT K C_T) := ⟨TC_T.cl, _, _, _, _, ⟨a_Turning_figures_of_T, i_Turning_figures_of, k_Turning_figures_of⟩, ok_Turning_figures_of (P := l.prog) (w := w) (base := base) (C := C_T) (T := T) (T2 := T2) (TC := TC_T)  (F := F_Turning_figures_of), b_Turning_figures_of, .nil⟩
  have m_T_place_of : Mt l.prog w K mg base C_T 2 "place_of" [] (spPlaceOfT K (TAt C_T)) := ⟨TC_T.cl, _, _, _, _, ⟨a_Turning_place_of_T, i_Turning_place_of, k_Turning_place_of⟩, ok_Turning_place_of (P := l.prog) (w := w) (base := base) (C := C_T) (T := T) (T2 := T2) (TC := TC_T) (M_check_row := m_T_check_row) (M_figures_of := m_T_figures_of) (F := F_Turning_place_of), b_Turning_place_of, .nil⟩
  have m_T_check_turn : Mt l.prog w K mg base C_T 1 "check_turn" [] (spTurnOkT K C_T) := ⟨TC_T.cl, _, _, _, _, ⟨a_Turning_check_turn_T, i_Turning_check_turn, k_Turning_check_turn⟩, ok_Turning_check_turn (P := l.prog) (w := w) (base := base) (C := C_T) (T := T) (T2 := T2) (TC := TC_T)  (F := F_Turning_check_turn), b_Turning_check_turn, .nil⟩
  have D_choose := fn_choose (P := l.prog) (w := w) (base := base) (T := T)    (F := F_choose) (g := W.mg_of X G a_choose) (b := b_choose)
  have B_Listing___init_C : Base l.prog w K mg base 1 "Listing" "__init__" (spBaseInit C_C) := ⟨C_L, _, mcL, _, _, W.mg_of X G aC_L, ⟨ga_L, rd_L, a_Listing___init, k_Listing___init⟩, ok_Listing___initC (C := C_C) T T2 TC_C F_Listing___init, b_Listing___init⟩
  have m_C_many : Mt l.prog w K mg base C_C 1 "many" [] (spManyC (CAt C_C)) := ⟨TC_C.cl, _, _, _, _, ⟨a_Listing_many_C, i_Listing_many, k_Listing_many⟩, ok_Listing_manyC (P := l.prog) (w := w) (base := base) (C := C_C) (T := T) (T2 := T2) (TC := TC_C)  (F := F_Listing_many), b_Listing_many, .nil⟩
  have m_C_check_place : Mt l.prog w K mg base C_C 1 "check_place" [] (spPlaceOkC C_C) := ⟨TC_C.cl, _, _, _, _, ⟨a_Listing_check_place_C, i_Listing_check_place, k_Listing_check_place⟩, ok_Listing_check_placeC (P := l.prog) (w := w) (base := base) (C := C_C) (T := T) (T2 := T2) (TC := TC_C)  (F := F_Listing_check_place), b_Listing_check_place, .nil⟩
  have mk_C_ok : Mkr l.prog w K mg base C_C 9 "Choosing" (spInitC C_C (CAt C_C)) := ⟨_, _, _, ⟨mk_C, a_Choosing___init_C, i_Choosing___init, kc_C⟩, W.mg_of X G aC_C, (ok_Choosing___init (P := l.prog) (w := w) (base := base) (C := C_C) (T := T) (T2 := T2) (TC := TC_C) (D_choose := D_choose) (B_Listing___init := B_Listing___init_C) (F := F_Choosing___init)).mono (by decide), b_Choosing___init⟩
  have m_C_row_at : Mt l.prog w K mg base C_C 2 "row_at" [] (spRowAtC (CAt C_C)) := ⟨TC_C.cl, _, _, _, _, ⟨a_Choosing_row_at_C, i_Choosing_row_at, k_Choosing_row_at⟩, ok_Choosing_row_at (P := l.prog) (w := w) (base := base) (C := C_C) (T := T) (T2 := T2) (TC := TC_C) (M_check_place := m_C_check_place) (F := F_Choosing_row_at), b_Choosing_row_at, .nil⟩
  have m_C_check_row : Mt l.prog w K mg base C_C 1 "check_row" [] (spRowOkC K C_C) := ⟨TC_C.cl, _, _, _, _, ⟨a_Choosing_check_row_C, i_Choosing_check_row, k_Choosing_check_row⟩, ok_Choosing_check_row (P := l.prog) (w := w) (base := base) (C := C_C) (T := T) (T2 := T2) (TC := TC_C)  (F := F_Choosing_check_row), b_Choosing_check_row, .nil⟩
  have m_C_place_of : Mt l.prog w K mg base C_C 2 "place_of" [] (spPlaceOfC K (CAt C_C)) := ⟨TC_C.cl, _, _, _, _, ⟨a_Choosing_place_of_C, i_Choosing_place_of, k_Choosing_place_of⟩, ok_Choosing_place_of (P := l.prog) (w := w) (base := base) (C := C_C) (T := T) (T2 := T2) (TC := TC_C) (M_check_row := m_C_check_row) (F := F_Choosing_place_of), b_Choosing_place_of, .nil⟩
  have m_C_check_spots : Mt l.prog w K mg base C_C 1 "check_spots" [] (spSpotsOkC K C_C) := ⟨TC_C.cl, _, _, _, _, ⟨a_Choosing_check_spots_C, i_Choosing_check_spots, k_Choosing_check_spots⟩, ok_Choosing_check_spots (P := l.prog) (w := w) (base := base) (C := C_C) (T := T) (T2 := T2) (TC := TC_C)  (F := F_Choosing_check_spots), b_Choosing_check_spots, .nil⟩
  have m_C_swapped : Mt l.prog w K mg base C_C 2 "swapped" [] (spSwappedC K C_C) := ⟨TC_C.cl, _, _, _, _, ⟨a_Choosing_swapped_C, i_Choosing_swapped, k_Choosing_swapped⟩, ok_Choosing_swapped (P := l.prog) (w := w) (base := base) (C := C_C) (T := T) (T2 := T2) (TC := TC_C) (M_check_row := m_C_check_row) (M_check_spots := m_C_check_spots) (F := F_Choosing_swapped), b_Choosing_swapped, .nil⟩
  have o_C_done := ok_Choosing_done (P := l.prog) (w := w) (base := base) (C := C_C) (T := T) (T2 := T2) (TC := TC_C) (M_swapped := m_C_swapped) (F := F_Choosing_done)
  have m_C_done : Mt l.prog w K mg base C_C 3 "done" [] (spDoneC K (CAt C_C) false) := ⟨TC_C.cl, _, _, _, _, ⟨a_Choosing_done_C, i_Choosing_done, k_Choosing_done⟩, ok_Choosing_done (P := l.prog) (w := w) (base := base) (C := C_C) (T := T) (T2 := T2) (TC := TC_C) (M_swapped := m_C_swapped) (F := F_Choosing_done), b_Choosing_done, .nil⟩
  have o_C_undone := ok_Choosing_undone (P := l.prog) (w := w) (base := base) (C := C_C) (T := T) (T2 := T2) (TC := TC_C) (M_swapped := m_C_swapped) (F := F_Choosing_undone)
  have m_C_undone : Mt l.prog w K mg base C_C 3 "undone" [] (spDoneC K (CAt C_C) true) := ⟨TC_C.cl, _, _, _, _, ⟨a_Choosing_undone_C, i_Choosing_undone, k_Choosing_undone⟩, ok_Choosing_undone (P := l.prog) (w := w) (base := base) (C := C_C) (T := T) (T2 := T2) (TC := TC_C) (M_swapped := m_C_swapped) (F := F_Choosing_undone), b_Choosing_undone, .nil⟩
  have oe_T_check_place_ET := okE_Listing_check_placeET (P := l.prog) (w := w) (base := base) (C := C_T) (T := T) (T2 := T2) (XE := XE) (TC := TC_T)  (F := F_Listing_check_place)
  have me_T_check_place_ET : MtE l.prog w K mg base C_T 1 "check_place" [] (sxPlaceT C_T C_NP) := ⟨TC_T.cl, _, _, _, _, ⟨a_Listing_check_place_T, i_Listing_check_place, k_Listing_check_place⟩, oe_T_check_place_ET, b_Listing_check_place, .nil⟩
  have oe_T___init___E := okE_Turning___initE (P := l.prog) (w := w) (base := base) (C := C_T) (T := T) (T2 := T2) (XE := XE) (TC := TC_T) (D_count_all := D_count_all) (B_Listing___init := B_Listing___init_T) (F := F_Turning___init)
  have oe_T_row_at_E := okE_Turning_row_atE (P := l.prog) (w := w) (base := base) (C := C_T) (T := T) (T2 := T2) (XE := XE) (TC := TC_T) (ME_check_place := me_T_check_place_ET) (F := F_Turning_row_at)
  have me_T_row_at_E : MtE l.prog w K mg base C_T 2 "row_at" [] (sxPlaceT C_T C_NP) := ⟨TC_T.cl, _, _, _, _, ⟨a_Turning_row_at_T, i_Turning_row_at, k_Turning_row_at⟩, oe_T_row_at_E, b_Turning_row_at, .nil⟩
  have oe_T_check_row_E := okE_Turning_check_rowE (P := l.prog) (w := w) (base := base) (C := C_T) (T := T) (T2 := T2) (XE := XE) (TC := TC_T)  (F := F_Turning_check_row)
  have me_T_check_row_E : MtE l.prog w K mg base C_T 1 "check_row" [] (sxRow K (BT C_T) C_NR) := ⟨TC_T.cl, _, _, _, _, ⟨a_Turning_check_row_T, i_Turning_check_row, k_Turning_check_row⟩, oe_T_check_row_E, b_Turning_check_row, .nil⟩
  have oe_T_place_of_E := okE_Turning_place_ofE (P := l.prog) (w := w) (base := base) (C := C_T) (T := T) (T2 := T2) (XE := XE) (TC := TC_T) (ME_check_row := me_T_check_row_E) (M_figures_of := m_T_figures_of) (F := F_Turning_place_of)
  have me_T_place_of_E : MtE l.prog w K mg base C_T 2 "place_of" [] (sxRow K (BT C_T) C_NR) := ⟨TC_T.cl, _, _, _, _, ⟨a_Turning_place_of_T, i_Turning_place_of, k_Turning_place_of⟩, oe_T_place_of_E, b_Turning_place_of, .nil⟩
  have oe_T_change_E := okE_Turning_changeE (P := l.prog) (w := w) (base := base) (C := C_T) (T := T) (T2 := T2) (XE := XE) (TC := TC_T) (ME_check_row := me_T_check_row_E) (M_figures_of := m_T_figures_of) (F := F_Turning_change)
  have me_T_change_E : MtE l.prog w K mg base C_T 2 "change" [] (sxRow K (BT C_T) C_NR) := ⟨TC_T.cl, _, _, _, _, ⟨a_Turning_change_T, i_Turning_change, k_Turning_change⟩, oe_T_change_E, b_Turning_change, .nil⟩
  have oe_T_leap_ET := okE_Listing_leapET (P := l.prog) (w := w) (base := base) (C := C_T) (T := T) (T2 := T2) (XE := XE) (TC := TC_T) (ME_place_of := me_T_place_of_E) (M_row_at := m_T_row_at) (F := F_Listing_leap)
  have me_T_leap_ET : MtE l.prog w K mg base C_T 3 "leap" [] (sxLeap K (BT C_T) C_NR) := ⟨TC_T.cl, _, _, _, _, ⟨a_Listing_leap_T, i_Listing_leap, k_Listing_leap⟩, oe_T_leap_ET, b_Listing_leap, .nil⟩
  have oe_T_next_row_ET := okE_Listing_next_rowET (P := l.prog) (w := w) (base := base) (C := C_T) (T := T) (T2 := T2) (XE := XE) (TC := TC_T) (ME_leap := me_T_leap_ET) (F := F_Listing_next_row)
  have me_T_next_row_ET : MtE l.prog w K mg base C_T 4 "next_row" [] (sxRow K (BT C_T) C_NR) := ⟨TC_T.cl, _, _, _, _, ⟨a_Listing_next_row_T, i_Listing_next_row, k_Listing_next_row⟩, oe_T_next_row_ET, b_Listing_next_row, .nil⟩
  have oe_T_row_before_ET := okE_Listing_row_beforeET (P := l.prog) (w := w) (base := base) (C := C_T) (T := T) (T2 := T2) (XE := XE) (TC := TC_T) (ME_leap := me_T_leap_ET) (F := F_Listing_row_before)
  have me_T_row_before_ET : MtE l.prog w K mg base C_T 4 "row_before" [] (sxRow K (BT C_T) C_NR) := ⟨TC_T.cl, _, _, _, _, ⟨a_Listing_row_before_T, i_Listing_row_before, k_Listing_row_before⟩, oe_T_row_before_ET, b_Listing_row_before, .nil⟩
  have oe_T_steps_to_ET := okE_Listing_steps_toET (P := l.prog) (w := w) (base := base) (C := C_T) (T := T) (T2 := T2) (XE := XE) (TC := TC_T) (ME_place_of := me_T_place_of_E) (M_place_of := m_T_place_of) (F := F_Listing_steps_to)
  have me_T_steps_to_ET : MtE l.prog w K mg base C_T 3 "steps_to" [] (sxSteps1 K (BT C_T) (GT C_T) C_NR) := ⟨TC_T.cl, _, _, _, _, ⟨a_Listing_steps_to_T, i_Listing_steps_to, k_Listing_steps_to⟩, oe_T_steps_to_ET, b_Listing_steps_to, .nil⟩
  have oe_T_steps_to_FT := okE_Listing_steps_toFT (P := l.prog) (w := w) (base := base) (C := C_T) (T := T) (T2 := T2) (XE := XE) (TC := TC_T) (ME_place_of := me_T_place_of_E) (F := F_Listing_steps_to)
  have me_T_steps_to_FT : MtE l.prog w K mg base C_T 3 "steps_to" [] (sxSteps2 K (BT C_T) C_NR) := ⟨TC_T.cl, _, _, _, _, ⟨a_Listing_steps_to_T, i_Listing_steps_to, k_Listing_steps_to⟩, oe_T_steps_to_FT, b_Listing_steps_to, .nil⟩
  have oe_T_check_turn_E := okE_Turning_check_turnE (P := l.prog) (w := w) (base := base) (C := C_T) (T := T) (T2 := T2) (XE := XE) (TC := TC_T)  (F := F_Turning_check_turn)
  have me_T_check_turn_E : MtE l.prog w K mg base C_T 1 "check_turn" [] (sxTurnOk K C_T C_NC) := ⟨TC_T.cl, _, _, _, _, ⟨a_Turning_check_turn_T, i_Turning_check_turn, k_Turning_check_turn⟩, oe_T_check_turn_E, b_Turning_check_turn, .nil⟩
  have oe_T_turned_E := okE_Turning_turnedE (P := l.prog) (w := w) (base := base) (C := C_T) (T := T) (T2 := T2) (XE := XE) (TC := TC_T) (ME_check_row := me_T_check_row_E) (M_check_turn := m_T_check_turn) (F := F_Turning_turned)
  have me_T_turned_E : MtE l.prog w K mg base C_T 2 "turned" [] (sxBy K (BT C_T) C_NR) := ⟨TC_T.cl, _, _, _, _, ⟨a_Turning_turned_T, i_Turning_turned, k_Turning_turned⟩, oe_T_turned_E, b_Turning_turned, .nil⟩
  have oe_T_turned_F := okE_Turning_turnedF (P := l.prog) (w := w) (base := base) (C := C_T) (T := T) (T2 := T2) (XE := XE) (TC := TC_T) (M_check_row := m_T_check_row) (ME_check_turn := me_T_check_turn_E) (F := F_Turning_turned)
  have me_T_turned_F : MtE l.prog w K mg base C_T 2 "turned" [] (sxTurned K C_T C_NC) := ⟨TC_T.cl, _, _, _, _, ⟨a_Turning_turned_T, i_Turning_turned, k_Turning_turned⟩, oe_T_turned_F, b_Turning_turned, .nil⟩
  have oe_T_done_E := okE_Turning_doneE (P := l.prog) (w := w) (base := base) (C := C_T) (T := T) (T2 := T2) (XE := XE) (TC := TC_T) (ME_turned := me_T_turned_E) (F := F_Turning_done)
  have me_T_done_E : MtE l.prog w K mg base C_T 3 "done" [] (sxDone K (BT C_T) C_NR) := ⟨TC_T.cl, _, _, _, _, ⟨a_Turning_done_T, i_Turning_done, k_Turning_done⟩, oe_T_done_E, b_Turning_done, .nil⟩
  have oe_T_done_F := okE_Turning_doneF (P := l.prog) (w := w) (base := base) (C := C_T) (T := T) (T2 := T2) (XE := XE) (TC := TC_T) (ME_turned := me_T_turned_F) (F := F_Turning_done)
  have me_T_done_F : MtE l.prog w K mg base C_T 3 "done" [] (sxDoneT K C_T C_NC) := ⟨TC_T.cl, _, _, _, _, ⟨a_Turning_done_T, i_Turning_done, k_Turning_done⟩, oe_T_done_F, b_Turning_done, .nil⟩
  have oe_T_undone_E := okE_Turning_undoneE (P := l.prog) (w := w) (base := base) (C := C_T) (T := T) (T2 := T2) (XE := XE) (TC := TC_T) (ME_turned := me_T_turned_E) (F := F_Turning_undone)
  have me_T_undone_E : MtE l.prog w K mg base C_T 3 "undone" [] (sxDone K (BT C_T) C_NR) := ⟨TC_T.cl, _, _, _, _, ⟨a_Turning_undone_T, i_Turning_undone, k_Turning_undone⟩, oe_T_undone_E, b_Turning_undone, .nil⟩
  have oe_T_undone_F := okE_Turning_undoneF (P := l.prog) (w := w) (base := base) (C := C_T) (T := T) (T2 := T2) (XE := XE) (TC := TC_T) (ME_turned := me_T_turned_F) (F := F_Turning_undone)
  have me_T_undone_F : MtE l.prog w K mg base C_T 3 "undone" [] (sxDoneT K C_T C_NC) := ⟨TC_T.cl, _, _, _, _, ⟨a_Turning_undone_T, i_Turning_undone, k_Turning_undone⟩, oe_T_undone_F, b_Turning_undone, .nil⟩
  have oe_C_check_place_EC := okE_Listing_check_placeEC (P := l.prog) (w := w) (base := base) (C := C_C) (T := T) (T2 := T2) (XE := XE) (TC := TC_C)  (F := F_Listing_check_place)
  have me_C_check_place_EC : MtE l.prog w K mg base C_C 1 "check_place" [] (sxPlaceC C_C C_NP) := ⟨TC_C.cl, _, _, _, _, ⟨a_Listing_check_place_C, i_Listing_check_place, k_Listing_check_place⟩, oe_C_check_place_EC, b_Listing_check_place, .nil⟩
  have oe_C___init___E := okE_Choosing___initE (P := l.prog) (w := w) (base := base) (C := C_C) (T := T) (T2 := T2) (XE := XE) (TC := TC_C) (D_choose := D_choose) (B_Listing___init := B_Listing___init_C) (F := F_Choosing___init)
  have oe_C_row_at_E := okE_Choosing_row_atE (P := l.prog) (w := w) (base := base) (C := C_C) (T := T) (T2 := T2) (XE := XE) (TC := TC_C) (ME_check_place := me_C_check_place_EC) (F := F_Choosing_row_at)
  have me_C_row_at_E : MtE l.prog w K mg base C_C 2 "row_at" [] (sxPlaceC C_C C_NP) := ⟨TC_C.cl, _, _, _, _, ⟨a_Choosing_row_at_C, i_Choosing_row_at, k_Choosing_row_at⟩, oe_C_row_at_E, b_Choosing_row_at, .nil⟩
  have oe_C_check_row_E := okE_Choosing_check_rowE (P := l.prog) (w := w) (base := base) (C := C_C) (T := T) (T2 := T2) (XE := XE) (TC := TC_C)  (F := F_Choosing_check_row)
  have me_C_check_row_E : MtE l.prog w K mg base C_C 1 "check_row" [] (sxRow K (BC C_C) C_NR) := ⟨TC_C.cl, _, _, _, _, ⟨a_Choosing_check_row_C, i_Choosing_check_row, k_Choosing_check_row⟩, oe_C_check_row_E, b_Choosing_check_row, .nil⟩
  have oe_C_place_of_E := okE_Choosing_place_ofE (P := l.prog) (w := w) (base := base) (C := C_C) (T := T) (T2 := T2) (XE := XE) (TC := TC_C) (ME_check_row := me_C_check_row_E) (F := F_Choosing_place_of)
  have me_C_place_of_E : MtE l.prog w K mg base C_C 2 "place_of" [] (sxRow K (BC C_C) C_NR) := ⟨TC_C.cl, _, _, _, _, ⟨a_Choosing_place_of_C, i_Choosing_place_of, k_Choosing_place_of⟩, oe_C_place_of_E, b_Choosing_place_of, .nil⟩
  have oe_C_leap_EC := okE_Listing_leapEC (P := l.prog) (w := w) (base := base) (C := C_C) (T := T) (T2 := T2) (XE := XE) (TC := TC_C) (ME_place_of := me_C_place_of_E) (M_row_at := m_C_row_at) (F := F_Listing_leap)
  have me_C_leap_EC : MtE l.prog w K mg base C_C 3 "leap" [] (sxLeap K (BC C_C) C_NR) := ⟨TC_C.cl, _, _, _, _, ⟨a_Listing_leap_C, i_Listing_leap, k_Listing_leap⟩, oe_C_leap_EC, b_Listing_leap, .nil⟩
  have oe_C_next_row_EC := okE_Listing_next_rowEC (P := l.prog) (w := w) (base := base) (C := C_C) (T := T) (T2 := T2) (XE := XE) (TC := TC_C) (ME_leap := me_C_leap_EC) (F := F_Listing_next_row)
  have me_C_next_row_EC : MtE l.prog w K mg base C_C 4 "next_row" [] (sxRow K (BC C_C) C_NR) := ⟨TC_C.cl, _, _, _, _, ⟨a_Listing_next_row_C, i_Listing_next_row, k_Listing_next_row⟩, oe_C_next_row_EC, b_Listing_next_row, .nil⟩
  have oe_C_row_before_EC := okE_Listing_row_beforeEC (P := l.prog) (w := w) (base := base) (C := C_C) (T := T) (T2 := T2) (XE := XE) (TC := TC_C) (ME_leap := me_C_leap_EC) (F := F_Listing_row_before)
  have me_C_row_before_EC : MtE l.prog w K mg base C_C 4 "row_before" [] (sxRow K (BC C_C) C_NR) := ⟨TC_C.cl, _, _, _, _, ⟨a_Listing_row_before_C, i_Listing_row_before, k_Listing_row_before⟩, oe_C_row_before_EC, b_Listing_row_before, .nil⟩
  have oe_C_steps_to_EC := okE_Listing_steps_toEC (P := l.prog) (w := w) (base := base) (C := C_C) (T := T) (T2 := T2) (XE := XE) (TC := TC_C) (ME_place_of := me_C_place_of_E) (M_place_of := m_C_place_of) (F := F_Listing_steps_to)
  have me_C_steps_to_EC : MtE l.prog w K mg base C_C 3 "steps_to" [] (sxSteps1 K (BC C_C) (GC C_C) C_NR) := ⟨TC_C.cl, _, _, _, _, ⟨a_Listing_steps_to_C, i_Listing_steps_to, k_Listing_steps_to⟩, oe_C_steps_to_EC, b_Listing_steps_to, .nil⟩
  have oe_C_steps_to_FC := okE_Listing_steps_toFC (P := l.prog) (w := w) (base := base) (C := C_C) (T := T) (T2 := T2) (XE := XE) (TC := TC_C) (ME_place_of := me_C_place_of_E) (F := F_Listing_steps_to)
  have me_C_steps_to_FC : MtE l.prog w K mg base C_C 3 "steps_to" [] (sxSteps2 K (BC C_C) C_NR) := ⟨TC_C.cl, _, _, _, _, ⟨a_Listing_steps_to_C, i_Listing_steps_to, k_Listing_steps_to⟩, oe_C_steps_to_FC, b_Listing_steps_to, .nil⟩
  have oe_C_change_E := okE_Choosing_changeE (P := l.prog) (w := w) (base := base) (C := C_C) (T := T) (T2 := T2) (XE := XE) (TC := TC_C) (ME_next_row := me_C_next_row_EC) (F := F_Choosing_change)
  have me_C_change_E : MtE l.prog w K mg base C_C 5 "change" [] (sxRow K (BC C_C) C_NR) := ⟨TC_C.cl, _, _, _, _, ⟨a_Choosing_change_C, i_Choosing_change, k_Choosing_change⟩, oe_C_change_E, b_Choosing_change, .nil⟩
  have oe_C_check_spots_E := okE_Choosing_check_spotsE (P := l.prog) (w := w) (base := base) (C := C_C) (T := T) (T2 := T2) (XE := XE) (TC := TC_C)  (F := F_Choosing_check_spots)
  have me_C_check_spots_E : MtE l.prog w K mg base C_C 1 "check_spots" [] (sxSpots K C_C C_NC) := ⟨TC_C.cl, _, _, _, _, ⟨a_Choosing_check_spots_C, i_Choosing_check_spots, k_Choosing_check_spots⟩, oe_C_check_spots_E, b_Choosing_check_spots, .nil⟩
  have oe_C_swapped_E := okE_Choosing_swappedE (P := l.prog) (w := w) (base := base) (C := C_C) (T := T) (T2 := T2) (XE := XE) (TC := TC_C) (ME_check_row := me_C_check_row_E) (M_check_spots := m_C_check_spots) (F := F_Choosing_swapped)
  have me_C_swapped_E : MtE l.prog w K mg base C_C 2 "swapped" [] (sxBy K (BC C_C) C_NR) := ⟨TC_C.cl, _, _, _, _, ⟨a_Choosing_swapped_C, i_Choosing_swapped, k_Choosing_swapped⟩, oe_C_swapped_E, b_Choosing_swapped, .nil⟩
  have oe_C_swapped_F := okE_Choosing_swappedF (P := l.prog) (w := w) (base := base) (C := C_C) (T := T) (T2 := T2) (XE := XE) (TC := TC_C) (M_check_row := m_C_check_row) (ME_check_spots := me_C_check_spots_E) (F := F_Choosing_swapped)
  have me_C_swapped_F : MtE l.prog w K mg base C_C 2 "swapped" [] (sxSwapped K C_C C_NC false) := ⟨TC_C.cl, _, _, _, _, ⟨a_Choosing_swapped_C, i_Choosing_swapped, k_Choosing_swapped⟩, oe_C_swapped_F, b_Choosing_swapped, .nil⟩
  have oe_C_swapped_G := okE_Choosing_swappedG (P := l.prog) (w := w) (base := base) (C := C_C) (T := T) (T2 := T2) (XE := XE) (TC := TC_C) (M_check_row := m_C_check_row) (ME_check_spots := me_C_check_spots_E) (F := F_Choosing_swapped)
  have me_C_swapped_G : MtE l.prog w K mg base C_C 2 "swapped" [] (sxSwapped K C_C C_NC true) := ⟨TC_C.cl, _, _, _, _, ⟨a_Choosing_swapped_C, i_Choosing_swapped, k_Choosing_swapped⟩, oe_C_swapped_G, b_Choosing_swapped, .nil⟩
  have oe_C_done_E := okE_Choosing_doneE (P := l.prog) (w := w) (base := base) (C := C_C) (T := T) (T2 := T2) (XE := XE) (TC := TC_C) (ME_swapped := me_C_swapped_E) (F := F_Choosing_done)
  have me_C_done_E : MtE l.prog w K mg base C_C 3 "done" [] (sxDone K (BC C_C) C_NR) := ⟨TC_C.cl, _, _, _, _, ⟨a_Choosing_done_C, i_Choosing_done, k_Choosing_done⟩, oe_C_done_E, b_Choosing_done, .nil⟩
  have oe_C_done_F := okE_Choosing_doneF (P := l.prog) (w := w) (base := base) (C := C_C) (T := T) (T2 := T2) (XE := XE) (TC := TC_C) (ME_swapped := me_C_swapped_F) (F := F_Choosing_done)
  have me_C_done_F : MtE l.prog w K mg base C_C 3 "done" [] (sxDoneC K C_C C_NC false) := ⟨TC_C.cl, _, _, _, _, ⟨a_Choosing_done_C, i_Choosing_done, k_Choosing_done⟩, oe_C_done_F, b_Choosing_done, .nil⟩
  have oe_C_undone_E := okE_Choosing_undoneE (P := l.prog) (w := w) (base := base) (C := C_C) (T := T) (T2 := T2) (XE := XE) (TC := TC_C) (ME_swapped := me_C_swapped_E) (F := F_Choosing_undone)
  have me_C_undone_E : MtE l.prog w K mg base C_C 3 "undone" [] (sxDone K (BC C_C) C_NR) := ⟨TC_C.cl, _, _, _, _, ⟨a_Choosing_undone_C, i_Choosing_undone, k_Choosing_undone⟩, oe_C_undone_E, b_Choosing_undone, .nil⟩
  have oe_C_undone_F := okE_Choosing_undoneF (P := l.prog) (w := w) (base := base) (C := C_C) (T := T) (T2 := T2) (XE := XE) (TC := TC_C) (ME_swapped := me_C_swapped_G) (F := F_Choosing_undone)
  have me_C_undone_F : MtE l.prog w K mg base C_C 3 "undone" [] (sxDoneC K C_C C_NC true) := ⟨TC_C.cl, _, _, _, _, ⟨a_Choosing_undone_C, i_Choosing_undone, k_Choosing_undone⟩, oe_C_undone_F, b_Choosing_undone, .nil⟩
  have D_l_cell_at := fn_l_cell_at (P := l.prog) (w := w) (base := base) (T := T)    (F := F_l_cell_at) (g := W.mg_of X G a_l_cell_at) (b := b_l_cell_at)
  have D_l_length := fn_l_length (P := l.prog) (w := w) (base := base) (T := T)    (F := F_l_length) (g := W.mg_of X G a_l_length) (b := b_l_length)
  have D_l_signs := fn_l_signs (P := l.prog) (w := w) (base := base) (T := T)    (F := F_l_signs) (g := W.mg_of X G a_l_signs) (b := b_l_signs)
  have DH_which := fn_l_which (P := l.prog) (w := w) (base := base) T XE XL nVE (F := F_l_which) (g := W.mg_of X G a_l_which) (b := b_l_which)
  have mkE_T : MkrE l.prog w K mg base C_T 12 "Turning" (sxInitT C_NF) := ⟨_, _, _, ⟨mk_T, a_Turning___init_T, i_Turning___init, kc_T⟩, W.mg_of X G aC_T, oe_T___init___E.mono (by decide), b_Turning___init⟩
  have mkE_C : MkrE l.prog w K mg base C_C 12 "Choosing" (sxInitC C_NF) := ⟨_, _, _, ⟨mk_C, a_Choosing___init_C, i_Choosing___init, kc_C⟩, W.mg_of X G aC_C, oe_C___init___E.mono (by decide), b_Choosing___init⟩
  have D_l_formed := fn_l_formed (P := l.prog) (w := w) (base := base) T XE XL DH_which mkE_T mkE_C (F := F_l_formed) (g := W.mg_of X G a_l_formed) (b := b_l_formed)
  have DE_askT := fnE_l_askT (P := l.prog) (w := w) (base := base) (R := C_R) (NF := C_NF) (NP := C_NP) (NR := C_NR) (NC := C_NC) (C := C_T) (T := T) (TC := TC_T) (ME_row_at := me_T_row_at_E.mono (by decide)) (ME_place_of := me_T_place_of_E.mono (by decide)) (ME_change := me_T_change_E.mono (by decide)) (ME_next_row := me_T_next_row_ET.mono (by decide)) (ME_row_before := me_T_row_before_ET.mono (by decide)) (ME_leap := me_T_leap_ET.mono (by decide)) (ME_steps1 := me_T_steps_to_ET.mono (by decide)) (ME_steps2 := me_T_steps_to_FT.mono (by decide)) (ME_done := ⟨TC_T.cl, _, _, _, _, ⟨a_Turning_done_T, i_Turning_done, k_Turning_done⟩, (oe_T_done_E.orE oe_T_done_F).mono (by decide), b_Turning_done, .nil⟩) (ME_undone := ⟨TC_T.cl, _, _, _, _, ⟨a_Turning_undone_T, i_Turning_undone, k_Turning_undone⟩, (oe_T_undone_E.orE oe_T_undone_F).mono (by decide), b_Turning_undone, .nil⟩) (F := F_l_ask) (g := W.mg_of X G a_l_ask) (b := b_l_ask)
  have DE_askC := fnE_l_askC (P := l.prog) (w := w) (base := base) (R := C_R) (NF := C_NF) (NP := C_NP) (NR := C_NR) (NC := C_NC) (C := C_C) (T := T) (TC := TC_C) (ME_row_at := me_C_row_at_E.mono (by decide)) (ME_place_of := me_C_place_of_E.mono (by decide)) (ME_change := me_C_change_E.mono (by decide)) (ME_next_row := me_C_next_row_EC.mono (by decide)) (ME_row_before := me_C_row_before_EC.mono (by decide)) (ME_leap := me_C_leap_EC.mono (by decide)) (ME_steps1 := me_C_steps_to_EC.mono (by decide)) (ME_steps2 := me_C_steps_to_FC.mono (by decide)) (ME_done := ⟨TC_C.cl, _, _, _, _, ⟨a_Choosing_done_C, i_Choosing_done, k_Choosing_done⟩, (FnOk.both o_C_done (oe_C_done_E.orE oe_C_done_F)).mono (by decide), b_Choosing_done, .nil⟩) (ME_undone := ⟨TC_C.cl, _, _, _, _, ⟨a_Choosing_undone_C, i_Choosing_undone, k_Choosing_undone⟩, (FnOk.both o_C_undone (oe_C_undone_E.orE oe_C_undone_F)).mono (by decide), b_Choosing_undone, .nil⟩) (F := F_l_ask) (g := W.mg_of X G a_l_ask) (b := b_l_ask)
  have D_l_refusedT := fn_l_refused (P := l.prog) (w := w) (base := base) (Ak := AkT K C_NP C_NR C_NC C_T) T XE XL DH_which DE_askT (F := F_l_refused) (g := W.mg_of X G a_l_refused) (b := b_l_refused)
  have D_l_refusedC := fn_l_refused (P := l.prog) (w := w) (base := base) (Ak := AkC K C_NP C_NR C_NC C_C) T XE XL DH_which DE_askC (F := F_l_refused) (g := W.mg_of X G a_l_refused) (b := b_l_refused)
  have D_l_forms := fn_l_forms (P := l.prog) (w := w) (base := base) (R := C_R) (NF := C_NF) (NP := C_NP) (NR := C_NR) (NC := C_NC) (T := T) (D_l_formed := D_l_formed) (F := F_l_forms) (g := W.mg_of X G a_l_forms) (b := b_l_forms)
  have D_l_bad_row := fn_l_bad_row (P := l.prog) (w := w) (base := base) (T := T)    (F := F_l_bad_row) (g := W.mg_of X G a_l_bad_row) (b := b_l_bad_row)
  have D_l_bad_ones := fn_l_bad_ones (P := l.prog) (w := w) (base := base) (T := T)    (F := F_l_bad_ones) (g := W.mg_of X G a_l_bad_ones) (b := b_l_bad_ones)
  have D_l_rowsT := fn_l_rows (P := l.prog) (w := w) (base := base) (Ak := AkT K C_NP C_NR C_NC C_T) (R := C_R) (NF := C_NF) (NP := C_NP) (NR := C_NR) (NC := C_NC) (T := T) (D_l_refused := D_l_refusedT) (F := F_l_rows) (g := W.mg_of X G a_l_rows) (b := b_l_rows)
  have D_l_rowsC := fn_l_rows (P := l.prog) (w := w) (base := base) (Ak := AkC K C_NP C_NR C_NC C_C) (R := C_R) (NF := C_NF) (NP := C_NP) (NR := C_NR) (NC := C_NC) (T := T) (D_l_refused := D_l_refusedC) (F := F_l_rows) (g := W.mg_of X G a_l_rows) (b := b_l_rows)
  have D_l_placesT := fn_l_places (P := l.prog) (w := w) (base := base) (Ak := AkT K C_NP C_NR C_NC C_T) (R := C_R) (NF := C_NF) (NP := C_NP) (NR := C_NR) (NC := C_NC) (T := T) (D_l_refused := D_l_refusedT) (F := F_l_places) (g := W.mg_of X G a_l_places) (b := b_l_places)
  have D_l_placesC := fn_l_places (P := l.prog) (w := w) (base := base) (Ak := AkC K C_NP C_NR C_NC C_C) (R := C_R) (NF := C_NF) (NP := C_NP) (NR := C_NR) (NC := C_NC) (T := T) (D_l_refused := D_l_refusedC) (F := F_l_places) (g := W.mg_of X G a_l_places) (b := b_l_places)
  have D_l_changesT := fn_l_changes (P := l.prog) (w := w) (base := base) (Ak := AkT K C_NP C_NR C_NC C_T) (R := C_R) (NF := C_NF) (NP := C_NP) (NR := C_NR) (NC := C_NC) (T := T) (D_l_refused := D_l_refusedT) (F := F_l_changes) (g := W.mg_of X G a_l_changes) (b := b_l_changes)
  have D_l_changesC := fn_l_changes (P := l.prog) (w := w) (base := base) (Ak := AkC K C_NP C_NR C_NC C_C) (R := C_R) (NF := C_NF) (NP := C_NP) (NR := C_NR) (NC := C_NC) (T := T) (D_l_refused := D_l_refusedC) (F := F_l_changes) (g := W.mg_of X G a_l_changes) (b := b_l_changes)
  have D_l_swaps := fn_l_swaps (P := l.prog) (w := w) (base := base) (T := T)   (D_l_cell_at := D_l_cell_at) (F := F_l_swaps) (g := W.mg_of X G a_l_swaps) (b := b_l_swaps)
  have D_l_fit := fn_l_fit (P := l.prog) (w := w) (base := base) (T := T)    (F := F_l_fit) (g := W.mg_of X G a_l_fit) (b := b_l_fit)
  have D_l_turning := fn_l_turning (P := l.prog) (w := w) (base := base) (C := C_T) (R := C_R) (NF := C_NF) (NP := C_NP) (NR := C_NR) (NC := C_NC) (T := T) (KT := kindT (by decide +kernel)) (MK_T := mk_T_ok) (M_place_of := m_T_place_of.mono (by decide)) (M_many := m_T_many.mono (by decide)) (D_l_cell_at := D_l_cell_at) (D_l_bad_row := D_l_bad_row) (D_l_swaps := D_l_swaps) (D_l_rowsT := D_l_rowsT) (D_l_placesT := D_l_placesT) (D_l_changesT := D_l_changesT) (F := F_l_turning) (g := W.mg_of X G a_l_turning) (b := b_l_turning)
  have D_l_choosing := fn_l_choosing (P := l.prog) (w := w) (base := base) (C := C_C) (R := C_R) (NF := C_NF) (NP := C_NP) (NR := C_NR) (NC := C_NC) (T := T) (KT := kindC (by decide +kernel)) (MK_C := mk_C_ok) (M_place_of := m_C_place_of.mono (by decide)) (M_many := m_C_many.mono (by decide)) (D_l_cell_at := D_l_cell_at) (D_l_bad_ones := D_l_bad_ones) (D_l_swaps := D_l_swaps) (D_l_fit := D_l_fit) (D_l_rowsC := D_l_rowsC) (D_l_placesC := D_l_placesC) (D_l_changesC := D_l_changesC) (F := F_l_choosing) (g := W.mg_of X G a_l_choosing) (b := b_l_choosing)
  exact ok_law (P := l.prog) (w := w) (base := base) (T := T)  (D_l_cell_at := D_l_cell_at) (D_l_length := D_l_length) (D_l_signs := D_l_signs) (D_l_forms := D_l_forms) (D_l_turning := D_l_turning) (D_l_choosing := D_l_choosing) (F := F_law)
theorem walk {l : PySem.W.OpenLaw} {q : Program} {loose : List Str} {XP : (Str → Option Value) → Heap → Prop} {YP : World → Heap → Prop} {d : DefRec} {K : Params → PySem.W.Frag} (hn : l.most = some 63) (hdf : d.params.defaults = [])
    (hY : ∀ (w : World) (h : Heap), YP w h → (K w.params).In h)
    (F : ∀ (w : World) (mg : Str → Option Value) (fa : Addr) (h : Heap), (K w.params).In h → h.Ns mainGlobals mg → mg d.name = some (.ref fa) →
      ∃ fd : FuncData, (∀ (s : Shared) (u : Value), BindsTo s fd ⟨[u], []⟩ [("_law_script", u)]) ∧ ∀ base : Heap, (K w.params).In base → base.Ns mainGlobals mg → FnOk l.prog w (K w.params) mg base CX0 19 fa fd ["_law_script"] (spLaw (K w.params))) :
    PySem.W.WalkO q loose XP YP l.row.toRowW d [] (fun f vs => PySem.call f vs) :=
  L2.walk_of (n := 63) (k := 19) (x := "_law_script") (CX := fun _ => CX0) (sp := fun w => spLaw (K w.params)) hn (by decide) hdf ⟨rfl, by decide, by decide⟩ hY F (fun _ _ a ns hl _ hS => ⟨a, ns, rfl, hS, hl, fun _ => rfl⟩) fun _ _ _ _ _ z => z
abbrev sq_count_all (p : Program) : Stmt := Hd.tp p 14
abbrev sq_Listing___init (p : Program) : Stmt := inClass (Hd.tp p 10) 0
abbrev sq_Listing_many (p : Program) : Stmt := inClass (Hd.tp p 10) 1
abbrev sq_Listing_check_place (p : Program) : Stmt := inClass (Hd.tp p 10) 6
abbrev sq_Turning___init (p : Program) : Stmt := inClass (Hd.tp p 15) 0
abbrev sq_Turning_row_at (p : Program) : Stmt := inClass (Hd.tp p 15) 1
abbrev sq_Turning_check_row (p : Program) : Stmt := inClass (Hd.tp p 15) 8
abbrev sq_Turning_figures_of (p : Program) : Stmt := inClass (Hd.tp p 15) 7
abbrev sq_Turning_place_of (p : Program) : Stmt := inClass (Hd.tp p 15) 2
abbrev sq_Turning_check_turn (p : Program) : Stmt := inClass (Hd.tp p 15) 9
abbrev sq_choose (p : Program) : Stmt := Hd.tp p 1
abbrev sq_Choosing___init (p : Program) : Stmt := inClass (Hd.tp p 12) 0
abbrev sq_Choosing_row_at (p : Program) : Stmt := inClass (Hd.tp p 12) 1
abbrev sq_Choosing_check_row (p : Program) : Stmt := inClass (Hd.tp p 12) 8
abbrev sq_Choosing_place_of (p : Program) : Stmt := inClass (Hd.tp p 12) 2
abbrev sq_Choosing_check_spots (p : Program) : Stmt := inClass (Hd.tp p 12) 7
abbrev sq_Choosing_swapped (p : Program) : Stmt := inClass (Hd.tp p 12) 6
abbrev sq_Choosing_done (p : Program) : Stmt := inClass (Hd.tp p 12) 4
abbrev sq_Choosing_undone (p : Program) : Stmt := inClass (Hd.tp p 12) 5
abbrev sq_Turning_change (p : Program) : Stmt := inClass (Hd.tp p 15) 3
abbrev sq_Listing_leap (p : Program) : Stmt := inClass (Hd.tp p 10) 2
abbrev sq_Listing_next_row (p : Program) : Stmt := inClass (Hd.tp p 10) 3
abbrev sq_Listing_row_before (p : Program) : Stmt := inClass (Hd.tp p 10) 4
abbrev sq_Listing_steps_to (p : Program) : Stmt := inClass (Hd.tp p 10) 5
abbrev sq_Turning_turned (p : Program) : Stmt := inClass (Hd.tp p 15) 6
abbrev sq_Turning_done (p : Program) : Stmt := inClass (Hd.tp p 15) 4
abbrev sq_Turning_undone (p : Program) : Stmt := inClass (Hd.tp p 15) 5
abbrev sq_Choosing_change (p : Program) : Stmt := inClass (Hd.tp p 12) 3
abbrev sq_l_cell_at (p : Program) : Stmt := Hd.tp p 17
abbrev sq_l_length (p : Program) : Stmt := Hd.tp p 18
abbrev sq_l_signs (p : Program) : Stmt := Hd.tp p 19
abbrev sq_l_which (p : Program) : Stmt := Hd.tp p 20
abbrev sq_l_formed (p : Program) : Stmt := Hd.tp p 21
abbrev sq_l_ask (p : Program) : Stmt := Hd.tp p 22
abbrev sq_l_refused (p : Program) : Stmt := Hd.tp p 23
abbrev sq_l_forms (p : Program) : Stmt := Hd.tp p 24
abbrev sq_l_bad_row (p : Program) : Stmt := Hd.tp p 25
abbrev sq_l_bad_ones (p : Program) : Stmt := Hd.tp p 26
abbrev sq_l_rows (p : Program) : Stmt := Hd.tp p 27
abbrev sq_l_places (p : Program) : Stmt := Hd.tp p 28
abbrev sq_l_changes (p : Program) : Stmt := Hd.tp p 29
abbrev sq_l_swaps (p : Program) : Stmt := Hd.tp p 30
abbrev sq_l_fit (p : Program) : Stmt := Hd.tp p 31
abbrev sq_l_turning (p : Program) : Stmt := Hd.tp p 32
abbrev sq_l_choosing (p : Program) : Stmt := Hd.tp p 33
abbrev sq_law (p : Program) : Stmt := Hd.tp p 34
open PySem.W in
def obs (K : PySem.W.Frag) : List (Option (Option Value)) × List Bool × List (Option Value) × List (Option Bool) × List (Option CFound) × List (Option Obj) := ([PySem.W.nsIn K mainGlobals "Turning", PySem.W.findIn K (.ref 306) "__setattr__", PySem.W.findIn K (.ref 306) "size", PySem.W.findIn K (.ref 306) "signs", PySem.W.findIn K (.ref 306) "length", PySem.W.nsIn K mainGlobals "Choosing", PySem.W.findIn K (.ref 217) "__setattr__", PySem.W.findIn K (.ref 217) "size", PySem.W.findIn K (.ref 217) "length", PySem.W.findIn K (.ref 217) "ones", PySem.W.nsIn K mainGlobals "Listing", PySem.W.specialIn K (.ref 142) "__getattribute__", PySem.W.nsIn K mainGlobals "RowError", PySem.W.nsIn K mainGlobals "NoForm", PySem.W.nsIn K mainGlobals "NoPlace", PySem.W.nsIn K mainGlobals "NoRow", PySem.W.nsIn K mainGlobals "NoChange", PySem.W.findIn K (.ref 44) "__getattribute__", PySem.W.findIn K (.ref 44) "__getattr__", PySem.W.findIn K (.ref 44) "__class__", PySem.W.findIn K (.ref 56) "__getattribute__", PySem.W.findIn K (.ref 56) "__getattr__", PySem.W.findIn K (.ref 56) "__class__", PySem.W.findIn K (.ref 68) "__getattribute__", PySem.W.findIn K (.ref 68) "__getattr__", PySem.W.findIn K (.ref 68) "__class__", PySem.W.findIn K (.ref 80) "__getattribute__", PySem.W.findIn K (.ref 80) "__getattr__", PySem.W.findIn K (.ref 80) "__class__", PySem.W.nsIn K mainGlobals "ValueError", PySem.W.nsIn K mainGlobals "count_all", PySem.W.findIn K (.ref 306) "many", PySem.W.findIn K (.ref 306) "check_place", PySem.W.findIn K (.ref 306) "__init__", PySem.W.findIn K (.ref 306) "row_at", PySem.W.findIn K (.ref 306) "check_row", PySem.W.findIn K (.ref 306) "figures_of", PySem.W.findIn K (.ref 306) "place_of", PySem.W.findIn K (.ref 306) "check_turn", PySem.W.nsIn K mainGlobals "choose", PySem.W.findIn K (.ref 217) "many", PySem.W.findIn K (.ref 217) "check_place", PySem.W.findIn K (.ref 217) "__init__", PySem.W.findIn K (.ref 217) "row_at", PySem.W.findIn K (.ref 217) "check_row", PySem.W.findIn K (.ref 217) "place_of", PySem.W.findIn K (.ref 217) "check_spots", PySem.W.findIn K (.ref 217) "swapped", PySem.W.findIn K (.ref 217) "done", PySem.W.findIn K (.ref 217) "undone", PySem.W.findIn K (.ref 306) "change", PySem.W.findIn K (.ref 306) "leap", PySem.W.findIn K (.ref 306) "next_row", PySem.W.findIn K (.ref 306) "row_before", PySem.W.findIn K (.ref 306) "steps_to", PySem.W.findIn K (.ref 306) "turned", PySem.W.findIn K (.ref 306) "done", PySem.W.findIn K (.ref 306) "undone", PySem.W.findIn K (.ref 217) "leap", PySem.W.findIn K (.ref 217) "next_row", PySem.W.findIn K (.ref 217) "row_before", PySem.W.findIn K (.ref 217) "steps_to", PySem.W.findIn K (.ref 217) "change", PySem.W.nsIn K mainGlobals "_law_cell_at", PySem.W.nsIn K mainGlobals "_law_length", PySem.W.nsIn K mainGlobals "_law_signs", PySem.W.nsIn K mainGlobals "_law_which", PySem.W.nsIn K mainGlobals "_law_formed", PySem.W.nsIn K mainGlobals "_law_ask", PySem.W.nsIn K mainGlobals "_law_refused", PySem.W.nsIn K mainGlobals "_law_forms", PySem.W.nsIn K mainGlobals "_law_bad_row", PySem.W.nsIn K mainGlobals "_law_bad_ones", PySem.W.nsIn K mainGlobals "_law_rows", PySem.W.nsIn K mainGlobals "_law_places", PySem.W.nsIn K mainGlobals "_law_changes", PySem.W.nsIn K mainGlobals "_law_swaps", PySem.W.nsIn K mainGlobals "_law_fit", PySem.W.nsIn K mainGlobals "_law_turning", PySem.W.nsIn K mainGlobals "_law_choosing", PySem.W.nsIn K mainGlobals "law", PySem.W.nsIn K mainGlobals "len", PySem.W.nsIn K mainGlobals "range", PySem.W.nsIn K mainGlobals "isinstance", PySem.W.nsIn K mainGlobals "int", PySem.W.nsIn K mainGlobals "bool", PySem.W.nsIn K mainGlobals "str", PySem.W.nsIn K mainGlobals "list", PySem.W.nsIn K mainGlobals "tuple", PySem.W.nsIn K mainGlobals "all", PySem.W.nsIn K mainGlobals "sum", PySem.W.nsIn K mainGlobals "max", PySem.W.nsIn K mainGlobals "min", PySem.W.nsIn K mainGlobals "reversed", PySem.W.nsIn K mainGlobals "enumerate", PySem.W.nsIn K mainGlobals "zip", PySem.W.nsIn K mainGlobals "LONGEST"], [PySem.W.plainGet K 306 Str.empty, PySem.W.hasDictIn K 306, PySem.W.plainOver K 306, PySem.W.makesIn K 306, PySem.W.keepIn K (.ref 306), PySem.W.plainGet K 217 Str.empty, PySem.W.hasDictIn K 217, PySem.W.plainOver K 217, PySem.W.makesIn K 217, PySem.W.keepIn K (.ref 217), PySem.W.readsIn K 142 (Value.type "type"), L2.xclsIn K 44 31, (PySem.W.clsIn K 44).isSome, L2.xclsIn K 56 31, (PySem.W.clsIn K 56).isSome, L2.xclsIn K 68 31, (PySem.W.clsIn K 68).isSome, L2.xclsIn K 80 31, (PySem.W.clsIn K 80).isSome, PySem.W.codeIn K (Value.ref 225) "count_all", PySem.W.keepIn K (.ref 226), PySem.W.codeIn K (Value.ref 95) "Listing.__init__", PySem.W.keepIn K (.ref 96), PySem.W.codeIn K (Value.ref 102) "Listing.many", PySem.W.keepIn K (.ref 103), PySem.W.isFn K (.ref 103), PySem.W.codeIn K (Value.ref 138) "Listing.check_place", PySem.W.keepIn K (.ref 139), PySem.W.isFn K (.ref 139), PySem.W.codeIn K (Value.ref 239) "Turning.__init__", PySem.W.keepIn K (.ref 240), PySem.W.isFn K (.ref 240), PySem.W.codeIn K (Value.ref 246) "Turning.row_at", PySem.W.keepIn K (.ref 247), PySem.W.isFn K (.ref 247), PySem.W.codeIn K (Value.ref 295) "Turning.check_row", PySem.W.keepIn K (.ref 296), PySem.W.isFn K (.ref 296), PySem.W.codeIn K (Value.ref 288) "Turning.figures_of", PySem.W.keepIn K (.ref 289), PySem.W.isFn K (.ref 289), PySem.W.codeIn K (Value.ref 253) "Turning.place_of", PySem.W.keepIn K (.ref 254), PySem.W.isFn K (.ref 254), PySem.W.codeIn K (Value.ref 302) "Turning.check_turn", PySem.W.keepIn K (.ref 303), PySem.W.isFn K (.ref 303), PySem.W.codeIn K (Value.ref 20) "choose", PySem.W.keepIn K (.ref 21), PySem.W.codeIn K (Value.ref 159) "Choosing.__init__", PySem.W.keepIn K (.ref 160), PySem.W.isFn K (.ref 160), PySem.W.codeIn K (Value.ref 166) "Choosing.row_at", PySem.W.keepIn K (.ref 167), PySem.W.isFn K (.ref 167), PySem.W.codeIn K (Value.ref 213) "Choosing.check_row", PySem.W.keepIn K (.ref 214), PySem.W.isFn K (.ref 214), PySem.W.codeIn K (Value.ref 173) "Choosing.place_of", PySem.W.keepIn K (.ref 174), PySem.W.isFn K (.ref 174), PySem.W.codeIn K (Value.ref 206) "Choosing.check_spots", PySem.W.keepIn K (.ref 207), PySem.W.isFn K (.ref 207), PySem.W.codeIn K (Value.ref 199) "Choosing.swapped", PySem.W.keepIn K (.ref 200), PySem.W.isFn K (.ref 200), PySem.W.codeIn K (Value.ref 185) "Choosing.done", PySem.W.keepIn K (.ref 186), PySem.W.isFn K (.ref 186), PySem.W.codeIn K (Value.ref 192) "Choosing.undone", PySem.W.keepIn K (.ref 193), PySem.W.isFn K (.ref 193), PySem.W.codeIn K (Value.ref 260) "Turning.change", PySem.W.keepIn K (.ref 261), PySem.W.isFn K (.ref 261), PySem.W.codeIn K (Value.ref 110) "Listing.leap", PySem.W.keepIn K (.ref 111), PySem.W.isFn K (.ref 111), PySem.W.codeIn K (Value.ref 117) "Listing.next_row", PySem.W.keepIn K (.ref 118), PySem.W.isFn K (.ref 118), PySem.W.codeIn K (Value.ref 124) "Listing.row_before", PySem.W.keepIn K (.ref 125), PySem.W.isFn K (.ref 125), PySem.W.codeIn K (Value.ref 131) "Listing.steps_to", PySem.W.keepIn K (.ref 132), PySem.W.isFn K (.ref 132), PySem.W.codeIn K (Value.ref 281) "Turning.turned", PySem.W.keepIn K (.ref 282), PySem.W.isFn K (.ref 282), PySem.W.codeIn K (Value.ref 267) "Turning.done", PySem.W.keepIn K (.ref 268), PySem.W.isFn K (.ref 268), PySem.W.codeIn K (Value.ref 274) "Turning.undone", PySem.W.keepIn K (.ref 275), PySem.W.isFn K (.ref 275), PySem.W.codeIn K (Value.ref 178) "Choosing.change", PySem.W.keepIn K (.ref 179), PySem.W.isFn K (.ref 179), PySem.W.codeIn K (Value.ref 314) "_law_cell_at", PySem.W.keepIn K (.ref 315), PySem.W.codeIn K (Value.ref 321) "_law_length", PySem.W.keepIn K (.ref 322), PySem.W.codeIn K (Value.ref 328) "_law_signs", PySem.W.keepIn K (.ref 329), PySem.W.codeIn K (Value.ref 333) "_law_which", PySem.W.keepIn K (.ref 334), PySem.W.codeIn K (Value.ref 340) "_law_formed", PySem.W.keepIn K (.ref 341), PySem.W.codeIn K (Value.ref 347) "_law_ask", PySem.W.keepIn K (.ref 348), PySem.W.codeIn K (Value.ref 354) "_law_refused", PySem.W.keepIn K (.ref 355), PySem.W.codeIn K (Value.ref 361) "_law_forms", PySem.W.keepIn K (.ref 362), PySem.W.codeIn K (Value.ref 368) "_law_bad_row", PySem.W.keepIn K (.ref 369), PySem.W.codeIn K (Value.ref 373) "_law_bad_ones", PySem.W.keepIn K (.ref 374), PySem.W.codeIn K (Value.ref 380) "_law_rows", PySem.W.keepIn K (.ref 381), PySem.W.codeIn K (Value.ref 387) "_law_places", PySem.W.keepIn K (.ref 388), PySem.W.codeIn K (Value.ref 394) "_law_changes", PySem.W.keepIn K (.ref 395), PySem.W.codeIn K (Value.ref 401) "_law_swaps", PySem.W.keepIn K (.ref 402), PySem.W.codeIn K (Value.ref 408) "_law_fit", PySem.W.keepIn K (.ref 409), PySem.W.codeIn K (Value.ref 413) "_law_turning", PySem.W.keepIn K (.ref 414), PySem.W.codeIn K (Value.ref 418) "_law_choosing", PySem.W.keepIn K (.ref 419), PySem.W.codeIn K (Value.ref 425) "law", PySem.W.keepIn K (.ref 426)], [PySem.W.typeIn K (.ref 142)], [PySem.W.mroIn K 44 (.type "object"), PySem.W.mroIn K 44 (.type "BaseException"), PySem.W.exmOne K (.ref 44) (.ref 31), PySem.W.kitOne K (.ref 44) (.type "ValueError"), PySem.W.kitOne K (.ref 44) (.ref 44), PySem.W.kitOne K (.ref 44) (.ref 56), PySem.W.kitOne K (.ref 44) (.ref 68), PySem.W.kitOne K (.ref 44) (.ref 80), PySem.W.mroIn K 56 (.type "object"), PySem.W.mroIn K 56 (.type "BaseException"), PySem.W.exmOne K (.ref 56) (.ref 31), PySem.W.kitOne K (.ref 56) (.type "ValueError"), PySem.W.kitOne K (.ref 56) (.ref 44), PySem.W.kitOne K (.ref 56) (.ref 56), PySem.W.kitOne K (.ref 56) (.ref 68), PySem.W.kitOne K (.ref 56) (.ref 80), PySem.W.mroIn K 68 (.type "object"), PySem.W.mroIn K 68 (.type "BaseException"), PySem.W.exmOne K (.ref 68) (.ref 31), PySem.W.kitOne K (.ref 68) (.type "ValueError"), PySem.W.kitOne K (.ref 68) (.ref 44), PySem.W.kitOne K (.ref 68) (.ref 56), PySem.W.kitOne K (.ref 68) (.ref 68), PySem.W.kitOne K (.ref 68) (.ref 80), PySem.W.mroIn K 80 (.type "object"), PySem.W.mroIn K 80 (.type "BaseException"), PySem.W.exmOne K (.ref 80) (.ref 31), PySem.W.kitOne K (.ref 80) (.type "ValueError"), PySem.W.kitOne K (.ref 80) (.ref 44), PySem.W.kitOne K (.ref 80) (.ref 56), PySem.W.kitOne K (.ref 80) (.ref 68), PySem.W.kitOne K (.ref 80) (.ref 80)], [PySem.W.findCls K (.ref 142) (Value.type "type") "__init__"], [K.lookup 226, K.lookup 96, K.lookup 103, K.lookup 139, K.lookup 240, K.lookup 247, K.lookup 296, K.lookup 289, K.lookup 254, K.lookup 303, K.lookup 21, K.lookup 160, K.lookup 167, K.lookup 214, K.lookup 174, K.lookup 207, K.lookup 200, K.lookup 186, K.lookup 193, K.lookup 261, K.lookup 111, K.lookup 104, K.lookup 118, K.lookup 125, K.lookup 132, K.lookup 282, K.lookup 268, K.lookup 275, K.lookup 179, K.lookup 315, K.lookup 322, K.lookup 329, K.lookup 334, K.lookup 341, K.lookup 348, K.lookup 355, K.lookup 362, K.lookup 369, K.lookup 374, K.lookup 381, K.lookup 388, K.lookup 395, K.lookup 402, K.lookup 409, K.lookup 414, K.lookup 419, K.lookup 426])
open PySem.W in
def vals (p : Program) : List (Option (Option Value)) × List Bool × List (Option Value) × List (Option Bool) × List (Option CFound) × List (Option Obj) := ([some (some (.ref 306)), some (some (.builtin "object.__setattr__")), some none, some none, some none, some (some (.ref 217)), some (some (.builtin "object.__setattr__")), some none, some none, some none, some (some (.ref 142)), some (some (.builtin "type.__getattribute__")), some (some (.ref 31)), some (some (.ref 44)), some (some (.ref 56)), some (some (.ref 68)), some (some (.ref 80)), some (some (.builtin "BaseException.__getattribute__")), some none, some (some (.builtin "object.__class__")), some (some (.builtin "BaseException.__getattribute__")), some none, some (some (.builtin "object.__class__")), some (some (.builtin "BaseException.__getattribute__")), some none, some (some (.builtin "object.__class__")), some (some (.builtin "BaseException.__getattribute__")), some none, some (some (.builtin "object.__class__")), some none, some (some (.ref 226)), some (some (.ref 103)), some (some (.ref 139)), some (some (.ref 240)), some (some (.ref 247)), some (some (.ref 296)), some (some (.ref 289)), some (some (.ref 254)), some (some (.ref 303)), some (some (.ref 21)), some (some (.ref 103)), some (some (.ref 139)), some (some (.ref 160)), some (some (.ref 167)), some (some (.ref 214)), some (some (.ref 174)), some (some (.ref 207)), some (some (.ref 200)), some (some (.ref 186)), some (some (.ref 193)), some (some (.ref 261)), some (some (.ref 111)), some (some (.ref 118)), some (some (.ref 125)), some (some (.ref 132)), some (some (.ref 282)), some (some (.ref 268)), some (some (.ref 275)), some (some (.ref 111)), some (some (.ref 118)), some (some (.ref 125)), some (some (.ref 132)), some (some (.ref 179)), some (some (.ref 315)), some (some (.ref 322)), some (some (.ref 329)), some (some (.ref 334)), some (some (.ref 341)), some (some (.ref 348)), some (some (.ref 355)), some (some (.ref 362)), some (some (.ref 369)), some (some (.ref 374)), some (some (.ref 381)), some (some (.ref 388)), some (some (.ref 395)), some (some (.ref 402)), some (some (.ref 409)), some (some (.ref 414)), some (some (.ref 419)), some (some (.ref 426)), some none, some none, some none, some none, some none, some none, some none, some none, some none, some none, some none, some none, some none, some none, some none, some (some (.int 200 285))], [true, true, true, true, true, true, true, true, true, true, true, true, true, true, true, true, true, true, true, true, true, true, true, true, true, true, true, true, true, true, true, true, true, true, true, true, true, true, true, true, true, true, true, true, true, true, true, true, true, true, true, true, true, true, true, true, true, true, true, true, true, true, true, true, true, true, true, true, true, true, true, true, true, true, true, true, true, true, true, true, true, true, true, true, true, true, true, true, true, true, true, true, true, true, true, true, true, true, true, true, true, true, true, true, true, true, true, true, true, true, true, true, true, true, true, true, true, true, true, true, true, true, true, true, true, true, true, true, true, true, true, true, true, true, true, true], [some (Value.type "type")], [some true, some true, some true, some true, some true, some false, some false, some false, some true, some true, some true, some true, some false, some true, some false, some false, some true, some true, some true, some true, some false, some false, some true, some false, some true, some true, some true, some true, some false, some false, some false, some true], [some (.val (.ref 96))], [some ⟨(Value.type "function"), none, .func (PySem.W.fnOf "count_all" "count_all" (defArgs (sq_count_all p)) (defBody (sq_count_all p)) (defScope (sq_count_all p)) .none (Value.none) (Value.none) (Value.str (Str.ofString "marksteps.turning") 479) none (Value.ref 225) (Value.none)), #[]⟩, some ⟨(Value.type "function"), none, .func (PySem.W.fnOf "__init__" "Listing.__init__" (defArgs (sq_Listing___init p)) (defBody (sq_Listing___init p)) (defScope (sq_Listing___init p)) .none (Value.none) (Value.none) (Value.str (Str.ofString "marksteps.listing") 283) none (Value.ref 95) (Value.none)), #[]⟩, some ⟨(Value.type "function"), none, .func (PySem.W.fnOf "many" "Listing.many" (defArgs (sq_Listing_many p)) (defBody (sq_Listing_many p)) (defScope (sq_Listing_many p)) .none (Value.none) (Value.none) (Value.str (Str.ofString "marksteps.listing") 283) none (Value.ref 102) (Value.none)), #[]⟩, some ⟨(Value.type "function"), none, .func (PySem.W.fnOf "check_place" "Listing.check_place" (defArgs (sq_Listing_check_place p)) (defBody (sq_Listing_check_place p)) (defScope (sq_Listing_check_place p)) .none (Value.none) (Value.none) (Value.str (Str.ofString "marksteps.listing") 283) none (Value.ref 138) (Value.none)), #[]⟩, some ⟨(Value.type "function"), none, .func (PySem.W.fnOf "__init__" "Turning.__init__" (defArgs (sq_Turning___init p)) (defBody (sq_Turning___init p)) (defScope (sq_Turning___init p)) .none (Value.none) (Value.none) (Value.str (Str.ofString "marksteps.turning") 479) none (Value.ref 239) (Value.none)), #[]⟩, some ⟨(Value.type "function"), none, .func (PySem.W.fnOf "row_at" "Turning.row_at" (defArgs (sq_Turning_row_at p)) (defBody (sq_Turning_row_at p)) (defScope (sq_Turning_row_at p)) .none (Value.none) (Value.none) (Value.str (Str.ofString "marksteps.turning") 479) none (Value.ref 246) (Value.none)), #[]⟩, some ⟨(Value.type "function"), none, .func (PySem.W.fnOf "check_row" "Turning.check_row" (defArgs (sq_Turning_check_row p)) (defBody (sq_Turning_check_row p)) (defScope (sq_Turning_check_row p)) .none (Value.none) (Value.none) (Value.str (Str.ofString "marksteps.turning") 479) none (Value.ref 295) (Value.none)), #[]⟩, some ⟨(Value.type "function"), none, .func (PySem.W.fnOf "figures_of" "Turning.figures_of" (defArgs (sq_Turning_figures_of p)) (defBody (sq_Turning_figures_of p)) (defScope (sq_Turning_figures_of p)) .none (Value.none) (Value.none) (Value.str (Str.ofString "marksteps.turning") 479) none (Value.ref 288) (Value.none)), #[]⟩, some ⟨(Value.type "function"), none, .func (PySem.W.fnOf "place_of" "Turning.place_of" (defArgs (sq_Turning_place_of p)) (defBody (sq_Turning_place_of p)) (defScope (sq_Turning_place_of p)) .none (Value.none) (Value.none) (Value.str (Str.ofString "marksteps.turning") 479) none (Value.ref 253) (Value.none)), #[]⟩, some ⟨(Value.type "function"), none, .func (PySem.W.fnOf "check_turn" "Turning.check_turn" (defArgs (sq_Turning_check_turn p)) (defBody (sq_Turning_check_turn p)) (defScope (sq_Turning_check_turn p)) .none (Value.none) (Value.none) (Value.str (Str.ofString "marksteps.turning") 479) none (Value.ref 302) (Value.none)), #[]⟩, some ⟨(Value.type "function"), none, .func (PySem.W.fnOf "choose" "choose" (defArgs (sq_choose p)) (defBody (sq_choose p)) (defScope (sq_choose p)) .none (Value.none) (Value.none) (Value.str (Str.ofString "marksteps.counts") 187) none (Value.ref 20) (Value.none)), #[]⟩, some ⟨(Value.type "function"), none, .func (PySem.W.fnOf "__init__" "Choosing.__init__" (defArgs (sq_Choosing___init p)) (defBody (sq_Choosing___init p)) (defScope (sq_Choosing___init p)) .none (Value.none) (Value.none) (Value.str (Str.ofString "marksteps.choosing") 366) none (Value.ref 159) (Value.none)), #[]⟩, some ⟨(Value.type "function"), none, .func (PySem.W.fnOf "row_at" "Choosing.row_at" (defArgs (sq_Choosing_row_at p)) (defBody (sq_Choosing_row_at p)) (defScope (sq_Choosing_row_at p)) .none (Value.none) (Value.none) (Value.str (Str.ofString "marksteps.choosing") 366) none (Value.ref 166) (Value.none)), #[]⟩, some ⟨(Value.type "function"), none, .func (PySem.W.fnOf "check_row" "Choosing.check_row" (defArgs (sq_Choosing_check_row p)) (defBody (sq_Choosing_check_row p)) (defScope (sq_Choosing_check_row p)) .none (Value.none) (Value.none) (Value.str (Str.ofString "marksteps.choosing") 366) none (Value.ref 213) (Value.none)), #[]⟩, some ⟨(Value.type "function"), none, .func (PySem.W.fnOf "place_of" "Choosing.place_of" (defArgs (sq_Choosing_place_of p)) (defBody (sq_Choosing_place_of p)) (defScope (sq_Choosing_place_of p)) .none (Value.none) (Value.none) (Value.str (Str.ofString "marksteps.choosing") 366) none (Value.ref 173) (Value.none)), #[]⟩, some ⟨(Value.type "function"), none, .func (PySem.W.fnOf "check_spots" "Choosing.check_spots" (defArgs (sq_Choosing_check_spots p)) (defBody (sq_Choosing_check_spots p)) (defScope (sq_Choosing_check_spots p)) .none (Value.none) (Value.none) (Value.str (Str.ofString "marksteps.choosing") 366) none (Value.ref 206) (Value.none)), #[]⟩, some ⟨(Value.type "function"), none, .func (PySem.W.fnOf "swapped" "Choosing.swapped" (defArgs (sq_Choosing_swapped p)) (defBody (sq_Choosing_swapped p)) (defScope (sq_Choosing_swapped p)) .none (Value.none) (Value.none) (Value.str (Str.ofString "marksteps.choosing") 366) none (Value.ref 199) (Value.none)), #[]⟩, some ⟨(Value.type "function"), none, .func (PySem.W.fnOf "done" "Choosing.done" (defArgs (sq_Choosing_done p)) (defBody (sq_Choosing_done p)) (defScope (sq_Choosing_done p)) .none (Value.none) (Value.none) (Value.str (Str.ofString "marksteps.choosing") 366) none (Value.ref 185) (Value.none)), #[]⟩, some ⟨(Value.type "function"), none, .func (PySem.W.fnOf "undone" "Choosing.undone" (defArgs (sq_Choosing_undone p)) (defBody (sq_Choosing_undone p)) (defScope (sq_Choosing_undone p)) .none (Value.none) (Value.none) (Value.str (Str.ofString "marksteps.choosing") 366) none (Value.ref 192) (Value.none)), #[]⟩, some ⟨(Value.type "function"), none, .func (PySem.W.fnOf "change" "Turning.change" (defArgs (sq_Turning_change p)) (defBody (sq_Turning_change p)) (defScope (sq_Turning_change p)) .none (Value.none) (Value.none) (Value.str (Str.ofString "marksteps.turning") 479) none (Value.ref 260) (Value.none)), #[]⟩, some ⟨(Value.type "function"), none, .func (PySem.W.fnOf "leap" "Listing.leap" (defArgs (sq_Listing_leap p)) (defBody (sq_Listing_leap p)) (defScope (sq_Listing_leap p)) (.ref 104) (Value.none) (Value.none) (Value.str (Str.ofString "marksteps.listing") 283) none (Value.ref 110) (Value.none)), #[]⟩, some ⟨(Value.type "tuple"), none, .seq #[.int 1 314] 0, #[]⟩, some ⟨(Value.type "function"), none, .func (PySem.W.fnOf "next_row" "Listing.next_row" (defArgs (sq_Listing_next_row p)) (defBody (sq_Listing_next_row p)) (defScope (sq_Listing_next_row p)) .none (Value.none) (Value.none) (Value.str (Str.ofString "marksteps.listing") 283) none (Value.ref 117) (Value.none)), #[]⟩, some ⟨(Value.type "function"), none, .func (PySem.W.fnOf "row_before" "Listing.row_before" (defArgs (sq_Listing_row_before p)) (defBody (sq_Listing_row_before p)) (defScope (sq_Listing_row_before p)) .none (Value.none) (Value.none) (Value.str (Str.ofString "marksteps.listing") 283) none (Value.ref 124) (Value.none)), #[]⟩, some ⟨(Value.type "function"), none, .func (PySem.W.fnOf "steps_to" "Listing.steps_to" (defArgs (sq_Listing_steps_to p)) (defBody (sq_Listing_steps_to p)) (defScope (sq_Listing_steps_to p)) .none (Value.none) (Value.none) (Value.str (Str.ofString "marksteps.listing") 283) none (Value.ref 131) (Value.none)), #[]⟩, some ⟨(Value.type "function"), none, .func (PySem.W.fnOf "turned" "Turning.turned" (defArgs (sq_Turning_turned p)) (defBody (sq_Turning_turned p)) (defScope (sq_Turning_turned p)) .none (Value.none) (Value.none) (Value.str (Str.ofString "marksteps.turning") 479) none (Value.ref 281) (Value.none)), #[]⟩, some ⟨(Value.type "function"), none, .func (PySem.W.fnOf "done" "Turning.done" (defArgs (sq_Turning_done p)) (defBody (sq_Turning_done p)) (defScope (sq_Turning_done p)) .none (Value.none) (Value.none) (Value.str (Str.ofString "marksteps.turning") 479) none (Value.ref 267) (Value.none)), #[]⟩, some ⟨(Value.type "function"), none, .func (PySem.W.fnOf "undone" "Turning.undone" (defArgs (sq_Turning_undone p)) (defBody (sq_Turning_undone p)) (defScope (sq_Turning_undone p)) .none (Value.none) (Value.none) (Value.str (Str.ofString "marksteps.turning") 479) none (Value.ref 274) (Value.none)), #[]⟩, some ⟨(Value.type "function"), none, .func (PySem.W.fnOf "change" "Choosing.change" (defArgs (sq_Choosing_change p)) (defBody (sq_Choosing_change p)) (defScope (sq_Choosing_change p)) .none (Value.none) (Value.none) (Value.str (Str.ofString "marksteps.choosing") 366) none (Value.ref 178) (Value.none)), #[]⟩, some ⟨(Value.type "function"), none, .func (PySem.W.fnOf "_law_cell_at" "_law_cell_at" (defArgs (sq_l_cell_at p)) (defBody (sq_l_cell_at p)) (defScope (sq_l_cell_at p)) .none (Value.none) (Value.none) (Value.str (Str.ofString "law_marksteps_k07_refusals") 609) none (Value.ref 314) (Value.none)), #[]⟩, some ⟨(Value.type "function"), none, .func (PySem.W.fnOf "_law_length" "_law_length" (defArgs (sq_l_length p)) (defBody (sq_l_length p)) (defScope (sq_l_length p)) .none (Value.none) (Value.none) (Value.str (Str.ofString "law_marksteps_k07_refusals") 609) none (Value.ref 321) (Value.none)), #[]⟩, some ⟨(Value.type "function"), none, .func (PySem.W.fnOf "_law_signs" "_law_signs" (defArgs (sq_l_signs p)) (defBody (sq_l_signs p)) (defScope (sq_l_signs p)) .none (Value.none) (Value.none) (Value.str (Str.ofString "law_marksteps_k07_refusals") 609) none (Value.ref 328) (Value.none)), #[]⟩, some ⟨(Value.type "function"), none, .func (PySem.W.fnOf "_law_which" "_law_which" (defArgs (sq_l_which p)) (defBody (sq_l_which p)) (defScope (sq_l_which p)) .none (Value.none) (Value.none) (Value.str (Str.ofString "law_marksteps_k07_refusals") 609) none (Value.ref 333) (Value.none)), #[]⟩, some ⟨(Value.type "function"), none, .func (PySem.W.fnOf "_law_formed" "_law_formed" (defArgs (sq_l_formed p)) (defBody (sq_l_formed p)) (defScope (sq_l_formed p)) .none (Value.none) (Value.none) (Value.str (Str.ofString "law_marksteps_k07_refusals") 609) none (Value.ref 340) (Value.none)), #[]⟩, some ⟨(Value.type "function"), none, .func (PySem.W.fnOf "_law_ask" "_law_ask" (defArgs (sq_l_ask p)) (defBody (sq_l_ask p)) (defScope (sq_l_ask p)) .none (Value.none) (Value.none) (Value.str (Str.ofString "law_marksteps_k07_refusals") 609) none (Value.ref 347) (Value.none)), #[]⟩, some ⟨(Value.type "function"), none, .func (PySem.W.fnOf "_law_refused" "_law_refused" (defArgs (sq_l_refused p)) (defBody (sq_l_refused p)) (defScope (sq_l_refused p)) .none (Value.none) (Value.none) (Value.str (Str.ofString "law_marksteps_k07_refusals") 609) none (Value.ref 354) (Value.none)), #[]⟩, some ⟨(Value.type "function"), none, .func (PySem.W.fnOf "_law_forms" "_law_forms" (defArgs (sq_l_forms p)) (defBody (sq_l_forms p)) (defScope (sq_l_forms p)) .none (Value.none) (Value.none) (Value.str (Str.ofString "law_marksteps_k07_refusals") 609) none (Value.ref 361) (Value.none)), #[]⟩, some ⟨(Value.type "function"), none, .func (PySem.W.fnOf "_law_bad_row" "_law_bad_row" (defArgs (sq_l_bad_row p)) (defBody (sq_l_bad_row p)) (defScope (sq_l_bad_row p)) .none (Value.none) (Value.none) (Value.str (Str.ofString "law_marksteps_k07_refusals") 609) none (Value.ref 368) (Value.none)), #[]⟩, some ⟨(Value.type "function"), none, .func (PySem.W.fnOf "_law_bad_ones" "_law_bad_ones" (defArgs (sq_l_bad_ones p)) (defBody (sq_l_bad_ones p)) (defScope (sq_l_bad_ones p)) .none (Value.none) (Value.none) (Value.str (Str.ofString "law_marksteps_k07_refusals") 609) none (Value.ref 373) (Value.none)), #[]⟩, some ⟨(Value.type "function"), none, .func (PySem.W.fnOf "_law_rows" "_law_rows" (defArgs (sq_l_rows p)) (defBody (sq_l_rows p)) (defScope (sq_l_rows p)) .none (Value.none) (Value.none) (Value.str (Str.ofString "law_marksteps_k07_refusals") 609) none (Value.ref 380) (Value.none)), #[]⟩, some ⟨(Value.type "function"), none, .func (PySem.W.fnOf "_law_places" "_law_places" (defArgs (sq_l_places p)) (defBody (sq_l_places p)) (defScope (sq_l_places p)) .none (Value.none) (Value.none) (Value.str (Str.ofString "law_marksteps_k07_refusals") 609) none (Value.ref 387) (Value.none)), #[]⟩, some ⟨(Value.type "function"), none, .func (PySem.W.fnOf "_law_changes" "_law_changes" (defArgs (sq_l_changes p)) (defBody (sq_l_changes p)) (defScope (sq_l_changes p)) .none (Value.none) (Value.none) (Value.str (Str.ofString "law_marksteps_k07_refusals") 609) none (Value.ref 394) (Value.none)), #[]⟩, some ⟨(Value.type "function"), none, .func (PySem.W.fnOf "_law_swaps" "_law_swaps" (defArgs (sq_l_swaps p)) (defBody (sq_l_swaps p)) (defScope (sq_l_swaps p)) .none (Value.none) (Value.none) (Value.str (Str.ofString "law_marksteps_k07_refusals") 609) none (Value.ref 401) (Value.none)), #[]⟩, some ⟨(Value.type "function"), none, .func (PySem.W.fnOf "_law_fit" "_law_fit" (defArgs (sq_l_fit p)) (defBody (sq_l_fit p)) (defScope (sq_l_fit p)) .none (Value.none) (Value.none) (Value.str (Str.ofString "law_marksteps_k07_refusals") 609) none (Value.ref 408) (Value.none)), #[]⟩, some ⟨(Value.type "function"), none, .func (PySem.W.fnOf "_law_turning" "_law_turning" (defArgs (sq_l_turning p)) (defBody (sq_l_turning p)) (defScope (sq_l_turning p)) .none (Value.none) (Value.none) (Value.str (Str.ofString "law_marksteps_k07_refusals") 609) none (Value.ref 413) (Value.none)), #[]⟩, some ⟨(Value.type "function"), none, .func (PySem.W.fnOf "_law_choosing" "_law_choosing" (defArgs (sq_l_choosing p)) (defBody (sq_l_choosing p)) (defScope (sq_l_choosing p)) .none (Value.none) (Value.none) (Value.str (Str.ofString "law_marksteps_k07_refusals") 609) none (Value.ref 418) (Value.none)), #[]⟩, some ⟨(Value.type "function"), none, .func (PySem.W.fnOf "law" "law" (defArgs (sq_law p)) (defBody (sq_law p)) (defScope (sq_law p)) .none (Value.none) (Value.none) (Value.str (Str.ofString "law_marksteps_k07_refusals") 609) none (Value.ref 425) (Value.none)), #[]⟩])
abbrev adr : List Addr := [3, 2, 31, 30, 44, 43, 56, 55, 68, 67, 80, 79, 142, 141, 217, 216, 306, 305, 226, 225, 96, 95, 103, 102, 139, 138, 240, 239, 247, 246, 296, 295, 289, 288, 254, 253, 303, 302, 21, 20, 160, 159, 167, 166, 214, 213, 174, 173, 207, 206, 200, 199, 186, 185, 193, 192, 261, 260, 111, 110, 104, 118, 117, 125, 124, 132, 131, 282, 281, 268, 267, 275, 274, 179, 178, 315, 314, 322, 321, 329, 328, 334, 333, 341, 340, 348, 347, 355, 354, 362, 361, 369, 368, 374, 373, 381, 380, 388, 387, 395, 394, 402, 401, 409, 408, 414, 413, 419, 418, 426, 425]
abbrev keep : List Nat := [1, 3, 4, 5, 6, 7, 9, 10, 12, 14, 15, 17, 18, 19, 20, 21, 22, 23, 24, 25, 26, 27, 28, 29, 30, 31, 32, 33, 34]
end My
lay_quick PySem.Challenge.pw_marksteps_k07_refusals
namespace My
open PySem L2
set_option maxHeartbeats 0 in
theorem runs : ∀ w, Hd.big PySem.W.Fast.tw5923862056798008813 PySem.W.Fast.tw4187177175401517315 PySem.W.Fast.tw6613529449190102663 PySem.W.Fast.tw10156331382660048174 PySem.W.Fast.tw11892475500146522536 PySem.W.Fast.tw14364793385576792824 PySem.W.Fast.tw10808121466640547432 PySem.W.openGood keep 6550 adr obs vals w := fun w => by kernel_rfl
theorem run : ∀ w, Hd.big importedModules PySem.W.openSeen PySem.W.stepOk PySem.W.stepT denote treeTable PySem.Challenge.pw_marksteps_k07_refusals PySem.W.openGood keep 6550 adr obs vals w := Hd.big_of PySem.W.Fast.te10808121466640547432 runs
theorem walkE {loose : List Str} {XP : (Str → Option Value) → Heap → Prop} {q : Program} {d : DefRec} (hdf : d.params.defaults = []) (hd : d.name = "law") :
    PySem.W.WalkO q loose XP (Hd.obsHook adr obs (vals PySem.Challenge.pw_marksteps_k07_refusals)).says (PySem.Challenge.rw_marksteps_k07_refusals).row.toRowW d [] (fun f vs => PySem.call f vs) := by
  intro w s₀ s₁ mg mb G Y
  obtain ⟨K, KX, e⟩ := Y
  have eA := congrArg (fun x => x.1) e
  have eB := congrArg (fun x => x.2.1) e
  have eV := congrArg (fun x => x.2.2.1) e
  have eM := congrArg (fun x => x.2.2.2.1) e
  have eC := congrArg (fun x => x.2.2.2.2.1) e
  have eL := congrArg (fun x => x.2.2.2.2.2) e
  refine My.walk (l := PySem.Challenge.rw_marksteps_k07_refusals) (YP := fun _ h => K.In h) (K := fun _ => K) rfl hdf (fun _ _ h => h) ?F w s₀ s₁ mg mb G KX
  intro w mg fa h KX G hmg
  rw [hd] at hmg
  exact My.all_mk KX G hmg (Hd.at_ eA 0 rfl rfl) (Hd.at_ eB 0 rfl rfl) (Hd.at_ eB 1 rfl rfl) (Hd.at_ eB 2 rfl rfl) (Hd.at_ eA 1 rfl rfl) (Hd.at_ eB 3 rfl rfl) (Hd.at_ eB 4 rfl rfl) (Hd.at_ eA 2 rfl rfl) (Hd.at_ eA 3 rfl rfl) (Hd.at_ eA 4 rfl rfl) (Hd.at_ eA 5 rfl rfl) (Hd.at_ eB 5 rfl rfl) (Hd.at_ eB 6 rfl rfl) (Hd.at_ eB 7 rfl rfl) (Hd.at_ eA 6 rfl rfl) (Hd.at_ eB 8 rfl rfl) (Hd.at_ eB 9 rfl rfl) (Hd.at_ eA 7 rfl rfl) (Hd.at_ eA 8 rfl rfl) (Hd.at_ eA 9 rfl rfl) (Hd.at_ eA 10 rfl rfl) (Hd.at_ eA 11 rfl rfl) (Hd.at_ eV 0 rfl rfl) (Hd.at_ eB 10 rfl rfl) (Hd.at_ eA 12 rfl rfl) (Hd.at_ eA 13 rfl rfl) (Hd.at_ eA 14 rfl rfl) (Hd.at_ eA 15 rfl rfl) (Hd.at_ eA 16 rfl rfl) (Hd.at_ eB 11 rfl rfl) (Hd.at_ eA 17 rfl rfl) (Hd.at_ eA 18 rfl rfl) (Hd.at_ eA 19 rfl rfl) (Hd.at_ eM 0 rfl rfl) (Hd.at_ eM 1 rfl rfl) (Hd.at_ eB 12 rfl rfl) (Hd.at_ eM 2 rfl rfl) (Hd.at_ eM 3 rfl rfl) (Hd.at_ eM 4 rfl rfl) (Hd.at_ eM 5 rfl rfl) (Hd.at_ eM 6 rfl rfl) (Hd.at_ eM 7 rfl rfl) (Hd.at_ eB 13 rfl rfl) (Hd.at_ eA 20 rfl rfl) (Hd.at_ eA 21 rfl rfl) (Hd.at_ eA 22 rfl rfl) (Hd.at_ eM 8 rfl rfl) (Hd.at_ eM 9 rfl rfl) (Hd.at_ eB 14 rfl rfl) (Hd.at_ eM 10 rfl rfl) (Hd.at_ eM 11 rfl rfl) (Hd.at_ eM 12 rfl rfl) (Hd.at_ eM 13 rfl rfl) (Hd.at_ eM 14 rfl rfl) (Hd.at_ eM 15 rfl rfl) (Hd.at_ eB 15 rfl rfl) (Hd.at_ eA 23 rfl rfl) (Hd.at_ eA 24 rfl rfl) (Hd.at_ eA 25 rfl rfl) (Hd.at_ eM 16 rfl rfl) (Hd.at_ eM 17 rfl rfl) (Hd.at_ eB 16 rfl rfl) (Hd.at_ eM 18 rfl rfl) (Hd.at_ eM 19 rfl rfl) (Hd.at_ eM 20 rfl rfl) (Hd.at_ eM 21 rfl rfl) (Hd.at_ eM 22 rfl rfl) (Hd.at_ eM 23 rfl rfl) (Hd.at_ eB 17 rfl rfl) (Hd.at_ eA 26 rfl rfl) (Hd.at_ eA 27 rfl rfl) (Hd.at_ eA 28 rfl rfl) (Hd.at_ eM 24 rfl rfl) (Hd.at_ eM 25 rfl rfl) (Hd.at_ eB 18 rfl rfl) (Hd.at_ eM 26 rfl rfl) (Hd.at_ eM 27 rfl rfl) (Hd.at_ eM 28 rfl rfl) (Hd.at_ eM 29 rfl rfl) (Hd.at_ eM 30 rfl rfl) (Hd.at_ eM 31 rfl rfl) (Hd.at_ eA 29 rfl rfl) (Hd.at_ eA 30 rfl rfl) (Hd.at_ eL 0 rfl rfl) (Hd.at_ eB 19 rfl rfl) (Hd.at_ eB 20 rfl rfl) (Hd.at_ eC 0 rfl rfl) (Hd.at_ eL 1 rfl rfl) (Hd.at_ eB 21 rfl rfl) (Hd.at_ eB 22 rfl rfl) (Hd.at_ eA 31 rfl rfl) (Hd.at_ eL 2 rfl rfl) (Hd.at_ eB 23 rfl rfl) (Hd.at_ eB 24 rfl rfl) (Hd.at_ eB 25 rfl rfl) (Hd.at_ eA 32 rfl rfl) (Hd.at_ eL 3 rfl rfl) (Hd.at_ eB 26 rfl rfl) (Hd.at_ eB 27 rfl rfl) (Hd.at_ eB 28 rfl rfl) (Hd.at_ eA 33 rfl rfl) (Hd.at_ eL 4 rfl rfl) (Hd.at_ eB 29 rfl rfl) (Hd.at_ eB 30 rfl rfl) (Hd.at_ eB 31 rfl rfl) (Hd.at_ eA 34 rfl rfl) (Hd.at_ eL 5 rfl rfl) (Hd.at_ eB 32 rfl rfl) (Hd.at_ eB 33 rfl rfl) (Hd.at_ eB 34 rfl rfl) (Hd.at_ eA 35 rfl rfl) (Hd.at_ eL 6 rfl rfl) (Hd.at_ eB 35 rfl rfl) (Hd.at_ eB 36 rfl rfl) (Hd.at_ eB 37 rfl rfl) (Hd.at_ eA 36 rfl rfl) (Hd.at_ eL 7 rfl rfl) (Hd.at_ eB 38 rfl rfl) (Hd.at_ eB 39 rfl rfl) (Hd.at_ eB 40 rfl rfl) (Hd.at_ eA 37 rfl rfl) (Hd.at_ eL 8 rfl rfl) (Hd.at_ eB 41 rfl rfl) (Hd.at_ eB 42 rfl rfl) (Hd.at_ eB 43 rfl rfl) (Hd.at_ eA 38 rfl rfl) (Hd.at_ eL 9 rfl rfl) (Hd.at_ eB 44 rfl rfl) (Hd.at_ eB 45 rfl rfl) (Hd.at_ eB 46 rfl rfl) (Hd.at_ eA 39 rfl rfl) (Hd.at_ eL 10 rfl rfl) (Hd.at_ eB 47 rfl rfl) (Hd.at_ eB 48 rfl rfl) (Hd.at_ eA 40 rfl rfl) (Hd.at_ eA 41 rfl rfl) (Hd.at_ eA 42 rfl rfl) (Hd.at_ eL 11 rfl rfl) (Hd.at_ eB 49 rfl rfl) (Hd.at_ eB 50 rfl rfl) (Hd.at_ eB 51 rfl rfl) (Hd.at_ eA 43 rfl rfl) (Hd.at_ eL 12 rfl rfl) (Hd.at_ eB 52 rfl rfl) (Hd.at_ eB 53 rfl rfl) (Hd.at_ eB 54 rfl rfl) (Hd.at_ eA 44 rfl rfl) (Hd.at_ eL 13 rfl rfl) (Hd.at_ eB 55 rfl rfl) (Hd.at_ eB 56 rfl rfl) (Hd.at_ eB 57 rfl rfl) (Hd.at_ eA 45 rfl rfl) (Hd.at_ eL 14 rfl rfl) (Hd.at_ eB 58 rfl rfl) (Hd.at_ eB 59 rfl rfl) (Hd.at_ eB 60 rfl rfl) (Hd.at_ eA 46 rfl rfl) (Hd.at_ eL 15 rfl rfl) (Hd.at_ eB 61 rfl rfl) (Hd.at_ eB 62 rfl rfl) (Hd.at_ eB 63 rfl rfl) (Hd.at_ eA 47 rfl rfl) (Hd.at_ eL 16 rfl rfl) (Hd.at_ eB 64 rfl rfl) (Hd.at_ eB 65 rfl rfl) (Hd.at_ eB 66 rfl rfl) (Hd.at_ eA 48 rfl rfl) (Hd.at_ eL 17 rfl rfl) (Hd.at_ eB 67 rfl rfl) (Hd.at_ eB 68 rfl rfl) (Hd.at_ eB 69 rfl rfl) (Hd.at_ eA 49 rfl rfl) (Hd.at_ eL 18 rfl rfl) (Hd.at_ eB 70 rfl rfl) (Hd.at_ eB 71 rfl rfl) (Hd.at_ eB 72 rfl rfl) (Hd.at_ eA 50 rfl rfl) (Hd.at_ eL 19 rfl rfl) (Hd.at_ eB 73 rfl rfl) (Hd.at_ eB 74 rfl rfl) (Hd.at_ eB 75 rfl rfl) (Hd.at_ eA 51 rfl rfl) (Hd.at_ eL 20 rfl rfl) (Hd.at_ eL 21 rfl rfl) (Hd.at_ eB 76 rfl rfl) (Hd.at_ eB 77 rfl rfl) (Hd.at_ eB 78 rfl rfl) (Hd.at_ eA 52 rfl rfl) (Hd.at_ eL 22 rfl rfl) (Hd.at_ eB 79 rfl rfl) (Hd.at_ eB 80 rfl rfl) (Hd.at_ eB 81 rfl rfl) (Hd.at_ eA 53 rfl rfl) (Hd.at_ eL 23 rfl rfl) (Hd.at_ eB 82 rfl rfl) (Hd.at_ eB 83 rfl rfl) (Hd.at_ eB 84 rfl rfl) (Hd.at_ eA 54 rfl rfl) (Hd.at_ eL 24 rfl rfl) (Hd.at_ eB 85 rfl rfl) (Hd.at_ eB 86 rfl rfl) (Hd.at_ eB 87 rfl rfl) (Hd.at_ eA 55 rfl rfl) (Hd.at_ eL 25 rfl rfl) (Hd.at_ eB 88 rfl rfl) (Hd.at_ eB 89 rfl rfl) (Hd.at_ eB 90 rfl rfl) (Hd.at_ eA 56 rfl rfl) (Hd.at_ eL 26 rfl rfl) (Hd.at_ eB 91 rfl rfl) (Hd.at_ eB 92 rfl rfl) (Hd.at_ eB 93 rfl rfl) (Hd.at_ eA 57 rfl rfl) (Hd.at_ eL 27 rfl rfl) (Hd.at_ eB 94 rfl rfl) (Hd.at_ eB 95 rfl rfl) (Hd.at_ eB 96 rfl rfl) (Hd.at_ eA 58 rfl rfl) (Hd.at_ eA 59 rfl rfl) (Hd.at_ eA 60 rfl rfl) (Hd.at_ eA 61 rfl rfl) (Hd.at_ eA 62 rfl rfl) (Hd.at_ eL 28 rfl rfl) (Hd.at_ eB 97 rfl rfl) (Hd.at_ eB 98 rfl rfl) (Hd.at_ eB 99 rfl rfl) (Hd.at_ eA 63 rfl rfl) (Hd.at_ eL 29 rfl rfl) (Hd.at_ eB 100 rfl rfl) (Hd.at_ eB 101 rfl rfl) (Hd.at_ eA 64 rfl rfl) (Hd.at_ eL 30 rfl rfl) (Hd.at_ eB 102 rfl rfl) (Hd.at_ eB 103 rfl rfl) (Hd.at_ eA 65 rfl rfl) (Hd.at_ eL 31 rfl rfl) (Hd.at_ eB 104 rfl rfl) (Hd.at_ eB 105 rfl rfl) (Hd.at_ eA 66 rfl rfl) (Hd.at_ eL 32 rfl rfl) (Hd.at_ eB 106 rfl rfl) (Hd.at_ eB 107 rfl rfl) (Hd.at_ eA 67 rfl rfl) (Hd.at_ eL 33 rfl rfl) (Hd.at_ eB 108 rfl rfl) (Hd.at_ eB 109 rfl rfl) (Hd.at_ eA 68 rfl rfl) (Hd.at_ eL 34 rfl rfl) (Hd.at_ eB 110 rfl rfl) (Hd.at_ eB 111 rfl rfl) (Hd.at_ eA 69 rfl rfl) (Hd.at_ eL 35 rfl rfl) (Hd.at_ eB 112 rfl rfl) (Hd.at_ eB 113 rfl rfl) (Hd.at_ eA 70 rfl rfl) (Hd.at_ eL 36 rfl rfl) (Hd.at_ eB 114 rfl rfl) (Hd.at_ eB 115 rfl rfl) (Hd.at_ eA 71 rfl rfl) (Hd.at_ eL 37 rfl rfl) (Hd.at_ eB 116 rfl rfl) (Hd.at_ eB 117 rfl rfl) (Hd.at_ eA 72 rfl rfl) (Hd.at_ eL 38 rfl rfl) (Hd.at_ eB 118 rfl rfl) (Hd.at_ eB 119 rfl rfl) (Hd.at_ eA 73 rfl rfl) (Hd.at_ eL 39 rfl rfl) (Hd.at_ eB 120 rfl rfl) (Hd.at_ eB 121 rfl rfl) (Hd.at_ eA 74 rfl rfl) (Hd.at_ eL 40 rfl rfl) (Hd.at_ eB 122 rfl rfl) (Hd.at_ eB 123 rfl rfl) (Hd.at_ eA 75 rfl rfl) (Hd.at_ eL 41 rfl rfl) (Hd.at_ eB 124 rfl rfl) (Hd.at_ eB 125 rfl rfl) (Hd.at_ eA 76 rfl rfl) (Hd.at_ eL 42 rfl rfl) (Hd.at_ eB 126 rfl rfl) (Hd.at_ eB 127 rfl rfl) (Hd.at_ eA 77 rfl rfl) (Hd.at_ eL 43 rfl rfl) (Hd.at_ eB 128 rfl rfl) (Hd.at_ eB 129 rfl rfl) (Hd.at_ eA 78 rfl rfl) (Hd.at_ eL 44 rfl rfl) (Hd.at_ eB 130 rfl rfl) (Hd.at_ eB 131 rfl rfl) (Hd.at_ eA 79 rfl rfl) (Hd.at_ eL 45 rfl rfl) (Hd.at_ eB 132 rfl rfl) (Hd.at_ eB 133 rfl rfl) (Hd.at_ eA 80 rfl rfl) (Hd.at_ eL 46 rfl rfl) (Hd.at_ eB 134 rfl rfl) (Hd.at_ eB 135 rfl rfl) (Hd.at_ eA 81 rfl rfl) (Hd.at_ eA 82 rfl rfl) (Hd.at_ eA 83 rfl rfl) (Hd.at_ eA 84 rfl rfl) (Hd.at_ eA 85 rfl rfl) (Hd.at_ eA 86 rfl rfl) (Hd.at_ eA 87 rfl rfl) (Hd.at_ eA 88 rfl rfl) (Hd.at_ eA 89 rfl rfl) (Hd.at_ eA 90 rfl rfl) (Hd.at_ eA 91 rfl rfl) (Hd.at_ eA 92 rfl rfl) (Hd.at_ eA 93 rfl rfl) (Hd.at_ eA 94 rfl rfl) (Hd.at_ eA 95 rfl rfl) (Hd.at_ eA 96 rfl rfl)
end My
open PySem PySem.W PyProof.Rows
set_option maxRecDepth 100000 in
set_option maxHeartbeats 0 in
theorem PySem.Challenge.cw_marksteps_k07_refusals_holds : PySem.Challenge.rw_marksteps_k07_refusals.Holds := by
  w_on; o_law
  refine PySem.W.holds_open (q := PySem.W.view PySem.Challenge.pw_marksteps_k07_refusals My.keep) (loose := []) (Xt := fun s => xlAt (PySem.W.view PySem.Challenge.pw_marksteps_k07_refusals My.keep) [] s && recOk [] s) (XP := XL (PySem.W.view PySem.Challenge.pw_marksteps_k07_refusals My.keep) []) (Yf := fun s => My.obs (Hd.fragAt s.heap My.adr)) (Ya := fun _ => My.vals PySem.Challenge.pw_marksteps_k07_refusals) (YP := (Hd.obsHook My.adr My.obs (My.vals PySem.Challenge.pw_marksteps_k07_refusals)).says) (N := 6550) (Hd.left_of (by kernel_rfl) rfl (fun _ => by kernel_rfl) My.run) (Hd.obsHook My.adr My.obs (My.vals PySem.Challenge.pw_marksteps_k07_refusals)).of (Hd.obsHook My.adr My.obs (My.vals PySem.Challenge.pw_marksteps_k07_refusals)).keeps (fun s e => xl_of s (Bool.and_eq_true_iff.mp e).1) XL.keeps (by rfl) (by rfl) (by rfl) (fun s e => recFacts_of (Bool.and_eq_true_iff.mp e).2) (by rfl) (by first | assumption | decide +kernel) (by decide +kernel) ⟨rfl, rfl, rfl, rfl, rfl, by decide +kernel⟩ ?hw ?hc
  case hw => w_witness2
  case hc => exact My.walkE rfl rfl
