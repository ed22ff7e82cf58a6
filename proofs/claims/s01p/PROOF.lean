import PyProof.Rows.All
import Wide.All
import OpenK.AllK
import Wide.FinOn
import PyProof.EqAt
import PyProof.EqKinds
import PyProof.TupleCall
import KE.BitLaws
import Open.SpecLaws
import KE.OsHead
import KE.OsGo
import PySem.Challenge.RW_nursewire_s01_answers
section
set_option Elab.async false
set_option linter.all false
set_option maxRecDepth 100000
namespace L2
open PySem PySem.Spec PyProof.Rows
abbrev Key := Sum Int Str
def keyIs : Key → Value → Bool
  | .inl k, v => Value.isInt k v
  | .inr x, v => Value.isStrOf x v
def keyH (w : World) : Key → Int
  | .inl k => hashInt k
  | .inr x => hashStr w x
theorem keyIs_shape : ∀ {k : Key} {v : Value}, keyIs k v = true → (∃ i t, k = Sum.inl i ∧ v = Value.int i t) ∨ (∃ x t, k = Sum.inr x ∧ v = Value.str x t)
  | .inl i, v, h => by
    obtain ⟨t, e⟩ := Value.isInt_shape (k := i) (v := v) h
    exact .inl ⟨i, t, rfl, e⟩
  | .inr x, v, h => by
    obtain ⟨t, e⟩ := Value.isStrOf_shape (x := x) (v := v) h
    exact .inr ⟨x, t, rfl, e⟩
theorem keyIs_int (i : Int) (t : Tok) : keyIs (.inl i) (.int i t) = true := by simp [keyIs, Value.isInt]
theorem keyIs_str (x : Str) (t : Tok) : keyIs (.inr x) (.str x t) = true := by simp [keyIs, Value.isStrOf]
theorem key_ll (a b : Int) : decide ((Sum.inl a : Key) = Sum.inl b) = (a == b) := by
  by_cases e : a = b
  · subst e; simp
  · have h : ¬ (Sum.inl a : Key) = Sum.inl b := fun q => e (Sum.inl.inj q)
    rw [decide_eq_false h]
    exact (beq_eq_false_iff_ne.mpr e).symm
theorem key_rr (a b : Str) : decide ((Sum.inr a : Key) = Sum.inr b) = decide (a = b) := by
  by_cases e : a = b
  · subst e; simp
  · have h : ¬ (Sum.inr a : Key) = Sum.inr b := fun q => e (Sum.inr.inj q)
    rw [decide_eq_false h, decide_eq_false e]
theorem key_lr (a : Int) (b : Str) : decide ((Sum.inl a : Key) = Sum.inr b) = false := decide_eq_false (fun q => nomatch q)
theorem key_rl (a : Str) (b : Int) : decide ((Sum.inr a : Key) = Sum.inl b) = false := decide_eq_false (fun q => nomatch q)
def mixKind (prog : Program) (w : World) : PySem.KeyKind prog w Key where
  is := keyIs
  hash := keyH w
  inj := fun v a b ha hb => by
    rcases keyIs_shape ha with ⟨i, t, rfl, rfl⟩ | ⟨x, t, rfl, rfl⟩
    · rcases keyIs_shape hb with ⟨j, u, rfl, e⟩ | ⟨y, u, rfl, e⟩
      · injection e with e1 _; rw [e1]
      · exact nomatch e
    · rcases keyIs_shape hb with ⟨j, u, rfl, e⟩ | ⟨y, u, rfl, e⟩
      · exact nomatch e
      · injection e with e1 _; rw [e1]
  byValue := fun k v h => by
    rcases keyIs_shape h with ⟨i, t, rfl, rfl⟩ | ⟨x, t, rfl, rfl⟩ <;> rfl
  pyHash := fun hv h => by
    rcases keyIs_shape hv with ⟨i, t, rfl, rfl⟩ | ⟨x, t, rfl, rfl⟩
    · exact wpAny_pyHash_int h
    · exact wpAny_pyHash_str h
  eqBool := fun hu hv h => by
    rcases keyIs_shape hu with ⟨i, t, rfl, rfl⟩ | ⟨x, t, rfl, rfl⟩
    · rcases keyIs_shape hv with ⟨j, u, rfl, rfl⟩ | ⟨y, u, rfl, rfl⟩
      · rw [key_ll] at h; exact wpAny_eqBool_int h
      · rw [key_lr] at h; exact SeqAt.EqAt.int_str i t y u _ _ _ _ h
    · rcases keyIs_shape hv with ⟨j, u, rfl, rfl⟩ | ⟨y, u, rfl, rfl⟩
      · rw [key_rl] at h; exact SeqAt.EqAt.str_int x t j u _ _ _ _ h
      · rw [key_rr] at h; exact wpAny_eqBool_str h
  «strs» := fun k x t v h => by
    rcases keyIs_shape h with ⟨i, u, rfl, e⟩ | ⟨y, u, rfl, e⟩
    · exact nomatch e
    · injection e with e1 _
      subst e1
      cases v <;> rfl
theorem mixKind_int (prog : Program) (w : World) (i : Int) (t : Tok) : (mixKind prog w).is (.inl i) (.int i t) = true := keyIs_int i t
theorem mixKind_str (prog : Program) (w : World) (x : Str) (t : Tok) : (mixKind prog w).is (.inr x) (.str x t) = true := keyIs_str x t
end L2
namespace L2
open PySem PySem.Spec PyProof.Rows
inductive V where
  | non | bl (b : Bool) | int (i : Int) | str (x : Str) | byt (b : Array UInt8) | flt (b : UInt64) | ref (a : Addr) | ty (n : String)
  deriving DecidableEq
def RelV : V → Value → Prop
  | .non, u => u = Value.none
  | .bl b, u => u = Value.bool b
  | .int i, u => ∃ t, u = Value.int i t
  | .str x, u => ∃ t, u = Value.str x t
  | .byt b, u => ∃ t, u = Value.bytes b t
  | .flt b, u => ∃ t, u = Value.float b t
  | .ref a, u => u = Value.ref a
  | .ty n, u => u = Value.type n
abbrev Vals : List V → List Value → Prop := Paired RelV
theorem Vals.length {xs : List V} {us : List Value} (r : Vals xs us) : xs.length = us.length := Paired.length r
theorem Vals.get : ∀ {xs : List V} {us : List Value} {i : Nat} {x : V}, Vals xs us → xs[i]? = some x → ∃ u, us[i]? = some u ∧ RelV x u
  | _, _, _, _, .nil, e => by simp at e
  | _, _, 0, _, .cons r _, e => by simp at e; subst e; exact ⟨_, rfl, r⟩
  | _, _, i + 1, x, .cons _ t, e => by
    obtain ⟨u, h1, h2⟩ := Vals.get (i := i) (x := x) t (by simpa using e)
    exact ⟨u, by simpa using h1, h2⟩
theorem Vals.set {x : V} {u : Value} (r : RelV x u) : ∀ {xs : List V} {us : List Value} (i : Nat), Vals xs us → Vals (xs.set i x) (us.set i u)
  | _, _, _, .nil => .nil
  | _, _, 0, .cons _ t => .cons r t
  | _, _, i + 1, .cons q t => .cons q (Vals.set r i t)
theorem Vals.append : ∀ {xs ys : List V} {us ws : List Value}, Vals xs us → Vals ys ws → Vals (xs ++ ys) (us ++ ws)
  | _, _, _, _, .nil, s => s
  | _, _, _, _, .cons r t, s => .cons r (Vals.append t s)
theorem Vals.take : ∀ {xs : List V} {us : List Value} (n : Nat), Vals xs us → Vals (xs.take n) (us.take n)
  | _, _, 0, _ => .nil
  | _, _, _ + 1, .nil => .nil
  | _, _, n + 1, .cons r t => .cons r (Vals.take n t)
theorem Vals.drop : ∀ {xs : List V} {us : List Value} (n : Nat), Vals xs us → Vals (xs.drop n) (us.drop n)
  | _, _, 0, r => r
  | _, _, _ + 1, .nil => .nil
  | _, _, n + 1, .cons _ t => Vals.drop n t
def RelO : Option V → Option Value → Prop
  | some v, some u => RelV v u
  | none, none => True
  | _, _ => False
def KV {κ : Type} : List (κ × V) → List (κ × Value) → Prop := Paired fun (p : κ × V) (q : κ × Value) => p.1 = q.1 ∧ RelV p.2 q.2
def kV : Key → V
  | .inl i => .int i
  | .inr x => .str x
inductive HO where
  | lst (xs : List V)
  | tup (xs : List V)
  | dK (kvs : List (Key × V)) | dT (kvs : List (List Key × V))
  | set (S : Int → Bool) (n : Nat)
  | ins (C dx : Addr) (fs : List (Str × V))
  | own (x : Addr)
  | xd (fs : List (Str × V))
  | met (f x : Addr)
  | rng (lo hi : Int)
  | frz (o : Obj) (u : HO)
  | tbl (ps : Array Value)
  | ext (φ : Heap → Prop)
abbrev Hp := Addr → Option HO
def upd (H : Hp) (a : Addr) (o : HO) : Hp := fun b => if b = a then some o else H b
theorem upd_same {H : Hp} {a : Addr} {o : HO} : upd H a o a = some o := by unfold upd; rw [if_pos rfl]
theorem upd_ne {H : Hp} {a b : Addr} {o : HO} (h : b ≠ a) : upd H a o b = H b := by unfold upd; rw [if_neg h]
theorem ne_of_none {H : Hp} {a b : Addr} {o : HO} (h : H a = some o) (h' : H b = none) : a ≠ b := by
  intro e; subst e; rw [h] at h'; cases h'
section
variable (P : Program) (w : World)
def ObjOk (H : Hp) (h : Heap) (a : Addr) : HO → Prop
  | .lst xs => xs.length ≤ sizeLine ∧ ∃ (its : List Value) (n : Nat), Vals xs its ∧ h.get? a = some { cls := .type "list", data := .seq its.toArray n }
  | .tup xs => xs.length ≤ sizeLine ∧ ∃ its : List Value, Vals xs its ∧ IsTup h a its.toArray
  | .dK kvs => kvs.length ≤ sizeLine ∧ (a == sysModules) = false ∧ ∃ vs, KV kvs vs ∧ h.DictOf (mixKind P w) a vs
  | .dT kvs => kvs.length ≤ sizeLine ∧ (a == sysModules) = false ∧ ∃ xs : List (List Key × Addr × Value),
      Paired (fun (p : List Key × V) (q : List Key × Addr × Value) => p.1 = q.1 ∧ H q.2.1 = some (.tup (p.1.map kV)) ∧ RelV p.2 q.2.2) kvs xs ∧
      ∃ o es ep, h.get? a = some o ∧ o.ExactDict ∧ o.data = .dict es ep ∧ es.toList = xs.map (entryOfKey (tupleKind (mixKind P w))) ∧ (xs.map (·.1)).Nodup
  | .set S n => h.SetOf (intKind P w) a S n
  | .ins C dx fs => H dx = some (.own a) ∧ fs.length ≤ 1000 ∧ dx ≠ a ∧ h.get? a = some (PySem.W.instObj C dx) ∧
      ∃ mA, h.Ns1 dx mA ∧ (∀ f, RelO (fs.lookup f) (mA f)) ∧ PySem.Within mA (fs.map (·.1))
  | .own _ => ∃ o, h.get? a = some o
  | .xd fs => ∃ mA, h.Ns1 a mA ∧ ∀ f, RelO (fs.lookup f) (mA f)
  | .rng lo hi => ∃ t u v, h.get? a = some { cls := .type "range", data := .fields #[.int lo t, .int hi u, .int 1 v] }
  | .frz o u => h.get? a = some o ∧ ObjOk H h a u
  | .tbl ps => h.get? a = some { cls := .none, data := .fields ps }
  | .met f x => h.get? a = some (PySem.W.methodObj (.ref f) (.ref x))
  | .ext φ => φ h ∧ (∃ o, h.get? a = some o) ∧ ∀ h1 h2 : Heap, φ h1 → (∀ o, h1.get? a = some o → h2.get? a = some o) → φ h2
def HOk (H : Hp) (h : Heap) : Prop := ∀ a o, H a = some o → ObjOk P w H h a o
end
section
variable {P : Program} {w : World} {H H' : Hp} {h h' : Heap} {a : Addr} {o : HO}
theorem ObjOk.lt (x : ObjOk P w H h a o) : a < h.objs.size := by
  cases o with
  | lst xs => obtain ⟨_, _, _, _, e⟩ := x; exact Heap.lt_size e
  | tup xs => obtain ⟨_, _, _, p⟩ := x; exact p.lt
  | dK kvs => obtain ⟨_, _, _, _, o, _, _, e, _⟩ := x; exact Heap.lt_size e
  | dT kvs => obtain ⟨_, _, _, _, o, _, _, e, _⟩ := x; exact Heap.lt_size e
  | set S n => obtain ⟨o, _, _, _, e, _⟩ := x; exact Heap.lt_size e
  | ins C dx fs => obtain ⟨_, _, _, e, _⟩ := x; exact Heap.lt_size e
  | own y => obtain ⟨_, e⟩ := x; exact Heap.lt_size e
  | xd fs => obtain ⟨_, ⟨_, _, _, e, _⟩, _⟩ := x; exact Heap.lt_size e
  | rng lo hi => obtain ⟨_, _, _, e⟩ := x; exact Heap.lt_size e
  | frz ob u => obtain ⟨e, _⟩ := x; exact Heap.lt_size e
  | tbl ps => exact Heap.lt_size (show h.get? a = some _ from x)
  | met f y => exact Heap.lt_size (show h.get? a = some _ from x)
  | ext φ => obtain ⟨_, ⟨_, e⟩, _⟩ := x; exact Heap.lt_size e
theorem Paired.mapP {α β : Type} {F G : α → β → Prop} : ∀ {l₁ : List α} {l₂ : List β}, Paired F l₁ l₂ → (∀ a b, F a b → G a b) → Paired G l₁ l₂
  | _, _, .nil, _ => .nil
  | _, _, .cons r t, f => .cons (f _ _ r) (Paired.mapP t f)
theorem ObjOk.stay (x : ObjOk P w H h a o) (k : ∀ b u, (b = a ∨ H b = some (.own a)) → h.get? b = some u → h'.get? b = some u)
    (ho : ∀ b, H b = some (.own a) → H' b = some (.own a)) (ht : ∀ b xs, H b = some (.tup xs) → H' b = some (.tup xs)) : ObjOk P w H' h' a o := by
  induction o with
  | lst xs => obtain ⟨z, its, n, r, e⟩ := x; exact ⟨z, its, n, r, k _ _ (.inl rfl) e⟩
  | tup xs => obtain ⟨z, its, r, ob, e, c⟩ := x; exact ⟨z, its, r, ob, k _ _ (.inl rfl) e, c⟩
  | dK kvs => obtain ⟨z, y, vs, r, ob, es, ep, e, c⟩ := x; exact ⟨z, y, vs, r, ob, es, ep, k _ _ (.inl rfl) e, c⟩
  | dT kvs =>
    obtain ⟨z, y, xs, r, ob, es, ep, e, c⟩ := x
    exact ⟨z, y, xs, Paired.mapP r fun p q z => ⟨z.1, ht _ _ z.2.1, z.2.2⟩, ob, es, ep, k _ _ (.inl rfl) e, c⟩
  | set S n => obtain ⟨ob, es, ep, t, e, c⟩ := x; exact ⟨ob, es, ep, t, k _ _ (.inl rfl) e, c⟩
  | ins C dx fs =>
    obtain ⟨d, z, ne, e, mA, ⟨od, es, ep, e2, c⟩, r⟩ := x
    exact ⟨ho _ d, z, ne, k _ _ (.inl rfl) e, mA, ⟨od, es, ep, k _ _ (.inr d) e2, c⟩, r⟩
  | own y => obtain ⟨ob, e⟩ := x; exact ⟨ob, k _ _ (.inl rfl) e⟩
  | xd fs => obtain ⟨mA, ⟨od, es, ep, e, c⟩, r⟩ := x; exact ⟨mA, ⟨od, es, ep, k _ _ (.inl rfl) e, c⟩, r⟩
  | rng lo hi => obtain ⟨t, u, v, e⟩ := x; exact ⟨t, u, v, k _ _ (.inl rfl) e⟩
  | frz ob u ih => obtain ⟨e, q⟩ := x; exact ⟨k _ _ (.inl rfl) e, ih q⟩
  | tbl ps =>
    have e : h.get? a = some { cls := .none, data := .fields ps } := x
    show h'.get? a = some { cls := .none, data := .fields ps }
    exact k a _ (.inl rfl) e
  | met f y =>
    have e : h.get? a = some (PySem.W.methodObj (.ref f) (.ref y)) := x
    show h'.get? a = some (PySem.W.methodObj (.ref f) (.ref y))
    exact k a _ (.inl rfl) e
  | ext φ => obtain ⟨p, ⟨o, e⟩, st⟩ := x; exact ⟨st _ _ p fun o q => k _ _ (.inl rfl) q, ⟨o, k _ _ (.inl rfl) e⟩, st⟩
theorem HOk.lt (x : HOk P w H h) (e : H a = some o) : a < h.objs.size := (x a o e).lt
theorem HOk.fresh (x : HOk P w H h) (e : h.objs.size ≤ a) : H a = none := by
  cases q : H a with
  | none => rfl
  | some u => exact absurd (Nat.lt_of_lt_of_le (x.lt q) e) (Nat.lt_irrefl _)
theorem HOk.kept (x : HOk P w H h) (k : ∀ b u, h.get? b = some u → h'.get? b = some u) : HOk P w H h' := fun a o e =>
  (x a o e).stay (fun b u _ q => k b u q) (fun _ q => q) fun _ _ q => q
theorem HOk.laid (x : HOk P w H h) (k : ∀ b u, h.get? b = some u → h'.get? b = some u) (hp : h.objs.size ≤ a) (new : ObjOk P w (upd H a o) h' a o) : HOk P w (upd H a o) h' := fun b u e => by
  have hn := x.fresh hp
  by_cases hb : b = a
  · subst hb; rw [upd_same] at e; cases e; exact new
  · rw [upd_ne hb] at e
    exact (x b u e).stay (fun c v _ q => k c v q) (fun c q => by rw [upd_ne (ne_of_none q hn)]; exact q) fun c xs q => by rw [upd_ne (ne_of_none q hn)]; exact q
end
def Rd (H : Hp) (a : Addr) (u : HO) : Prop := H a = some u ∨ ∃ o, H a = some (.frz o u)
theorem Rd.ok {P : Program} {w : World} {H : Hp} {h : Heap} {a : Addr} {u : HO} (r : Rd H a u) (x : HOk P w H h) : ObjOk P w H h a u := by
  rcases r with r | ⟨o, r⟩
  · exact x a u r
  · obtain ⟨_, q⟩ := x a _ r
    exact q
def Mut : Option HO → Prop
  | some (.lst _) => True
  | some (.dK _) => True
  | some (.dT _) => True
  | some (.set _ _) => True
  | some (.ins _ _ _) => True
  | some (.ext _) => True
  | _ => False
section
variable {P : Program} {w : World} {H : Hp} {h h' : Heap} {x e : Addr} {o' : HO}
theorem HOk.write (ok : HOk P w H h) (mu : Mut (H x)) (he : e = x ∨ H e = some (.own x)) (k : ∀ b u, b ≠ e → h.get? b = some u → h'.get? b = some u) (heo : ∃ u, h'.get? e = some u)
    (new : ObjOk P w (upd H x o') h' x o') : HOk P w (upd H x o') h' := fun b u q => by
  have nown : ∀ c y, H c = some (.own y) → c ≠ x := fun c y r z => by subst z; rw [r] at mu; exact mu
  have ntup : ∀ c xs, H c = some (.tup xs) → c ≠ x := fun c xs r z => by subst z; rw [r] at mu; exact mu
  by_cases hb : b = x
  · subst hb; rw [upd_same] at q; cases q; exact new
  · rw [upd_ne hb] at q
    by_cases hbe : b = e
    · have q' : H b = some (.own x) := by
        rcases he with z | z
        · exact absurd (hbe.trans z) hb
        · rw [hbe]; exact z
      rw [q] at q'; cases q'
      obtain ⟨v, hv⟩ := heo
      exact ⟨v, by rw [hbe]; exact hv⟩
    · refine (ok b u q).stay (fun c v hc r => k c v ?_ r) (fun c r => by rw [upd_ne (nown c b r)]; exact r) fun c xs r => by rw [upd_ne (ntup c xs r)]; exact r
      rcases hc with rfl | hc
      · exact hbe
      · rintro rfl
        rcases he with z | z
        · exact nown c b hc z
        · rw [hc] at z; cases z; exact hb rfl
end
structure Un (fs ex : List Addr) (H H' : Hp) (h h' : Heap) : Prop where
  keep : ∀ b o, h.get? b = some o → H b = none → b ∉ fs → b ∉ ex → h'.get? b = some o
  slot : ∀ b o, h.get? b = some o → H b = none → b ∈ fs → b ∉ ex → ∃ sl, h'.get? b = some { o with slots := sl }
  free : ∀ b o, h.get? b = some o → H b = none → b ∉ ex → H' b = none
  there : ∀ b o, h.get? b = some o → b ∉ ex → ∃ o', h'.get? b = some o'
  tups : ∀ b xs, H b = some (.tup xs) → H' b = some (.tup xs)
  frzs : ∀ b o u, H b = some (.frz o u) → H' b = some (.frz o u)
  tbls : ∀ b ps, H b = some (.tbl ps) → ∃ more, H' b = some (.tbl (ps ++ more))
section
variable {fs fs' ex ex' : List Addr} {H H1 H2 : Hp} {h h1 h2 h' : Heap} {a x e : Addr} {o : HO}
theorem Un.any (u : Un fs ex H H1 h h1) {b : Addr} {ob : Obj} (q : h.get? b = some ob) (n : H b = none) (hx : b ∉ ex) : ∃ sl, h1.get? b = some { ob with slots := sl } := by
  by_cases hb : b ∈ fs
  · exact u.slot b ob q n hb hx
  · exact ⟨ob.slots, u.keep b ob q n hb hx⟩
theorem Un.kept (k : ∀ b u, h.get? b = some u → h'.get? b = some u) : Un fs ex H H h h' :=
  ⟨fun b ob q _ _ _ => k b ob q, fun b ob q _ _ _ => ⟨ob.slots, k b ob q⟩, fun _ _ _ n _ => n, fun b ob q _ => ⟨ob, k b ob q⟩, fun _ _ q => q, fun _ _ _ q => q, fun _ ps q => ⟨#[], by rw [q]; simp⟩⟩
theorem Un.refl : Un fs ex H H h h := Un.kept fun _ _ q => q
theorem Un.laid (k : ∀ b u, h.get? b = some u → h'.get? b = some u) (hp : h.objs.size ≤ a) (hn : H a = none) : Un fs ex H (upd H a o) h h' where
  keep := fun b u q _ _ _ => k b u q
  slot := fun b u q _ _ _ => ⟨u.slots, k b u q⟩
  free := fun b u q n _ => by rw [upd_ne (Nat.ne_of_lt (Nat.lt_of_lt_of_le (Heap.lt_size q) hp))]; exact n
  there := fun b u q _ => ⟨u, k b u q⟩
  tups := fun b xs q => by rw [upd_ne (ne_of_none q hn)]; exact q
  frzs := fun b u xs q => by rw [upd_ne (ne_of_none q hn)]; exact q
  tbls := fun b ps q => ⟨#[], by rw [upd_ne (ne_of_none q hn), q]; simp⟩
theorem Un.write (mu : Mut (H x)) (he : e = x ∨ H e = some (.own x)) (k : ∀ b u, b ≠ e → h.get? b = some u → h'.get? b = some u) (heo : ∃ u, h'.get? e = some u) : Un fs ex H (upd H x o) h h' := by
  have hx : ∀ b, H b = none → b ≠ x := fun b n z => by subst z; rw [n] at mu; exact mu
  have hb : ∀ b, H b = none → b ≠ e := fun b n z => by
    subst z
    rcases he with r | r
    · exact hx b n r
    · rw [n] at r; cases r
  have hm : ∀ b u, H b = some u → ¬ Mut (some u) → b ≠ x := fun b u q nm z => by subst z; rw [q] at mu; exact nm mu
  refine ⟨fun b u q n _ _ => k b u (hb b n) q, fun b u q n _ _ => ⟨u.slots, k b u (hb b n) q⟩, fun b u q n _ => by rw [upd_ne (hx b n)]; exact n, fun b u q _ => ?_,
    fun b xs q => by rw [upd_ne (hm b _ q fun z => z)]; exact q, fun b u xs q => by rw [upd_ne (hm b _ q fun z => z)]; exact q, fun b ps q => ⟨#[], by rw [upd_ne (hm b _ q fun z => z), q]; simp⟩⟩
  by_cases hbe : b = e
  · subst hbe; exact heo
  · exact ⟨u, k b u hbe q⟩
end
def trk (h : Heap) (H : Hp) : List Addr := (List.range h.objs.size).filter fun a => (H a).isSome
def hidT (h : Heap) (H : Hp) : Heap := PySem.W.hideAll h (trk h H)
theorem hidT_size (h : Heap) (H : Hp) : (hidT h H).objs.size = h.objs.size := PySem.W.hideAll_size _ _
theorem hidT_get {h : Heap} {H : Hp} {b : Addr} {o : Obj} (e : h.get? b = some o) (n : H b = none) : (hidT h H).get? b = some o :=
  PySem.W.hideAll_get _ e fun hm => by
    have q : (H b).isSome = true := (List.mem_filter.mp hm).2
    rw [n] at q; simp at q
theorem of_hidT {h : Heap} {H : Hp} {b : Addr} {o : Obj} (e : (hidT h H).get? b = some o) : h.get? b = some o ∧ H b = none := by
  have e' : h.get? b = some o := PySem.W.of_hideAll (trk h H) e
  refine ⟨e', ?_⟩
  cases q : H b with
  | none => rfl
  | some x =>
    have hm : b ∈ trk h H := List.mem_filter.mpr ⟨List.mem_range.mpr (Heap.lt_size e'), by simp [q]⟩
    have z : (hidT h H).get? b = none := PySem.W.hideAll_none (trk h H) hm
    rw [z] at e; cases e
end L2
namespace L2
open PySem PySem.Spec PyProof.Rows
structure Mod (K : PySem.W.Frag) (mg : Str → Option Value) (base : Heap) : Prop where
  kin : K.In base
  glob : base.Ns mainGlobals mg
  blt : ∃ mb, base.Ns builtinsNs mb ∧ ∀ x : Str, x ≠ "__name__" → mb x = bootBuiltins x
  nolimit : base.NoLimit
structure Cx where
  prog : Program
  w : World
  K : PySem.W.Frag
  mg : Str → Option Value
  base : Heap
  A : Around
  N : List Str
  s_0 : Shared
  H_0 : Hp
  env : Env
  outer : List Env
  stack : List Env
  ex : List Addr
  fn : Str → Bool
  calm : Bool
  pn : List (Addr × Obj)
  xe : Value → Shared → Prop
def frs (l : List Env) : List Addr := l.filterMap (·.frame)
abbrev Cx.fs (X : Cx) : List Addr := frs X.outer
def Vis (sc : Scope) (x : Str) : Prop := sc.names.lookup x = some .local ∨ sc.names.lookup x = some .cell ∨ sc.names.lookup x = some .free
def Loc (sc : Scope) (x : Str) : Prop := sc.names.lookup x = some .local ∨ sc.names.lookup x = some .cell
def Look (env : Env) (h : Heap) (m : Str → Option Value) (x : Str) (u : Value) : Prop :=
  (env.kindOf x = some .local ∧ m x = some u) ∨ ((env.kindOf x = some .cell ∨ env.kindOf x = some .free) ∧ ∃ c, env.cells.lookup x = some c ∧ h.IsCell c (some u))
structure Cx.Ok (X : Cx) : Prop where
  mod : Mod X.K X.mg X.base
  kind : X.env.scope.kind = .function
  glob : X.env.globals = mainGlobals
  blt : X.env.builtins = builtinsNs
  above : X.s_0.heap.objs.size ≤ X.env.locals
  inj : ∀ x y c, X.env.cells.lookup x = some c → X.env.cells.lookup y = some c → x = y
  has : ∀ x, (X.env.kindOf x = some .cell ∨ X.env.kindOf x = some .free) → ∃ c, X.env.cells.lookup x = some c
  cab : ∀ x c, X.fn x = true → X.env.cells.lookup x = some c → X.s_0.heap.objs.size ≤ c
  hd : X.calm = true → X.A.handled = none
  frames : X.A.frames = some X.stack
  stk : X.stack = X.outer ∨ (X.stack = X.env :: X.outer ∧ X.env.frame = some X.env.locals)
  exf : ∀ b ∈ X.ex, b ≠ X.env.locals ∧ ∀ x c, X.env.cells.lookup x = some c → c ≠ b
  bs : ∀ b o, X.base.get? b = some o → X.s_0.heap.get? b = some o ∧ X.H_0 b = none
  bsz : X.base.objs.size ≤ X.s_0.heap.objs.size
  noex : ∀ b o, X.base.get? b = some o → b ∉ X.ex
  exfs : ∀ b ∈ X.ex, b ∉ X.fs
  funs : X.s_0.heap.FunFrames X.base X.outer
  frf : ∀ b ∈ X.fs, X.H_0 b = none
structure Inv (X : Cx) (pins : List (Addr × Obj)) (σ : List (Option V)) (H : Hp) (s : Shared) : Prop where
  ok : X.Ok
  os : s.os = X.s_0.os
  bare : AllBare s.gens
  base : Un X.fs X.ex X.H_0 H X.s_0.heap s.heap
  loc : ∃ m, s.heap.Ns X.env.locals m ∧ ∀ (i : Nat) (x : Str) (v : V), X.N[i]? = some x → σ[i]? = some (some v) → Vis X.env.scope x → ∃ u, RelV v u ∧ Look X.env s.heap m x u
  cell : ∀ x c, X.env.cells.lookup x = some c → ∃ v, s.heap.IsCell c v
  free : H X.env.locals = none
  freeC : ∀ x c, X.env.cells.lookup x = some c → H c = none
  pin : ∀ p ∈ X.pn ++ pins, s.heap.get? p.1 = some p.2 ∧ H p.1 = none ∧ p.1 ≠ X.env.locals ∧ p.1 ∉ X.fs ∧ ∀ v, p.2.data ≠ .cell v
  hok : HOk X.prog X.w H s.heap
  len : σ.length = X.N.length
section
variable {X : Cx} {pins : List (Addr × Obj)} {σ : List (Option V)} {H H' : Hp} {s : Shared} {h' : Heap}
theorem Cx.Ok.nofr (ok : X.Ok) {b : Addr} {o : Obj} (e : X.base.get? b = some o) : b ∉ X.fs := fun hb => by
  have := (ok.funs.mem hb).1
  rw [e] at this; cases this
theorem Inv.bs (I : Inv X pins σ H s) : ∀ b o, X.base.get? b = some o → s.heap.get? b = some o ∧ H b = none := fun b o e =>
  ⟨I.base.keep b o (I.ok.bs b o e).1 (I.ok.bs b o e).2 (I.ok.nofr e) (I.ok.noex b o e), I.base.free b o (I.ok.bs b o e).1 (I.ok.bs b o e).2 (I.ok.noex b o e)⟩
theorem Inv.bk (I : Inv X pins σ H s) : ∀ b o, X.base.get? b = some o → s.heap.get? b = some o := fun b o e => (I.bs b o e).1
theorem Inv.mod (I : Inv X pins σ H s) : Mod X.K X.mg X.base := I.ok.mod
theorem Inv.kIn (I : Inv X pins σ H s) : X.K.In s.heap := I.ok.mod.kin.keeps I.bk
theorem Inv.lt (I : Inv X pins σ H s) : X.env.locals < s.heap.objs.size := let ⟨_, hn, _⟩ := I.loc; hn.lt
theorem Inv.sz (I : Inv X pins σ H s) : X.s_0.heap.objs.size ≤ s.heap.objs.size := Nat.le_trans I.ok.above (Nat.le_of_lt I.lt)
theorem Inv.nofs (I : Inv X pins σ H s) {a : Addr} (h : s.heap.objs.size ≤ a) : a ∉ X.fs := fun hb => by
  obtain ⟨_, o, ho, _⟩ := I.ok.funs.mem hb
  exact absurd (Nat.lt_of_lt_of_le (Heap.lt_size ho) (Nat.le_trans I.sz h)) (Nat.lt_irrefl _)
theorem Inv.cne (I : Inv X pins σ H s) : ∀ x c, X.env.cells.lookup x = some c → c ≠ X.env.locals := fun x c e z => by
  obtain ⟨v, o, ho, hd⟩ := I.cell x c e
  obtain ⟨m, ⟨o', es, ep, ho', hd', _⟩, _⟩ := I.loc
  rw [z, ho'] at ho; cases ho; rw [hd'] at hd; cases hd
theorem Inv.funs (I : Inv X pins σ H s) : s.heap.FunFrames X.base X.outer := by
  have all : ∀ (l : List Env), (∀ b ∈ frs l, b ∈ X.fs) → X.s_0.heap.FunFrames X.base l → s.heap.FunFrames X.base l := by
    intro l
    induction l with
    | nil => intro _ _; trivial
    | cons env r ih =>
      intro hs hl
      obtain ⟨hk, ⟨L, o, hf, hn, ho, hd⟩, hr⟩ := hl
      have hL : L ∈ X.fs := hs L (by unfold frs; rw [List.filterMap_cons, hf]; exact List.mem_cons_self)
      obtain ⟨sl, e⟩ := I.base.slot L o ho (I.ok.frf L hL) hL fun z => I.ok.exfs L z hL
      exact ⟨hk, ⟨L, _, hf, hn, e, hd⟩, ih (fun b hb => hs b (by unfold frs; rw [List.filterMap_cons, hf]; exact List.mem_cons_of_mem _ hb)) hr⟩
  exact all X.outer (fun _ hb => hb) I.ok.funs
theorem Inv.stack (I : Inv X pins σ H s) : s.heap.FunFrames X.base X.stack := by
  rcases I.ok.stk with e | ⟨e, hf⟩
  · rw [e]; exact I.funs
  · rw [e]
    obtain ⟨m, hn, _⟩ := I.loc
    refine .cons (by rw [I.ok.kind]; decide) hf hn ?_ I.funs
    exact Heap.get?_none_of_le (Nat.le_trans I.ok.bsz I.ok.above)
theorem Inv.stkSub (I : Inv X pins σ H s) : ∀ b ∈ frs X.stack, b ∈ X.env.locals :: X.fs := fun b hb => by
  rcases I.ok.stk with e | ⟨e, hf⟩
  · rw [e] at hb; exact List.mem_cons_of_mem _ hb
  · rw [e] at hb
    unfold frs at hb
    rw [List.filterMap_cons, hf] at hb
    exact hb
theorem Inv.stkFree (I : Inv X pins σ H s) : ∀ b ∈ frs X.stack, H b = none := fun b hb => by
  rcases List.mem_cons.mp (I.stkSub b hb) with e | hb
  · rw [e]; exact I.free
  · obtain ⟨_, o, ho, _⟩ := I.ok.funs.mem hb
    exact I.base.free b o ho (I.ok.frf b hb) fun z => I.ok.exfs b z hb
theorem Inv.step {g' : Array GenState} {t' : Nat} {d' : Drawn} {ch : List Addr} (I : Inv X pins σ H s)
    (hch : ∀ b ∈ ch, (b ∈ X.ex ∨ X.s_0.heap.objs.size ≤ b) ∧ b ≠ X.env.locals ∧ (∀ x c, X.env.cells.lookup x = some c → c ≠ b) ∧ ∀ p ∈ X.pn ++ pins, p.1 ≠ b)
    (keep : ∀ b o, b ≠ X.env.locals → b ∉ X.fs → b ∉ ch → s.heap.get? b = some o → H b = none → h'.get? b = some o)
    (slot : ∀ b o, b ≠ X.env.locals → b ∈ X.fs → b ∉ ch → s.heap.get? b = some o → H b = none → ∃ sl, h'.get? b = some { o with slots := sl }) (free : ∀ b o, b ∉ ch → s.heap.get? b = some o → H b = none → H' b = none)
    (there : ∀ b o, b ∉ ch → s.heap.get? b = some o → ∃ o', h'.get? b = some o')
    (tups : ∀ b xs, H b = some (.tup xs) → H' b = some (.tup xs)) (frzs : ∀ b o u, H b = some (.frz o u) → H' b = some (.frz o u)) (tbls : ∀ b ps, H b = some (.tbl ps) → ∃ more, H' b = some (.tbl (ps ++ more)))
    (ns : ∀ m, s.heap.Ns X.env.locals m → h'.Ns X.env.locals m) (hok : HOk X.prog X.w H' h') (hg : AllBare g') :
    Inv X pins σ H' { s with heap := h', gens := g', drawn := d', toks := t' } := by
  have neL : ∀ b o, X.s_0.heap.get? b = some o → b ≠ X.env.locals := fun b o e => Nat.ne_of_lt (Nat.lt_of_lt_of_le (Heap.lt_size e) I.ok.above)
  have neC : ∀ b o, X.s_0.heap.get? b = some o → b ∉ X.ex → b ∉ ch := fun b o e hx hb => by
    rcases (hch b hb).1 with z | z
    · exact hx z
    · exact absurd (Nat.lt_of_lt_of_le (Heap.lt_size e) z) (Nat.lt_irrefl _)
  have cellK : ∀ x c, X.env.cells.lookup x = some c → ∀ v, s.heap.IsCell c v → h'.IsCell c v := fun x c e v ⟨o, ho, hd⟩ => by
    have nch : c ∉ ch := fun z => (hch c z).2.2.1 x c e rfl
    by_cases hc : c ∈ X.fs
    · obtain ⟨sl, q⟩ := slot c o (I.cne x c e) hc nch ho (I.freeC x c e)
      exact ⟨_, q, hd⟩
    · exact ⟨o, keep c o (I.cne x c e) hc nch ho (I.freeC x c e), hd⟩
  refine ⟨I.ok, I.os, hg, ⟨fun b o e n hb hx => ?_, fun b o e n hb hx => ?_, fun b o e n hx => ?_, fun b o e hx => ?_, fun b xs e => tups b xs (I.base.tups b xs e), fun b o xs e => frzs b o xs (I.base.frzs b o xs e), fun b ps e => ?_⟩, ?_, fun x c e => ?_, ?_, fun x c e => ?_, fun p hp => ?_, hok, I.len⟩
  · exact keep b o (neL b o e) hb (neC b o e hx) (I.base.keep b o e n hb hx) (I.base.free b o e n hx)
  · obtain ⟨sl, e1⟩ := I.base.slot b o e n hb hx
    obtain ⟨sl', e2⟩ := slot b _ (neL b o e) hb (neC b o e hx) e1 (I.base.free b o e n hx)
    exact ⟨sl', e2⟩
  · obtain ⟨o', e1⟩ := I.base.there b o e hx
    exact free b o' (neC b o e hx) e1 (I.base.free b o e n hx)
  · obtain ⟨o', e1⟩ := I.base.there b o e hx
    exact there b o' (neC b o e hx) e1
  · obtain ⟨m1, e1⟩ := I.base.tbls b ps e
    obtain ⟨m2, e2⟩ := tbls b _ e1
    exact ⟨m1 ++ m2, by rw [e2, Array.append_assoc]⟩
  · obtain ⟨m, hn, hl⟩ := I.loc
    refine ⟨m, ns m hn, fun i x v e1 e2 e3 => ?_⟩
    obtain ⟨u, r, l⟩ := hl i x v e1 e2 e3
    refine ⟨u, r, ?_⟩
    rcases l with l | ⟨k, c, e, z⟩
    · exact .inl l
    · exact .inr ⟨k, c, e, cellK x c e _ z⟩
  · obtain ⟨v, z⟩ := I.cell x c e
    exact ⟨v, cellK x c e v z⟩
  · obtain ⟨m, ⟨o, _, _, ho, _⟩, _⟩ := I.loc
    exact free _ o (fun z => (hch _ z).2.1 rfl) ho I.free
  · obtain ⟨v, o, ho, hd⟩ := I.cell x c e
    exact free c o (fun z => (hch c z).2.2.1 x c e rfl) ho (I.freeC x c e)
  · obtain ⟨e, n, ne, nf, d⟩ := I.pin p hp
    have nch : p.1 ∉ ch := fun z => (hch p.1 z).2.2.2 p hp rfl
    exact ⟨keep p.1 p.2 ne nf nch e n, free p.1 p.2 nch e n, ne, nf, d⟩
theorem Inv.un {t' : Nat} (I : Inv X pins σ H s) (u : Un X.fs [] H H' s.heap h') (hok : HOk X.prog X.w H' h') : Inv X pins σ H' { s with heap := h', toks := t' } := by
  obtain ⟨m, ⟨o, es, ep, ho, r⟩, _⟩ := id I.loc
  obtain ⟨sl, hL⟩ := u.any ho I.free (by simp)
  exact I.step (g' := s.gens) (d' := s.drawn) (ch := []) (fun _ z => nomatch z) (fun b o _ hb _ e n => u.keep b o e n hb (by simp)) (fun b o _ hb _ e n => u.slot b o e n hb (by simp)) (fun b o _ e n => u.free b o e n (by simp)) (fun b o _ e => u.there b o e (by simp)) u.tups u.frzs u.tbls (fun m' hm => by
    obtain ⟨o', es', ep', ho', r'⟩ := hm
    rw [ho] at ho'; cases ho'
    exact ⟨_, es', ep', hL, r'⟩) hok I.bare
theorem Inv.call {g' : Array GenState} {t' : Nat} {d' : Drawn} {ch : List Addr} (I : Inv X pins σ H s) (u : Un (frs X.stack) ch H H' s.heap h') (hok : HOk X.prog X.w H' h') (hg : AllBare g')
    (hch : ∀ b ∈ ch, (b ∈ X.ex ∨ X.s_0.heap.objs.size ≤ b) ∧ b ≠ X.env.locals ∧ (∀ x c, X.env.cells.lookup x = some c → c ≠ b) ∧ ∀ p ∈ X.pn ++ pins, p.1 ≠ b) :
    Inv X pins σ H' { s with heap := h', gens := g', drawn := d', toks := t' } := by
  obtain ⟨m, ⟨o, es, ep, ho, r⟩, _⟩ := id I.loc
  obtain ⟨sl, hL⟩ := u.any ho I.free fun z => (hch _ z).2.1 rfl
  exact I.step (ch := ch) hch (fun b o hL hb hc e n => u.keep b o e n (fun z => (List.mem_cons.mp (I.stkSub b z)).elim hL hb) hc) (fun b o _ _ hc e n => u.any e n hc) (fun b o hc e n => u.free b o e n hc) (fun b o hc e => u.there b o e hc) u.tups u.frzs u.tbls (fun m' hm => by
    obtain ⟨o', es', ep', ho', r'⟩ := hm
    rw [ho] at ho'; cases ho'
    exact ⟨_, es', ep', hL, r'⟩) hok hg
theorem Inv.turned {t' : Nat} {it : Addr} (I : Inv X pins σ H s) (k : ∀ b o, b ≠ it → s.heap.get? b = some o → h'.get? b = some o) (hn : H it = none) (hL : it ≠ X.env.locals)
    (h1 : it ∈ X.ex ∨ X.s_0.heap.objs.size ≤ it) (h2 : ∀ x c, X.env.cells.lookup x = some c → c ≠ it) (h3 : ∀ p ∈ X.pn ++ pins, p.1 ≠ it) : Inv X pins σ H { s with heap := h', toks := t' } := by
  have nit : ∀ b u, H b = some u → b ≠ it := fun b u e z => by rw [z, hn] at e; cases e
  refine I.step (g' := s.gens) (d' := s.drawn) (ch := [it]) (fun b hb => ?_) (fun b o _ _ hc e _ => k b o (fun z => hc (by simp [z])) e) (fun b o _ _ hc e _ => ⟨o.slots, k b o (fun z => hc (by simp [z])) e⟩) (fun _ _ _ _ n => n)
    (fun b o hc e => ⟨o, k b o (fun z => hc (by simp [z])) e⟩) (fun _ _ e => e) (fun _ _ _ e => e) (fun b ps e => ⟨#[], by rw [e]; simp⟩) (fun m hm => ?_) (fun b u e => ?_) I.bare
  · have e : b = it := by simpa using hb
    subst e
    exact ⟨h1, hL, h2, h3⟩
  · obtain ⟨o, es, ep, ho, r⟩ := hm
    exact ⟨o, es, ep, k _ o (Ne.symm hL) ho, r⟩
  · refine (I.hok b u e).stay (fun c v hc q => k c v ?_ q) (fun _ q => q) fun _ _ q => q
    rcases hc with z | z
    · rw [z]; exact nit b u e
    · exact nit c _ z
theorem Inv.tok (I : Inv X pins σ H s) (t : Nat) : Inv X pins σ H { s with toks := t } := I.un (h' := s.heap) (t' := t) Un.refl I.hok
theorem Inv.kept {t' : Nat} (I : Inv X pins σ H s) (k : ∀ b u, s.heap.get? b = some u → h'.get? b = some u) : Inv X pins σ H { s with heap := h', toks := t' } := I.un (Un.kept k) (I.hok.kept k)
theorem Inv.laid {a : Addr} {o : HO} {t' : Nat} (I : Inv X pins σ H s) (k : ∀ b u, s.heap.get? b = some u → h'.get? b = some u) (hp : s.heap.objs.size ≤ a) (new : ObjOk X.prog X.w (upd H a o) h' a o) :
    Inv X pins σ (upd H a o) { s with heap := h', toks := t' } := I.un (Un.laid k hp (I.hok.fresh hp)) (I.hok.laid k hp new)
theorem Inv.write {x e : Addr} {o : HO} {t' : Nat} (I : Inv X pins σ H s) (mu : Mut (H x)) (he : e = x ∨ H e = some (.own x)) (k : ∀ b u, b ≠ e → s.heap.get? b = some u → h'.get? b = some u) (heo : ∃ u, h'.get? e = some u)
    (new : ObjOk X.prog X.w (upd H x o) h' x o) : Inv X pins σ (upd H x o) { s with heap := h', toks := t' } := I.un (Un.write mu he k heo) (I.hok.write mu he k heo new)
theorem Inv.weak {σ' : List (Option V)} (I : Inv X pins σ H s) (hl : σ'.length = σ.length) (w : ∀ (i : Nat) v, σ'[i]? = some (some v) → σ[i]? = some (some v)) : Inv X pins σ' H s :=
  ⟨I.ok, I.os, I.bare, I.base, let ⟨m, hn, hl'⟩ := I.loc; ⟨m, hn, fun i x v e1 e2 e3 => hl' i x v e1 (w i v e2) e3⟩, I.cell, I.free, I.freeC, I.pin, I.hok, hl.trans I.len⟩
theorem Inv.pins_of {pins' : List (Addr × Obj)} (I : Inv X pins σ H s) (h : ∀ p ∈ pins', s.heap.get? p.1 = some p.2 ∧ H p.1 = none ∧ p.1 ≠ X.env.locals ∧ p.1 ∉ X.fs ∧ ∀ v, p.2.data ≠ .cell v) : Inv X pins' σ H s :=
  ⟨I.ok, I.os, I.bare, I.base, I.loc, I.cell, I.free, I.freeC, fun p hp => (List.mem_append.mp hp).elim (fun z => I.pin p (List.mem_append_left _ z)) (h p), I.hok, I.len⟩
theorem nodup_ix {N : List Str} (hN : N.Nodup) {i j : Nat} {x : Str} (a : N[i]? = some x) (b : N[j]? = some x) : i = j := by
  obtain ⟨h1, e1⟩ := List.getElem?_eq_some_iff.mp a
  obtain ⟨h2, e2⟩ := List.getElem?_eq_some_iff.mp b
  exact (List.getElem_inj hN).mp (e1.trans e2.symm)
theorem store_ok2 {M : Model} {A : Around} {E : Value → Shared → Prop} {i : Nat} {x : Str} {v : V} {u : Value} {Q : Unit → Shared → Prop} (I : Inv X pins σ H s) (hN : X.N.Nodup) (hi : X.N[i]? = some x) (hx : Loc X.env.scope x) (r : RelV v u)
    (h : ∀ s', Inv X pins (σ.set i (some v)) H s' → (∃ a, Heap.SameBut a s.heap s'.heap ∧ (a = X.env.locals ∨ X.env.cells.lookup x = some a)) → Q () s') (hf : X.fn x = true ∨ X.env.scope.names.lookup x = some .local := by first | exact .inl rfl | exact .inr rfl | assumption) : wpAny M A (storeName X.env x u) Q E s := by
  obtain ⟨m, hn, hl⟩ := id I.loc
  have hcls : (X.env.scope.kind == .class || (X.env.scope.kind == .module && X.env.locals != X.env.globals)) = false := by rw [I.ok.kind]; rfl
  have hiσ : i < σ.length := by rw [I.len]; exact (List.getElem?_eq_some_iff.mp hi).1
  have cne := I.cne
  have tracked : ∀ {a : Addr} {h' : Heap}, (∃ o, s.heap.get? a = some o ∧ H a = none) → Heap.SameBut a s.heap h' → HOk X.prog X.w H h' := fun {a h'} ha hs b ob e => by
    obtain ⟨_, _, hfree⟩ := ha
    refine (I.hok b ob e).stay (fun c w' hc q => (hs.2 c ?_).trans q) (fun _ q => q) fun _ _ q => q
    rintro rfl
    rcases hc with rfl | hc
    · rw [hfree] at e; cases e
    · rw [hfree] at hc; cases hc
  rcases hx with hk | hk
  · refine wpAny_storeName_local hk hn (fun h' hn' hs => ?_) hcls
    obtain ⟨oL, _, _, hoL, _⟩ := id hn
    refine h _ ⟨I.ok, I.os, I.bare, ⟨fun b o e n hb hx => ?_, fun b o e n hb hx => ?_, I.base.free, fun b o e hx => ?_, I.base.tups, I.base.frzs, I.base.tbls⟩, ⟨_, hn', fun j y v' e1 e2 e3 => ?_⟩, fun y c e => ?_, I.free, I.freeC, fun p hp => ?_, tracked ⟨oL, hoL, I.free⟩ hs, by simpa using I.len⟩ ⟨_, hs, .inl rfl⟩
    · exact (hs.2 b (Nat.ne_of_lt (Nat.lt_of_lt_of_le (Heap.lt_size e) I.ok.above))).trans (I.base.keep b o e n hb hx)
    · obtain ⟨sl, e1⟩ := I.base.slot b o e n hb hx
      exact ⟨sl, (hs.2 b (Nat.ne_of_lt (Nat.lt_of_lt_of_le (Heap.lt_size e) I.ok.above))).trans e1⟩
    · obtain ⟨o', e1⟩ := I.base.there b o e hx
      exact ⟨o', (hs.2 b (Nat.ne_of_lt (Nat.lt_of_lt_of_le (Heap.lt_size e) I.ok.above))).trans e1⟩
    · by_cases hj : j = i
      · subst hj
        rw [hi] at e1; cases e1
        rw [List.getElem?_set_self hiσ] at e2
        cases e2
        exact ⟨u, r, .inl ⟨hk, by simp⟩⟩
      · rw [List.getElem?_set_ne (Ne.symm hj)] at e2
        obtain ⟨u', r', q⟩ := hl j y v' e1 e2 e3
        refine ⟨u', r', ?_⟩
        rcases q with ⟨k, e⟩ | ⟨k, c, e, z⟩
        · refine .inl ⟨k, ?_⟩
          have : y ≠ x := fun e => hj (nodup_ix hN e1 (e ▸ hi))
          simp [this, e]
        · exact .inr ⟨k, c, e, z.sameBut hs (cne y c e)⟩
    · obtain ⟨w', z⟩ := I.cell y c e
      exact ⟨w', z.sameBut hs (cne y c e)⟩
    · obtain ⟨e, n, ne, nf, d⟩ := I.pin p hp
      exact ⟨(hs.2 p.1 ne).trans e, n, ne, nf, d⟩
  · have hfn : X.fn x = true := by
      rcases hf with z | z
      · exact z
      · rw [z] at hk; cases hk
    obtain ⟨c, hc⟩ := I.ok.has x (.inl hk)
    obtain ⟨w', z⟩ := I.cell x c hc
    refine wpAny_storeName_cell I.ok.kind hk hc z (fun h' hc' hs => ?_)
    obtain ⟨oc, hoc, hocd⟩ := id z
    refine h { s with heap := h' } ⟨I.ok, I.os, I.bare, ⟨fun b o e n hb hx => ?_, fun b o e n hb hx => ?_, I.base.free, fun b o e hx => ?_, I.base.tups, I.base.frzs, I.base.tbls⟩, ⟨m, hn.sameBut hs (Ne.symm (cne x c hc)), fun j y v' e1 e2 e3 => ?_⟩, fun y c' e => ?_, I.free, I.freeC, fun p hp => ?_, tracked ⟨oc, hoc, I.freeC x c hc⟩ hs, by simpa using I.len⟩ ⟨c, hs, .inr hc⟩
    · exact (hs.2 b (Nat.ne_of_lt (Nat.lt_of_lt_of_le (Heap.lt_size e) (I.ok.cab x c hfn hc)))).trans (I.base.keep b o e n hb hx)
    · obtain ⟨sl, e1⟩ := I.base.slot b o e n hb hx
      exact ⟨sl, (hs.2 b (Nat.ne_of_lt (Nat.lt_of_lt_of_le (Heap.lt_size e) (I.ok.cab x c hfn hc)))).trans e1⟩
    · obtain ⟨o', e1⟩ := I.base.there b o e hx
      exact ⟨o', (hs.2 b (Nat.ne_of_lt (Nat.lt_of_lt_of_le (Heap.lt_size e) (I.ok.cab x c hfn hc)))).trans e1⟩
    · by_cases hj : j = i
      · subst hj
        rw [hi] at e1; cases e1
        rw [List.getElem?_set_self hiσ] at e2
        cases e2
        exact ⟨u, r, .inr ⟨.inl hk, c, hc, hc'⟩⟩
      · rw [List.getElem?_set_ne (Ne.symm hj)] at e2
        obtain ⟨u', r', q⟩ := hl j y v' e1 e2 e3
        refine ⟨u', r', ?_⟩
        rcases q with q | ⟨k, c', e, z'⟩
        · exact .inl q
        · refine .inr ⟨k, c', e, z'.sameBut hs ?_⟩
          rintro rfl
          exact hj (nodup_ix hN e1 (I.ok.inj _ _ _ e hc ▸ hi))
    · by_cases hcc : c' = c
      · subst hcc; exact ⟨_, hc'⟩
      · obtain ⟨w2, z2⟩ := I.cell y c' e
        exact ⟨w2, z2.sameBut hs hcc⟩
    · obtain ⟨e, n, ne, nf, d⟩ := I.pin p hp
      refine ⟨(hs.2 p.1 ?_).trans e, n, ne, nf, d⟩
      intro q
      rw [q, hoc] at e
      have q' : oc = p.2 := Option.some.inj e
      exact d w' (by rw [← q']; exact hocd)
theorem store_ok {M : Model} {A : Around} {E : Value → Shared → Prop} {i : Nat} {x : Str} {v : V} {u : Value} {Q : Unit → Shared → Prop} (I : Inv X pins σ H s) (hN : X.N.Nodup) (hi : X.N[i]? = some x) (hx : Loc X.env.scope x) (r : RelV v u)
    (h : ∀ s', Inv X pins (σ.set i (some v)) H s' → Q () s') (hf : X.fn x = true ∨ X.env.scope.names.lookup x = some .local := by first | exact .inl rfl | exact .inr rfl | assumption) : wpAny M A (storeName X.env x u) Q E s :=
  store_ok2 I hN hi hx r (fun s' I' _ => h s' I') hf
theorem Inv.call' {s' : Shared} {ch : List Addr} (I : Inv X pins σ H s) (ho : s'.os = s.os) (u : Un (frs X.stack) ch H H' s.heap s'.heap) (hok : HOk X.prog X.w H' s'.heap) (hg : AllBare s'.gens)
    (hch : ∀ b ∈ ch, (b ∈ X.ex ∨ X.s_0.heap.objs.size ≤ b) ∧ b ≠ X.env.locals ∧ (∀ x c, X.env.cells.lookup x = some c → c ≠ b) ∧ ∀ p ∈ X.pn ++ pins, p.1 ≠ b) : Inv X pins σ H' s' := by
  obtain ⟨h', g', d', t', o'⟩ := s'
  have e : o' = s.os := ho
  subst e
  exact I.call (g' := g') (t' := t') (d' := d') u hok hg hch
end
abbrev XK := Value → Option Addr → Hp → Prop
abbrev St := List (Option V)
abbrev VK := V → Hp → Prop
abbrev TE := St → Hp → VK → Prop
abbrev TT := St → Hp → (Bool → Hp → Prop) → Prop
abbrev TA := St → Hp → (List V → Hp → Prop) → Prop
structure Ends where
  nx : St → Hp → Prop
  rt : VK
  bk : St → Hp → Prop := fun _ _ => False
  ct : St → Hp → Prop := fun _ _ => False
abbrev TS := Ends → St → Hp → Prop
def EP (X : Cx) (pins : List (Addr × Obj)) (σ : St) (Q : VK) (u : Value) (s' : Shared) : Prop := ∃ v H', Inv X pins σ H' s' ∧ RelV v u ∧ Q v H'
def TP (X : Cx) (pins : List (Addr × Obj)) (σ : St) (Q : Bool → Hp → Prop) (b : Bool) (s' : Shared) : Prop := ∃ H', Inv X pins σ H' s' ∧ Q b H'
def AP (X : Cx) (pins : List (Addr × Obj)) (σ : St) (Q : List V → Hp → Prop) (us : List Value) (s' : Shared) : Prop := ∃ vs H', Inv X pins σ H' s' ∧ Vals vs us ∧ Q vs H'
def SP (X : Cx) (pins : List (Addr × Obj)) (D : Ends) (f : Flow) (s' : Shared) : Prop :=
  match f with
  | .next => ∃ σ' H', Inv X pins σ' H' s' ∧ D.nx σ' H'
  | .brk => ∃ σ' H', Inv X pins σ' H' s' ∧ D.bk σ' H'
  | .cont => ∃ σ' H', Inv X pins σ' H' s' ∧ D.ct σ' H'
  | .ret u => ∃ v σ' H', Inv X pins σ' H' s' ∧ RelV v u ∧ D.rt v H'
def PE (X : Cx) (e : Expr) (t : TE) : Prop :=
  ∀ (pins : List (Addr × Obj)) (s : Shared) (σ : St) (H : Hp) (Q : VK), Inv X pins σ H s → t σ H Q → wpAny (model X.prog X.w) X.A (eval e X.env) (EP X pins σ Q) X.xe s
def PT (X : Cx) (e : Expr) (t : TT) : Prop :=
  ∀ (pins : List (Addr × Obj)) (s : Shared) (σ : St) (H : Hp) (Q : Bool → Hp → Prop), Inv X pins σ H s → t σ H Q → wpAny (model X.prog X.w) X.A (isTrue e X.env (eval e X.env)) (TP X pins σ Q) X.xe s
def PW (X : Cx) (e : Expr) (t : TT) : Prop :=
  ∀ (whole : Sem Value) (pins : List (Addr × Obj)) (s : Shared) (σ : St) (H : Hp) (Q : Bool → Hp → Prop), Inv X pins σ H s → t σ H Q → wpAny (model X.prog X.w) X.A (isTrue e X.env whole) (TP X pins σ Q) X.xe s
theorem PW.pt {X : Cx} {e : Expr} {t : TT} (h : PW X e t) : PT X e t := h _
def PA (X : Cx) (es : List Expr) (t : TA) : Prop :=
  ∀ (pos : Pos) (pins : List (Addr × Obj)) (s : Shared) (σ : St) (H : Hp) (Q : List V → Hp → Prop), Inv X pins σ H s → t σ H Q → wpAny (model X.prog X.w) X.A (spliced (backTo pos (starEach es X.env))) (AP X pins σ Q) X.xe s
def PS (X : Cx) (st : Stmt) (t : TS) : Prop :=
  ∀ (pins : List (Addr × Obj)) (s : Shared) (σ : St) (H : Hp) (D : Ends), Inv X pins σ H s → t D σ H → wpAny (model X.prog X.w) X.A (exec st X.env) (SP X pins D) X.xe s
def PSs (X : Cx) (st : List Stmt) (t : TS) : Prop :=
  ∀ (pins : List (Addr × Obj)) (s : Shared) (σ : St) (H : Hp) (D : Ends), Inv X pins σ H s → t D σ H → wpAny (model X.prog X.w) X.A (execs st X.env) (SP X pins D) X.xe s
theorem thn {α : Type} {t : Sem α} {Q Q' : α → Shared → Prop} {M : Model} {A : Around} {E : Value → Shared → Prop} {s : Shared} (h : wpAny M A t Q E s) (hQ : ∀ a s, Q a s → Q' a s) : wpAny M A t Q' E s := wpAny_mono h hQ fun _ _ x => x
end L2
namespace L2
open PySem PySem.Spec PyProof.Rows
section
variable {X : Cx}
def tVar (i : Nat) : TE := fun σ H Q => ∃ v, σ[i]? = some (some v) ∧ Q v H
def tC (v : V) : TE := fun _ H Q => Q v H
theorem pe_var {i : Nat} {x : Str} {pos : Pos} (hN : X.N[i]? = some x) (hv : Vis X.env.scope x) (hd : (x == ("__debug__" : Str)) = false := by decide) (hcd : (x == ("__classdict__" : Str)) = false := by decide) : PE X (.Name x pos) (tVar i) := by
  intro pins s σ H Q I h
  obtain ⟨v, e, h⟩ := h
  obtain ⟨m, hn, hl⟩ := I.loc
  obtain ⟨u, r, l⟩ := hl i x v hN e hv
  have fin : EP X pins σ Q u s := ⟨v, H, I, r, h⟩
  rcases l with ⟨hk, hm⟩ | ⟨hk, c, hc, hcell⟩
  · exact wpAny_Name (wpAny_loadName_local I.ok.kind hk hn hm fin) hd
  · rcases hk with hk | hk
    · exact wpAny_Name (wpAny_loadName_cell I.ok.kind hk hc hcell fin) hd
    · exact wpAny_Name (wpAny_loadName_free I.ok.kind hk hc hcell fin hcd) hd
theorem pe_int {i j pos} : PE X (.Constant (.int i) j pos) (tC (.int i)) := fun _ _ _ H _ I h => wpAny_Constant_int ⟨.int i, H, I.tok _, ⟨_, rfl⟩, h⟩
theorem pe_bl {b j pos} : PE X (.Constant (.bool b) j pos) (tC (.bl b)) := fun _ _ _ H _ I h => Constant_bool ⟨.bl b, H, I, rfl, h⟩
theorem pe_non {j pos} : PE X (.Constant .none j pos) (tC .non) := fun _ _ _ H _ I h => Constant_none ⟨.non, H, I, rfl, h⟩
def Gl (X : Cx) (x : Str) : Prop := X.env.kindOf x = some .globalImplicit
theorem ld_glob {E : Value → Shared → Prop} {pins : List (Addr × Obj)} {s : Shared} {σ : St} {H : Hp} {x : Str} {u : Value} {pos : Pos} {Q : Value → Shared → Prop} (I : Inv X pins σ H s) (hg : Gl X x) (hm : X.mg x = some u) (h : Q u s)
    (hd : (x == ("__debug__" : Str)) = false := by decide) : wpAny (model X.prog X.w) X.A (eval (.Name x pos) X.env) Q E s :=
  Calls.Name_function_global I.ok.kind hg (Calls.loadGlobal_global (by rw [I.ok.glob]; exact I.mod.glob.keeps I.bk) hm h) hd
theorem ld_blt {E : Value → Shared → Prop} {pins : List (Addr × Obj)} {s : Shared} {σ : St} {H : Hp} {x : Str} {u : Value} {pos : Pos} {Q : Value → Shared → Prop} (I : Inv X pins σ H s) (hg : Gl X x) (hm : X.mg x = none) (hv : bootBuiltins x = some u) (h : Q u s)
    (hn : x ≠ "__name__" := by decide) (hd : (x == ("__debug__" : Str)) = false := by decide) : wpAny (model X.prog X.w) X.A (eval (.Name x pos) X.env) Q E s := by
  obtain ⟨mb, h1, h2⟩ := I.mod.blt
  exact Calls.Name_function_global I.ok.kind hg (Calls.loadGlobal_builtin (by rw [I.ok.glob]; exact I.mod.glob.keeps I.bk) hm (by rw [I.ok.blt]; exact h1.keeps I.bk) ((h2 x hn).trans hv) h) hd
theorem pe_glob {x : Str} {v : V} {u : Value} {pos : Pos} (hg : Gl X x) (hm : X.mg x = some u) (r : RelV v u) (hd : (x == ("__debug__" : Str)) = false := by decide) : PE X (.Name x pos) (tC v) :=
  fun _ _ _ H _ I h => ld_glob I hg hm ⟨v, H, I, r, h⟩ hd
variable {a b : Expr} {ta tb : TE} {pos : Pos}
def PC (X : Cx) (op : CmpOp) (a b : Expr) (t : TE) : Prop :=
  ∀ (pins : List (Addr × Obj)) (s : Shared) (σ : St) (H : Hp) (Q : VK), Inv X pins σ H s → t σ H Q →
    wpAny (model X.prog X.w) X.A (eval a X.env) (fun v s₁ => wpAny (model X.prog X.w) X.A (eval b X.env) (fun u s₂ => wpAny (model X.prog X.w) X.A (compareOp op v u) (EP X pins σ Q) X.xe s₂) X.xe s₁) X.xe s
theorem nobehind (b : Expr) {op : CmpOp} (h : op ≠ .In) (h2 : op ≠ .NotIn) : behindInMarks op b = false := by
  have e1 : (op == CmpOp.In) = false := by cases op <;> first | rfl | exact absurd rfl h
  have e2 : (op == CmpOp.NotIn) = false := by cases op <;> first | rfl | exact absurd rfl h2
  cases b <;> simp [behindInMarks, e1, e2]
def tIsN (ta : TE) : TE := fun σ H Q => ta σ H fun x H1 => Q (.bl (decide (x = .non))) H1
def tNotN (ta : TE) : TE := fun σ H Q => ta σ H fun x H1 => Q (.bl (!decide (x = .non))) H1
theorem RelV.none_iff {x : V} {v : Value} (r : RelV x v) : (v == Value.none) = decide (x = .non) := by
  cases x with
  | non => cases r; rfl
  | bl _ => cases r; rfl
  | int _ => obtain ⟨t, rfl⟩ := r; rfl
  | str _ => obtain ⟨t, rfl⟩ := r; rfl
  | byt _ => obtain ⟨t, rfl⟩ := r; rfl
  | flt _ => obtain ⟨t, rfl⟩ := r; rfl
  | ref _ => cases r; rfl
  | ty _ => cases r; rfl
theorem pc_isN {j pos'} (ha : PE X a ta) : PC X .Is a (.Constant .none j pos') (tIsN ta) := by
  intro pins s σ H Q I h
  refine thn (ha pins s σ H _ I h) fun v s1 ⟨x, H1, I1, r1, q1⟩ => ?_
  exact Constant_none (is_none_gen ⟨.bl _, H1, I1, by rw [r1.none_iff]; rfl, q1⟩)
theorem pc_notN {j pos'} (ha : PE X a ta) : PC X .IsNot a (.Constant .none j pos') (tNotN ta) := by
  intro pins s σ H Q I h
  refine thn (ha pins s σ H _ I h) fun v s1 ⟨x, H1, I1, r1, q1⟩ => ?_
  exact Constant_none (isnot_none_gen ⟨.bl _, H1, I1, by rw [r1.none_iff]; rfl, q1⟩)
def tB (t : TE) : TT := fun σ H Q => t σ H fun x H1 => ∃ c, x = .bl c ∧ Q c H1
theorem pe_cmp {op : CmpOp} {t : TE} (h : PC X op a b t) (h1 : behindInMarks op b = false := by first | exact nobehind _ (by decide) (by decide) | rfl) : PE X (.Compare a [op] [b] pos) t := fun pins s σ H Q I hw => wpAny_Compare1 (h pins s σ H Q I hw) h1
theorem pt_cmp {op : CmpOp} {t : TE} (h : PC X op a b t) (h1 : behindInMarks op b = false := by first | exact nobehind _ (by decide) (by decide) | rfl) : PT X (.Compare a [op] [b] pos) (tB t) := by
  intro pins s σ H Q I hw
  refine wpAny_isTrue_Compare1 (thn (h pins s σ H _ I hw) fun v s1 h1 => thn h1 fun u s2 h2 => thn h2 fun c s3 ⟨x, H1, I1, r1, q1⟩ => ?_) h1
  obtain ⟨d, rfl, q⟩ := q1
  cases r1
  exact wpAny_truthy_bool ⟨H1, I1, q⟩
theorem pt_val {e : Expr} {t : TE} (h : PE X e t) (he : ∀ whole, isTrue e X.env whole = (do let v ← whole; standAt e.pos; holding [v] (truthy v)) := by intro _; rfl) : PT X e (tB t) := by
  intro pins s σ H Q I hw
  refine isTrue_plain (thn (h pins s σ H _ I hw) fun v s1 ⟨x, H1, I1, r1, q1⟩ => ?_) (he _)
  obtain ⟨d, rfl, q⟩ := q1
  cases r1
  exact wpAny_truthy_bool ⟨H1, I1, q⟩
variable {tA tB' : TT} {rest : List Expr}
def tAnd (t u : TT) : TT := fun σ H Q => t σ H fun c H1 => if c = true then u σ H1 Q else Q false H1
def tOr (t u : TT) : TT := fun σ H Q => t σ H fun c H1 => if c = true then Q true H1 else u σ H1 Q
def tNot (t : TT) : TT := fun σ H Q => t σ H fun c H1 => Q (!c) H1
theorem pw_and1 (ha : PT X a tA) : PW X (.BoolOp .And [a] pos) tA := by
  intro wh pins s σ H Q I h
  refine isTrue_and (thn (ha pins s σ H Q I h) fun c s1 e => ?_)
  cases c with
  | true => exact isTrue_and_nil e
  | false => exact e
theorem pw_or1 (ha : PT X a tA) : PW X (.BoolOp .Or [a] pos) tA := by
  intro wh pins s σ H Q I h
  refine isTrue_or (thn (ha pins s σ H Q I h) fun c s1 e => ?_)
  cases c with
  | false => exact isTrue_or_nil e
  | true => exact e
theorem pw_and (ha : PT X a tA) (hb : PW X (.BoolOp .And (b :: rest) pos) tB') : PW X (.BoolOp .And (a :: b :: rest) pos) (tAnd tA tB') := by
  intro wh pins s σ H Q I h
  refine isTrue_and (thn (ha pins s σ H _ I h) fun c s1 ⟨H1, I1, q1⟩ => ?_)
  cases c with
  | true => exact hb wh pins s1 σ H1 Q I1 q1
  | false => exact ⟨H1, I1, q1⟩
theorem pw_or (ha : PT X a tA) (hb : PW X (.BoolOp .Or (b :: rest) pos) tB') : PW X (.BoolOp .Or (a :: b :: rest) pos) (tOr tA tB') := by
  intro wh pins s σ H Q I h
  refine isTrue_or (thn (ha pins s σ H _ I h) fun c s1 ⟨H1, I1, q1⟩ => ?_)
  cases c with
  | true => exact ⟨H1, I1, q1⟩
  | false => exact hb wh pins s1 σ H1 Q I1 q1
theorem pt_not (ha : PT X a tA) : PT X (.UnaryOp .Not a pos) (tNot tA) := by
  intro pins s σ H Q I h
  exact isTrue_not (ha pins s σ H (fun c H1 => Q (!c) H1) I h)
def tIf (t : TT) (ta tb : TE) : TE := fun σ H Q => t σ H fun c H1 => if c = true then ta σ H1 Q else tb σ H1 Q
theorem pe_ifExp {c : Expr} (hc : PT X c tA) (ha : PE X a ta) (hb : PE X b tb) : PE X (.IfExp c a b pos) (tIf tA ta tb) := by
  intro pins s σ H Q I h
  refine wpAny_IfExp (thn (hc pins s σ H _ I h) fun d s1 ⟨H1, I1, q1⟩ => ?_)
  cases d with
  | true => exact ha pins s1 σ H1 Q I1 q1
  | false => exact hb pins s1 σ H1 Q I1 q1
end
end L2
namespace L2
open PySem PySem.Spec PyProof.Rows
def SqL (K : PySem.W.Frag) (H : Hp) (a : Addr) (xs : List V) : Prop :=
  Rd H a (.lst xs) ∨
    ∃ (o : Obj) (its : Array Value) (n : Nat), K.lookup a = some o ∧ o.cls = .type "list" ∧ o.dict = none ∧ o.data = .seq its n ∧ its.size ≤ sizeLine ∧ Vals xs its.toList
def SqT (K : PySem.W.Frag) (H : Hp) (a : Addr) (xs : List V) : Prop :=
  Rd H a (.tup xs) ∨
    ∃ (o : Obj) (its : Array Value) (n : Nat), K.lookup a = some o ∧ o.cls = .type "tuple" ∧ o.data = .seq its n ∧ its.size ≤ sizeLine ∧ Vals xs its.toList
def absV : Value → Option V
  | .none => some .non
  | .bool b => some (.bl b)
  | .int i _ => some (.int i)
  | .str x _ => some (.str x)
  | .bytes b _ => some (.byt b)
  | .float b _ => some (.flt b)
  | .ref a => some (.ref a)
  | .type n => some (.ty n)
  | _ => none
theorem RelV.abs {x : V} {u : Value} (r : RelV x u) : absV u = some x := by
  cases x with
  | non => cases r; rfl
  | bl _ => cases r; rfl
  | int _ => obtain ⟨t, rfl⟩ := r; rfl
  | str _ => obtain ⟨t, rfl⟩ := r; rfl
  | byt _ => obtain ⟨t, rfl⟩ := r; rfl
  | flt _ => obtain ⟨t, rfl⟩ := r; rfl
  | ref _ => cases r; rfl
  | ty _ => cases r; rfl
theorem RelV.inj {x y : V} {u : Value} (r : RelV x u) (q : RelV y u) : x = y := Option.some.inj (r.abs.symm.trans q.abs)
theorem Vals.inj : ∀ {xs ys : List V} {us : List Value}, Vals xs us → Vals ys us → xs = ys
  | _, _, _, .nil, .nil => rfl
  | _, _, _, .cons r t, .cons r' t' => by rw [r.inj r', Vals.inj t t']
section
variable {X : Cx} {pins : List (Addr × Obj)} {σ : St} {H : Hp} {s : Shared} {a : Addr} {xs ys : List V}
theorem SqL.of {K : PySem.W.Frag} (h : H a = some (.lst xs)) : SqL K H a xs := .inl (.inl h)
theorem SqT.of {K : PySem.W.Frag} (h : H a = some (.tup xs)) : SqT K H a xs := .inl (.inl h)
theorem Inv.list (I : Inv X pins σ H s) (h : SqL X.K H a xs) : ∃ its : List Value, Vals xs its ∧ PlainL s.heap a its.toArray ∧ xs.length ≤ sizeLine := by
  rcases h with h | ⟨o, its, n, hk, hc, hd, hs, hz, r⟩
  · obtain ⟨z, its, n, r, e⟩ := h.ok I.hok
    exact ⟨its, r, ⟨_, n, e, rfl, rfl, rfl⟩, z⟩
  · refine ⟨its.toList, r, ⟨o, n, I.kIn a o hk, hc, hd, by simpa using hs⟩, ?_⟩
    have e := r.length
    simp only [Array.length_toList] at e
    omega
theorem Inv.tuple (I : Inv X pins σ H s) (h : SqT X.K H a xs) : ∃ its : List Value, Vals xs its ∧ IsTup s.heap a its.toArray ∧ xs.length ≤ sizeLine := by
  rcases h with h | ⟨o, its, n, hk, hc, hs, hz, r⟩
  · obtain ⟨z, its, r, p⟩ := h.ok I.hok
    exact ⟨its, r, p, z⟩
  · refine ⟨its.toList, r, ⟨o, I.kIn a o hk, hc, n, by simpa using hs⟩, ?_⟩
    have e := r.length
    simp only [Array.length_toList] at e
    omega
theorem Inv.list_inj (I : Inv X pins σ H s) (h : SqL X.K H a xs) (h' : SqL X.K H a ys) : xs = ys := by
  obtain ⟨its, r, ⟨o, n, e, _, _, d⟩, _⟩ := I.list h
  obtain ⟨its', r', ⟨o', n', e', _, _, d'⟩, _⟩ := I.list h'
  rw [e] at e'; cases e'
  rw [d] at d'
  injection d' with d1 _
  have : its = its' := by simpa using congrArg Array.toList d1
  subst this
  exact r.inj r'
theorem Inv.tuple_inj (I : Inv X pins σ H s) (h : SqT X.K H a xs) (h' : SqT X.K H a ys) : xs = ys := by
  obtain ⟨its, r, ⟨o, e, _, n, d⟩, _⟩ := I.tuple h
  obtain ⟨its', r', ⟨o', e', _, n', d'⟩, _⟩ := I.tuple h'
  rw [e] at e'; cases e'
  rw [d] at d'
  injection d' with d1 _
  have : its = its' := by simpa using congrArg Array.toList d1
  subst this
  exact r.inj r'
end
abbrev Cx.wish (X : Cx) (E : Value → Shared → Prop) : Cx := { X with xe := E }
abbrev Cx.nox (X : Cx) : Cx := X.wish fun _ _ => False
theorem Cx.Ok.wish {X : Cx} (ok : X.Ok) (E : Value → Shared → Prop) : (X.wish E).Ok :=
  ⟨ok.mod, ok.kind, ok.glob, ok.blt, ok.above, ok.inj, ok.has, ok.cab, ok.hd, ok.frames, ok.stk, ok.exf, ok.bs, ok.bsz, ok.noex, ok.exfs, ok.funs, ok.frf⟩
theorem Cx.Ok.unwish {X : Cx} {E : Value → Shared → Prop} (ok : (X.wish E).Ok) : X.Ok :=
  ⟨ok.mod, ok.kind, ok.glob, ok.blt, ok.above, ok.inj, ok.has, ok.cab, ok.hd, ok.frames, ok.stk, ok.exf, ok.bs, ok.bsz, ok.noex, ok.exfs, ok.funs, ok.frf⟩
section
variable {X : Cx} {pins : List (Addr × Obj)} {σ : St} {H : Hp} {s : Shared} {E : Value → Shared → Prop}
theorem Inv.wish (I : Inv X pins σ H s) (E : Value → Shared → Prop) : Inv (X.wish E) pins σ H s := ⟨I.ok.wish E, I.os, I.bare, I.base, I.loc, I.cell, I.free, I.freeC, I.pin, I.hok, I.len⟩
theorem Inv.unwish (I : Inv (X.wish E) pins σ H s) : Inv X pins σ H s := ⟨I.ok.unwish, I.os, I.bare, I.base, I.loc, I.cell, I.free, I.freeC, I.pin, I.hok, I.len⟩
theorem SP.unwish {D : Ends} {f : Flow} {s' : Shared} (h : SP (X.wish E) pins D f s') : SP X pins D f s' := by
  cases f with
  | next => obtain ⟨σ', H', I, q⟩ := h; exact ⟨σ', H', I.unwish, q⟩
  | brk => obtain ⟨σ', H', I, q⟩ := h; exact ⟨σ', H', I.unwish, q⟩
  | cont => obtain ⟨σ', H', I, q⟩ := h; exact ⟨σ', H', I.unwish, q⟩
  | ret u => obtain ⟨v, σ', H', I, r, q⟩ := h; exact ⟨v, σ', H', I.unwish, r, q⟩
theorem PSs.nox {st : List Stmt} {t : TS} (h : PSs X.nox st t) : PSs X st t := fun pins s σ H D I hw =>
  wpAny_mono (h pins s σ H D (I.wish _) hw) (fun _ _ q => q.unwish) fun _ _ z => False.elim z
end
section
variable {X : Cx} {st : Stmt} {rest : List Stmt} {t u : TS} {e : Expr} {te : TE} {pos : Pos}
def tNext : TS := fun D σ H => D.nx σ H
def tSeq (t u : TS) : TS := fun D σ H => t { D with nx := u D } σ H
theorem pss_nil : PSs X [] tNext := fun _ _ σ H _ I h => wpAny_execs_nil ⟨σ, H, I, h⟩
theorem pss_cons (h1 : PS X st t) (h2 : PSs X rest u) : PSs X (st :: rest) (tSeq t u) := by
  intro pins s σ H D I h
  refine wpAny_execs_cons (thn (h1 pins s σ H { D with nx := u D } I h) fun f s1 q => ?_)
  cases f with
  | next =>
    obtain ⟨σ', H', I', q⟩ := q
    exact h2 pins s1 σ' H' D I' q
  | ret v => exact q
  | brk => exact q
  | cont => exact q
theorem pss_one (h1 : PS X st t) : PSs X [st] t := by
  intro pins s σ H D I h
  refine wpAny_execs_cons (thn (h1 pins s σ H D I h) fun f s1 q => ?_)
  cases f with
  | next => exact wpAny_execs_nil q
  | ret v => exact q
  | brk => exact q
  | cont => exact q
theorem Inv.quiet {pins : List (Addr × Obj)} {σ : St} {H : Hp} {s : Shared} (I : Inv X pins σ H s) : interactive X.env = false := by simp [interactive, I.ok.kind]
def tDrop (te : TE) : TS := fun D σ H => te σ H fun _ H1 => D.nx σ H1
theorem ps_expr (he : PE X e te) (hs : swapsWith e none pos.line X.env = pure false := by rfl) : PS X (.Expr e pos) (tDrop te) := by
  intro pins s σ H D I h
  exact wpAny_Expr_any (thn (he pins s σ H _ I h) fun v s1 ⟨x, H1, I1, r1, q1⟩ => ⟨σ, H1, I1, q1⟩) I.quiet hs
def tRet (te : TE) : TS := fun D σ H => te σ H D.rt
theorem ps_ret (he : PE X e te) : PS X (.Return (some e) pos) (tRet te) := by
  intro pins s σ H D I h
  exact wpAny_Return_some (thn (he pins s σ H _ I h) fun v s1 ⟨x, H1, I1, r1, q1⟩ => ⟨x, σ, H1, I1, r1, q1⟩)
def tRetN : TS := fun D _ H => D.rt .non H
theorem ps_retN : PS X (.Return none pos) tRetN := fun _ _ σ H _ I h => wpAny_Return_none ⟨.non, σ, H, I, rfl, h⟩
def tIfS (c : TT) (t u : TS) : TS := fun D σ H => c σ H fun b H1 => if b = true then t D σ H1 else u D σ H1
theorem ps_if {c : Expr} {a b : List Stmt} {tc : TT} (hc : PT X c tc) (ha : PSs X a t) (hb : PSs X b u) : PS X (.If c a b pos) (tIfS tc t u) := by
  intro pins s σ H D I h
  refine wpAny_If (thn (hc pins s σ H _ I h) fun d s1 ⟨H1, I1, q1⟩ => ?_)
  cases d with
  | true => exact ha pins s1 σ H1 D I1 q1
  | false => exact hb pins s1 σ H1 D I1 q1
end
abbrev TG := V → St → Hp → (St → Hp → Prop) → Prop
abbrev TGs := List V → St → Hp → (St → Hp → Prop) → Prop
def PG (X : Cx) (target : Expr) (t : TG) : Prop :=
  ∀ (pins : List (Addr × Obj)) (s : Shared) (σ : St) (H : Hp) (v : V) (u : Value) (Q : St → Hp → Prop), Inv X pins σ H s → RelV v u → t v σ H Q →
    wpAny (model X.prog X.w) X.A (assign target X.env u) (fun _ s' => ∃ σ' H', Inv X pins σ' H' s' ∧ Q σ' H') X.xe s
def PGs (X : Cx) (ts : List Expr) (t : TGs) : Prop :=
  ∀ (pins : List (Addr × Obj)) (s : Shared) (σ : St) (H : Hp) (vs : List V) (us : List Value) (Q : St → Hp → Prop), Inv X pins σ H s → Vals vs us → t vs σ H Q →
    wpAny (model X.prog X.w) X.A (assignInOrder ((assignEach ts X.env).map (·.2)) us) (fun _ s' => ∃ σ' H', Inv X pins σ' H' s' ∧ Q σ' H') X.xe s
abbrev TSet := V → V → V → Hp → (Hp → Prop) → Prop
def PSet (X : Cx) (t : TSet) : Prop :=
  ∀ (pins : List (Addr × Obj)) (s : Shared) (σ : St) (H : Hp) (o i v : V) (ov iv u : Value) (Q : Hp → Prop), Inv X pins σ H s → RelV o ov → RelV i iv → RelV v u → t o i v H Q →
    wpAny (model X.prog X.w) X.A (setItem ov iv u) (fun _ s' => ∃ H', Inv X pins σ H' s' ∧ Q H') X.xe s
abbrev TIp := V → V → Hp → VK → Prop
def PIp (X : Cx) (op : Operator) (t : TIp) : Prop :=
  ∀ (pins : List (Addr × Obj)) (s : Shared) (σ : St) (H : Hp) (x y : V) (v u : Value) (Q : VK), Inv X pins σ H s → RelV x v → RelV y u → t x y H Q →
    wpAny (model X.prog X.w) X.A (inplaceOp op v u) (EP X pins σ Q) X.xe s
section
variable {X : Cx} {pos : Pos}
def gName (i : Nat) : TG := fun v σ H Q => Q (σ.set i (some v)) H
theorem pg_name {i : Nat} {x : Str} (hN : X.N.Nodup) (hi : X.N[i]? = some x) (hx : Loc X.env.scope x) (hf : X.fn x = true ∨ X.env.scope.names.lookup x = some .local := by first | exact .inl rfl | exact .inr rfl | assumption) : PG X (.Name x pos) (gName i) := by
  intro pins s σ H v u Q I r h
  exact wpAny_assign_Name (store_ok I hN hi hx r (fun s' I' => ⟨_, H, I', h⟩) hf)
def gNil : TGs := fun vs σ H Q => vs = [] ∧ Q σ H
def gCons (t : TG) (u : TGs) : TGs := fun vs σ H Q => ∃ v r, vs = v :: r ∧ t v σ H fun σ' H' => u r σ' H' Q
theorem pgs_nil : PGs X [] gNil := by
  intro pins s σ H vs us Q I r h
  obtain ⟨e, h⟩ := h
  subst e
  cases r
  exact assignInOrder_nil ⟨σ, H, I, h⟩
theorem pgs_cons {e : Expr} {es : List Expr} {t : TG} {u : TGs} (h1 : PG X e t) (h2 : PGs X es u)
    (hs : (assignEach (e :: es) X.env).map (·.2) = assign e X.env :: (assignEach es X.env).map (·.2) := by rfl) : PGs X (e :: es) (gCons t u) := by
  intro pins s σ H vs us Q I r h
  obtain ⟨v, vr, e1, h⟩ := h
  subst e1
  cases r with
  | cons r rr =>
    rw [hs]
    refine assignInOrder_cons (thn (h1 pins s σ H _ _ _ I r h) fun _ s1 ⟨σ1, H1, I1, q1⟩ => ?_)
    exact h2 pins s1 σ1 H1 _ _ Q I1 rr q1
def gTup (K : PySem.W.Frag) (n : Nat) (t : TGs) : TG := fun v σ H Q => ∃ a xs, v = .ref a ∧ SqT K H a xs ∧ xs.length = n ∧ t xs σ H Q
theorem pg_tup {es : List Expr} {k : Nat} {t : TGs} {n : Nat} (hc : X.calm = true) (h : PGs X es t)
    (hn : (assignEach es X.env).length = n := by rfl) (hst : (assignEach es X.env).findIdx? (·.1) = none := by rfl) : PG X (.Tuple es k pos) (gTup X.K n t) := by
  intro pins s σ H v u Q I r hw
  obtain ⟨a, xs, e1, hq, hl, hw⟩ := hw
  subst e1
  cases r
  obtain ⟨its, rv, ht, hz⟩ := I.tuple hq
  refine assign_Tuple_tuple (I.ok.hd hc) ht (by simp [hn, ← hl, rv.length]) hst fun h' hx => ?_
  have I1 : Inv X pins σ H { s with heap := h' } := I.kept (t' := s.toks) fun b o e => hx b o (Nat.ne_of_lt (Heap.lt_size e)) e
  exact h pins _ σ H xs _ Q I1 (by simpa using rv) hw
def gSub (to ti : TE) (t : TSet) : TG := fun v σ H Q => to σ H fun o H1 => ti σ H1 fun i H2 => t o i v H2 fun H3 => Q σ H3
theorem pg_sub {o i : Expr} {to ti : TE} {t : TSet} (ho : PE X o to) (hi : PE X i ti) (hs : PSet X t)
    (ha : ∀ v, assign (.Subscript o i pos) X.env v = (do
      let ov ← holding [v] (eval o X.env)
      let iv ← holding [v, ov] (eval i X.env)
      standAt pos
      holding [v, ov, iv] (setItem ov iv v)
      release [v, ov, iv] []) := by intro _; rfl) : PG X (.Subscript o i pos) (gSub to ti t) := by
  intro pins s σ H v u Q I r h
  rw [ha]
  refine wpAny_bind (wpAny_holding (thn (ho pins s σ H _ I h) fun ov s1 ⟨x, H1, I1, r1, q1⟩ => ?_))
  refine wpAny_bind (wpAny_holding (thn (hi pins s1 σ H1 _ I1 q1) fun iv s2 ⟨y, H2, I2, r2, q2⟩ => ?_))
  refine wpAny_bind (wpAny_standAt (wpAny_bind (wpAny_holding (thn (hs pins s2 σ H2 x y v ov iv u _ I2 r1 r2 r q2) fun _ s3 ⟨H3, I3, q3⟩ => ?_))))
  exact wpAny_release ⟨σ, H3, I3, q3⟩
def tAsg (te : TE) (g : TG) : TS := fun D σ H => te σ H fun x H1 => g x σ H1 D.nx
theorem ps_asg {tg e : Expr} {te : TE} {g : TG} (he : PE X e te) (hg : PG X tg g) (hs : swapsWithSole [tg] e pos.line X.env = pure false := by rfl) (hw : swappedStores [tg] e X.env = pure none := by rfl)
    (h1 : (assignEach [tg] X.env).map (·.2) = [assign tg X.env] := by rfl) : PS X (.Assign [tg] e pos) (tAsg te g) := by
  intro pins s σ H D I h
  refine wpAny_Assign_stores (thn (he pins s σ H _ I h) fun v s1 ⟨x, H1, I1, r1, q1⟩ => ?_) hs hw
  rw [h1]
  exact thn (hg pins s1 σ H1 x v _ I1 r1 q1) fun _ s2 q => q
theorem ps_set {i : Nat} {x : Str} {e : Expr} {te : TE} {pos' : Pos} (hN : X.N.Nodup) (hi : X.N[i]? = some x) (hx : Loc X.env.scope x) (he : PE X e te) (hs : swapsWith e (some (.Name x pos')) pos.line X.env = pure false := by rfl) (hf : X.fn x = true ∨ X.env.scope.names.lookup x = some .local := by first | exact .inl rfl | exact .inr rfl | assumption) :
    PS X (.Assign [.Name x pos'] e pos) (tAsg te (gName i)) := by
  intro pins s σ H D I h
  refine wpAny_Assign_Name (thn (he pins s σ H _ I h) fun v s1 ⟨y, H1, I1, r1, q1⟩ => ?_) hs
  exact store_ok I1 hN hi hx r1 (fun s2 I2 => ⟨_, H1, I2, q1⟩) hf
def tAug (i : Nat) (te : TE) (ti : TIp) : TS := fun D σ H => ∃ x, σ[i]? = some (some x) ∧ te σ H fun y H1 => ti x y H1 fun z H2 => D.nx (σ.set i (some z)) H2
theorem ps_aug {i : Nat} {x : Str} {e : Expr} {te : TE} {op : Operator} {ti : TIp} {pos' : Pos} (hN : X.N.Nodup) (hi : X.N[i]? = some x) (hx : Loc X.env.scope x) (he : PE X e te) (ho : PIp X op ti) (hf : X.fn x = true ∨ X.env.scope.names.lookup x = some .local := by first | exact .inl rfl | exact .inr rfl | assumption) :
    PS X (.AugAssign (.Name x pos') op e pos) (tAug i te ti) := by
  intro pins s σ H D I h
  obtain ⟨v, e1, h⟩ := h
  obtain ⟨m, hn, hl⟩ := I.loc
  have vis : Vis X.env.scope x := by rcases hx with k | k; exact .inl k; exact .inr (.inl k)
  obtain ⟨u, r, l⟩ := hl i x v hi e1 vis
  refine wpAny_AugAssign_Name ?_
  have go : wpAny (model X.prog X.w) X.A (eval e X.env) (fun w s₂ => wpAny (model X.prog X.w) X.A (inplaceOp op u w) (fun r s₃ => wpAny (model X.prog X.w) X.A (storeName X.env x r) (fun _ => SP X pins D .next) X.xe s₃) X.xe s₂) X.xe s := by
    refine thn (he pins s σ H _ I h) fun w s1 ⟨y, H1, I1, r1, q1⟩ => ?_
    refine thn (ho pins s1 σ H1 v y u w _ I1 r r1 q1) fun z s2 ⟨zv, H2, I2, r2, q2⟩ => ?_
    exact store_ok I2 hN hi hx r2 (fun s3 I3 => ⟨_, H2, I3, q2⟩) hf
  rcases l with ⟨hk, hm⟩ | ⟨hk, c, hc, hcell⟩
  · exact wpAny_loadName_local I.ok.kind hk hn hm go
  · rcases hk with hk | hk
    · exact wpAny_loadName_cell I.ok.kind hk hc hcell go
    · rcases hx with k | k
      · have : X.env.scope.names.lookup x = some .free := hk
        rw [k] at this; cases this
      · have : X.env.scope.names.lookup x = some .free := hk
        rw [k] at this; cases this
def ipI (f : Int → Int → Int) : TIp := fun x y H Q => ∃ i j, x = .int i ∧ y = .int j ∧ Q (.int (f i j)) H
theorem ip_add : PIp X .Add (ipI fun i j => i + j) := by
  intro pins s σ H x y v u Q I r1 r2 h
  obtain ⟨i, j, e1, e2, q⟩ := h
  subst e1; subst e2
  obtain ⟨t, rfl⟩ := r1
  obtain ⟨t', rfl⟩ := r2
  exact iadd_int ⟨.int _, H, I.tok _, ⟨_, rfl⟩, q⟩
end
section
variable {X : Cx} {pos : Pos}
def tWhile (c : TT) (tb : TS) : TS := fun D σ H => ∃ W : Nat → St → Hp → Prop, (∃ m, W m σ H) ∧ ∀ m σ H, W m σ H →
  c σ H fun b H1 => if b = true then ∃ N : St → Hp → Prop, (∀ σ' H', N σ' H' → ∃ m', m' < m ∧ W m' σ' H') ∧ tb { D with nx := N, ct := N, bk := D.nx } σ H1 else D.nx σ H1
theorem ps_while {c : Expr} {body : List Stmt} {tc : TT} {tb : TS} (hp : PassesOwn (model X.prog X.w) X.A X.env X.xe) (hc : PT X c tc) (hb : PSs X body tb) : PS X (.While c body [] pos) (tWhile tc tb) := by
  intro pins s σ H D I h
  obtain ⟨W, ⟨m0, w0⟩, turn⟩ := h
  refine wpAny_While (codeAny_whileLoop (fun n s' => ∃ σ' H', Inv X pins σ' H' s' ∧ W n σ' H') ?_ m0 ⟨σ, H, I, w0⟩)
  rintro n s1 ⟨σ1, H1, I1, w1⟩
  refine wpAny_passesOwn hp (thn (hc pins s1 σ1 H1 _ I1 (turn n σ1 H1 w1)) fun b s2 ⟨H2, I2, q2⟩ => ?_)
  cases b with
  | true =>
    obtain ⟨N, hN, q2⟩ := q2
    rw [if_pos rfl]
    refine wpAny_passesOwn hp (thn (hb pins s2 σ1 H2 _ I2 q2) fun f s3 q3 => ?_)
    cases f with
    | next =>
      obtain ⟨σ3, H3, I3, n3⟩ := q3
      obtain ⟨m', hm, w3⟩ := hN σ3 H3 n3
      exact ⟨m', hm, σ3, H3, I3, w3⟩
    | cont =>
      obtain ⟨σ3, H3, I3, n3⟩ := q3
      obtain ⟨m', hm, w3⟩ := hN σ3 H3 n3
      exact ⟨m', hm, σ3, H3, I3, w3⟩
    | brk => exact q3
    | ret v => exact q3
  | false =>
    rw [if_neg Bool.false_ne_true]
    exact wpAny_execs_nil ⟨σ1, H2, I2, q2⟩
end
structure It where
  go : Nat → Hp → Prop
  yld : Nat → Hp → V → Hp → Prop
  stop : Nat → Hp → Prop
def FpOk (X : Cx) (pins : List (Addr × Obj)) (H : Hp) (b : Addr) : Prop :=
  H b = none ∧ b ≠ X.env.locals ∧ b ∉ X.fs ∧ (b ∈ X.ex ∨ X.s_0.heap.objs.size ≤ b) ∧ (∀ x c, X.env.cells.lookup x = some c → c ≠ b) ∧ ∀ p ∈ X.pn ++ pins, p.1 ≠ b
theorem Inv.fpOk {X : Cx} {pins : List (Addr × Obj)} {σ : St} {H H' : Hp} {s : Shared} {b : Addr} (I : Inv X pins σ H s) (hb : s.heap.objs.size ≤ b) (hn : H' b = none) : FpOk X pins H' b := by
  refine ⟨hn, Nat.ne_of_gt (Nat.lt_of_lt_of_le I.lt hb), I.nofs hb, .inr (Nat.le_trans I.sz hb), fun x c e z => ?_, fun p hp z => ?_⟩
  · obtain ⟨v, q⟩ := I.cell x c e
    exact absurd (Nat.lt_of_lt_of_le q.lt (by rw [z]; exact hb)) (Nat.lt_irrefl _)
  · exact absurd (Nat.lt_of_lt_of_le (Heap.lt_size (I.pin p hp).1) (by rw [z]; exact hb)) (Nat.lt_irrefl _)
structure Turn (P : Program) (w : World) (K : PySem.W.Frag) (tg : Expr) (J : It) (fp : List Addr) (it : Addr) (tn : Nat → Heap → Prop) : Prop where
  mem : it ∈ fp
  obj : ∀ i h, tn i h → ∀ b ∈ fp, ∃ o, h.get? b = some o ∧ ∀ v, o.data ≠ .cell v
  keep : ∀ i h h', tn i h → (∀ b ∈ fp, ∀ o, h.get? b = some o → h'.get? b = some o) → tn i h'
  item : ∀ (X : Cx), X.prog = P → X.w = w → X.K = K → X.calm = true → ∀ (i : Nat) (pins : List (Addr × Obj)) (s : Shared) (σ : St) (H : Hp) (E : Value → Shared → Prop), Inv X pins σ H s → (∀ b ∈ fp, FpOk X pins H b) → tn i s.heap → J.go i H →
    wpAny (model P w) X.A (pyNext (.ref it)) (fun r s1 => ∃ u, r = some u ∧
      wpAny (model P w) X.A (letOwnedTupleGo tg (.ref it) u) (fun _ s2 => ∃ x H', Inv X pins σ H' s2 ∧ RelV x u ∧ J.yld i H x H' ∧ tn (i + 1) s2.heap ∧ ∀ b ∈ fp, H' b = none) E s1) E s
  done : ∀ (X : Cx), X.prog = P → X.w = w → X.K = K → X.calm = true → ∀ (i : Nat) (pins : List (Addr × Obj)) (s : Shared) (σ : St) (H : Hp) (E : Value → Shared → Prop), Inv X pins σ H s → (∀ b ∈ fp, FpOk X pins H b) → tn i s.heap → J.stop i H →
    wpAny (model P w) X.A (pyNext (.ref it)) (fun r s1 => r = none ∧ Inv X pins σ H s1) E s
  self : ∀ (A : Around) (i : Nat) (s : Shared) (Q : Value → Shared → Prop) (E : Value → Shared → Prop), tn i s.heap → Q (.ref it) s → wpAny (model P w) A (pyIter (.ref it)) Q E s
abbrev TI := St → Hp → (It → Hp → Prop) → Prop
def PIE (X : Cx) (pins : List (Addr × Obj)) (σ : St) (tg : Expr) (R : It → Hp → Prop) (itv : Value) (s2 : Shared) : Prop :=
  ∃ (it : Addr) (fp : List Addr) (tn : Nat → Heap → Prop) (J : It) (H' : Hp), itv = .ref it ∧ Inv X pins σ H' s2 ∧ Turn X.prog X.w X.K tg J fp it tn ∧ tn 0 s2.heap ∧ (∀ b ∈ fp, FpOk X pins H' b) ∧ R J H'
def PI (X : Cx) (tg iter : Expr) (wi : TI) : Prop :=
  ∀ (pins : List (Addr × Obj)) (s : Shared) (σ : St) (H : Hp) (R : It → Hp → Prop), Inv X pins σ H s → wi σ H R →
    wpAny (model X.prog X.w) X.A (eval iter X.env) (fun v s1 => wpAny (model X.prog X.w) X.A (pyIter v) (PIE X pins σ tg R) X.xe s1) X.xe s
theorem go_of {M : Model} {A : Around} {E : Value → Shared → Prop} {s : Shared} {tg : Expr} {it : Addr} {u : Value} {o : Obj} {n : String} {vs : Array Value} {Q : Unit → Shared → Prop} (ho : s.heap.get? it = some o) (hc : o.cls = .type n) (hd : o.data = .fields vs)
    (hn : ["enumerate", "zip", "dict_itemiterator", "dict_reverseitemiterator", "odict_iterator", "itertools.zip_longest", "itertools.pairwise"].contains n = false) (hQ : Q () s) : wpAny M A (letOwnedTupleGo tg (.ref it) u) Q E s := by
  unfold letOwnedTupleGo
  cases tg <;> first
    | exact wpAny_pure hQ
    | (cases u <;> first
        | exact wpAny_pure hQ
        | (refine wpAny_bind (wpAny_load ho ?_)
           rw [hc, hd]
           show wpAny M A (if (["enumerate", "zip", "dict_itemiterator", "dict_reverseitemiterator", "odict_iterator", "itertools.zip_longest", "itertools.pairwise"].contains n && vs[0]? == some (rawInt _)) = true then _ else _) Q E s
           rw [if_neg (by intro h; rw [hn, Bool.false_and] at h; cases h)]
           exact wpAny_pure hQ))
def Itl (K : PySem.W.Frag) (a : Addr) : It :=
  ⟨fun i H => ∃ xs x, SqL K H a xs ∧ xs[i]? = some x, fun i H x H' => H' = H ∧ ∀ xs, SqL K H a xs → xs[i]? = some x, fun i H => ∃ xs, SqL K H a xs ∧ xs.length ≤ i⟩
def Itr (lo : Int) (n : Nat) : It := ⟨fun i _ => i < n, fun i H x H' => H' = H ∧ x = .int (lo + i), fun i _ => n ≤ i⟩
theorem turn_list {P : Program} {w : World} {K : PySem.W.Frag} {tg : Expr} (a it : Addr) : Turn P w K tg (Itl K a) [it] it (fun i h => h.IsListIter it a i) where
  mem := by simp
  obj := fun i h st b hb => by
    have e : b = it := by simpa using hb
    subst e
    obtain ⟨o, e, c, d⟩ := st
    exact ⟨o, e, fun v z => by rw [d] at z; cases z⟩
  keep := fun i h h' st k => st.at fun o e => k it (by simp) o e
  item := by
    intro X hP hw hK hc i pins s σ H E I hf st hg
    subst hP hw hK
    obtain ⟨xs, x, hq, hx⟩ := hg
    obtain ⟨its, rv, p, hz⟩ := I.list hq
    obtain ⟨u, hu, ru⟩ := rv.get hx
    obtain ⟨f0, f1, f2, f3, f4, f5⟩ := hf it (by simp)
    refine wpAny_pyNext_list_item st p.isList (x := u) (by simpa using hu) fun h' st' sb => ?_
    have I1 : Inv X pins σ H { s with heap := h' } := I.turned (t' := s.toks) (fun b o hb e => (sb.2 b hb).trans e) f0 f1 f3 f4 f5
    obtain ⟨o, e, c, d⟩ := id st'
    exact ⟨u, rfl, go_of (s := { s with heap := h' }) e c d (by decide) ⟨x, H, I1, ru, ⟨rfl, fun ys hy => by rw [I.list_inj hy hq]; exact hx⟩, st', fun b hb => (hf b hb).1⟩⟩
  done := by
    intro X hP hw hK hc i pins s σ H E I hf st hg
    subst hP hw hK
    obtain ⟨xs, hq, hx⟩ := hg
    obtain ⟨its, rv, p, hz⟩ := I.list hq
    obtain ⟨f0, f1, f2, f3, f4, f5⟩ := hf it (by simp)
    have hl := rv.length
    exact wpAny_pyNext_list_end (I.ok.hd hc) st p.isList (by simp; omega) fun h' eb => ⟨rfl, I.turned (t' := s.toks) (fun b o hb e => eb b o hb e) f0 f1 f3 f4 f5⟩
  self := fun _ _ _ _ _ st h => wpAny_pyIter_listiter st h
theorem turn_range {P : Program} {w : World} {K : PySem.W.Frag} {tg : Expr} (it : Addr) (lo : Int) (n : Nat) : Turn P w K tg (Itr lo n) [it] it (fun i h => IsRangeIter h it (lo + (i : Nat) * 1) ((n : Int) - (i : Nat)) 1) where
  mem := by simp
  obj := fun i h st b hb => by
    have e : b = it := by simpa using hb
    subst e
    exact ⟨_, st, fun v z => by
      have z' : Data.fields _ = Data.cell v := z
      cases z'⟩
  keep := fun i h h' st k => k it (by simp) _ st
  item := by
    intro X hP hw hK hc i pins s σ H E I hf st hg
    subst hP hw hK
    obtain ⟨f0, f1, f2, f3, f4, f5⟩ := hf it (by simp)
    have W := Walks.range (prog := X.prog) (w := X.w) (I.ok.hd hc) it lo 1 n
    refine W.item i s _ _ hg st fun v h' tk hv st' kk => ?_
    obtain ⟨t, rfl⟩ := hv
    have I1 : Inv X pins σ H { s with heap := h', toks := tk } := I.turned (fun b o hb e => kk b o (by simpa using hb) e) f0 f1 f3 f4 f5
    refine ⟨_, rfl, go_of (s := { s with heap := h', toks := tk }) (n := "range_iterator") st' rfl rfl (by decide) ⟨.int (lo + i), H, I1, ⟨t, ?_⟩, ⟨rfl, rfl⟩, st', fun b hb => (hf b hb).1⟩⟩
    rw [Int.mul_one]
  done := by
    intro X hP hw hK hc i pins s σ H E I hf st hg
    subst hP hw hK
    obtain ⟨f0, f1, f2, f3, f4, f5⟩ := hf it (by simp)
    exact wpAny_pyNext_range_end (I.ok.hd hc) st (by have : n ≤ i := hg; omega) fun h' eb => ⟨rfl, I.turned (t' := s.toks) (fun b o hb e => eb b o hb e) f0 f1 f3 f4 f5⟩
  self := fun _ _ _ _ _ st h => wpAny_pyIter_rangeiter st h
end L2
namespace L2
open PySem PySem.Spec PyProof.Rows
section
variable {X : Cx} {tg : Expr}
def iList (K : PySem.W.Frag) (tl : TE) : TI := fun σ H R => tl σ H fun x H1 => ∃ a, x = .ref a ∧ (∃ xs, SqL K H1 a xs) ∧ R (Itl K a) H1
theorem pi_list {l : Expr} {tl : TE} (hl : PE X l tl) : PI X tg l (iList X.K tl) := by
  intro pins s σ H R I h
  refine thn (hl pins s σ H _ I h) fun v s1 ⟨x, H1, I1, r1, q1⟩ => ?_
  obtain ⟨a, e, ⟨xs, hq⟩, q⟩ := q1
  subst e
  cases r1
  obtain ⟨its, rv, p, hz⟩ := I1.list hq
  refine wpAny_pyIter_list p.isList ?_
  refine ⟨s1.heap.objs.size, [s1.heap.objs.size], _, _, H1, rfl, I1.kept (t' := s1.toks) fun b o e => Heap.get?_push_of_some _ e, turn_list a _, ⟨_, Heap.get?_push_size _ rfl, rfl, rfl⟩, fun b hb => ?_, q⟩
  have e : b = s1.heap.objs.size := by simpa using hb
  subst e
  exact I1.fpOk (Nat.le_refl _) (I1.hok.fresh (Nat.le_refl _))
theorem range_it {pins : List (Addr × Obj)} {σ : St} {H : Hp} {s : Shared} {R : It → Hp → Prop} {E : Value → Shared → Prop} {lo hi : Int} {t u v : Tok} {tk : Nat} (I : Inv X pins σ H s) (h1 : -(2 ^ 62) ≤ lo) (h2 : lo < 2 ^ 62) (h3 : -(2 ^ 62) ≤ hi) (h4 : hi < 2 ^ 62)
    (q : R (Itr lo (hi - lo).toNat) H) : wpAny (model X.prog X.w) X.A (pyIter (.ref s.heap.objs.size)) (PIE X pins σ tg R) E { s with heap := s.heap.push { cls := .type "range", data := .fields #[.int lo t, .int hi u, .int 1 v] }, toks := tk } := by
  refine wpAny_pyIter_range (IsRange.new ..) (small_one h1 h2 h3 h4) ?_
  have I1 : Inv X pins σ H { s with heap := s.heap.push { cls := .type "range", data := .fields #[.int lo t, .int hi u, .int 1 v] }, toks := tk } := I.kept fun b o e => Heap.get?_push_of_some _ e
  refine ⟨(s.heap.push { cls := .type "range", data := .fields #[.int lo t, .int hi u, .int 1 v] }).objs.size, [(s.heap.push { cls := .type "range", data := .fields #[.int lo t, .int hi u, .int 1 v] }).objs.size], _, _, H, rfl,
    I1.kept (t' := tk) fun b o e => Heap.get?_push_of_some _ e, turn_range _ lo (hi - lo).toNat, ?_, fun b hb => ?_, q⟩
  · have e1 : lo + ((0 : Nat) : Int) * 1 = lo := by simp
    have e2 : (((hi - lo).toNat : Nat) : Int) - ((0 : Nat) : Int) = Builtin.Range.rangeSize lo hi 1 := by rw [rangeSize_one]; split <;> omega
    show IsRangeIter _ _ (lo + ((0 : Nat) : Int) * 1) ((((hi - lo).toNat : Nat) : Int) - ((0 : Nat) : Int)) 1
    rw [e1, e2]
    exact Heap.get?_push_size _ rfl
  · have e : b = (s.heap.push { cls := .type "range", data := .fields #[.int lo t, .int hi u, .int 1 v] }).objs.size := by simpa using hb
    subst e
    exact I1.fpOk (Nat.le_refl _) (I1.hok.fresh (Nat.le_refl _))
def iRng1 (ta : TA) : TI := fun σ H R => ta σ H fun vs H1 => ∃ j : Int, vs = [.int j] ∧ -(2 ^ 62) ≤ j ∧ j < 2 ^ 62 ∧ R (Itr 0 j.toNat) H1
theorem pi_range1 {a : Expr} {ta : TA} {p pos : Pos} (hg : Gl X "range") (hm : X.mg "range" = none) (ha : PA X [a] ta) (hs : starEach [a] X.env = [(false, eval a X.env)] := by rfl) : PI X tg (.Call (.Name "range" p) [a] [] pos) (iRng1 ta) := by
  intro pins s σ H R I h
  refine Call_ (ld_blt I hg hm boot_range (PyProof.Rows.callWith_type1 (thn (ha pos pins s σ H _ I h) fun us s1 ⟨vs, H1, I1, r1, q1⟩ => ?_) hs rfl))
  obtain ⟨j, e, q1, q2, q⟩ := q1
  subst e
  cases r1 with
  | cons r rr =>
    cases rr
    obtain ⟨t, rfl⟩ := r
    exact call_range_1 (range_it I1 (by omega) (by omega) q1 q2 (by simpa using q))
def tFor (wi : TI) (g : TG) (tb : TS) : TS := fun D σ H => wi σ H fun J H1 => ∃ W : Nat → Nat → St → Hp → Prop, (∃ m, W 0 m σ H1) ∧ ∀ i m σ H, W i m σ H →
  (J.stop i H ∧ D.nx σ H) ∨ (J.go i H ∧ ∃ N : St → Hp → Prop, (∀ σ' H', N σ' H' → ∃ m', m' < m ∧ W (i + 1) m' σ' H') ∧ ∀ x H', J.yld i H x H' → g x σ H' fun σ2 H2 => tb { D with nx := N, ct := N, bk := D.nx } σ2 H2)
def pinsAt (fp : List Addr) (h : Heap) : List (Addr × Obj) := fp.filterMap fun b => (h.get? b).map fun o => (b, o)
theorem mem_pinsAt {fp : List Addr} {h : Heap} {b : Addr} {o : Obj} (hb : b ∈ fp) (e : h.get? b = some o) : (b, o) ∈ pinsAt fp h := List.mem_filterMap.mpr ⟨b, hb, by rw [e]; rfl⟩
theorem of_pinsAt {fp : List Addr} {h : Heap} {p : Addr × Obj} (hp : p ∈ pinsAt fp h) : p.1 ∈ fp ∧ h.get? p.1 = some p.2 := by
  obtain ⟨b, hb, e⟩ := List.mem_filterMap.mp hp
  cases q : h.get? b with
  | none => rw [q] at e; cases e
  | some o =>
    rw [q] at e
    have e' : (b, o) = p := Option.some.inj e
    subst e'
    exact ⟨hb, q⟩
theorem Inv.pinned {pins : List (Addr × Obj)} {σ : St} {H : Hp} {s : Shared} {fp : List Addr} (I : Inv X pins σ H s) (hf : ∀ b ∈ fp, FpOk X pins H b) (ho : ∀ b ∈ fp, ∃ o, s.heap.get? b = some o ∧ ∀ v, o.data ≠ .cell v) : Inv X (pins ++ pinsAt fp s.heap) σ H s :=
  I.pins_of fun p hp => (List.mem_append.mp hp).elim (fun z => I.pin p (List.mem_append_right _ z)) fun z => by
    obtain ⟨hb, e⟩ := of_pinsAt z
    obtain ⟨f0, f1, f2, _⟩ := hf p.1 hb
    obtain ⟨o, e', d⟩ := ho p.1 hb
    rw [e] at e'; cases e'
    exact ⟨e, f0, f1, f2, d⟩
theorem Inv.unpinned {pins pl : List (Addr × Obj)} {σ : St} {H : Hp} {s : Shared} (I : Inv X (pins ++ pl) σ H s) : Inv X pins σ H s := I.pins_of fun p hp => I.pin p (List.mem_append_right _ (List.mem_append_left _ hp))
theorem ps_for {iter : Expr} {body : List Stmt} {wi : TI} {g : TG} {tb : TS} {pos : Pos} (hp : PassesOwn (model X.prog X.w) X.A X.env X.xe) (hc : X.calm = true) (hi : PI X tg iter wi) (hg : PG X tg g) (hb : PSs X body tb)
    (hs : ∀ x, foldedSetIterable iter X.env x = pure x := by intro _; rfl) : PS X (.For tg iter body [] pos) (tFor wi g tb) := by
  intro pins s σ H D I h
  refine wpAny_For (thn (hi pins s σ H _ I h) fun v s1 h1 => thn h1 fun itv s2 h2 => ?_) hs
  obtain ⟨it, fp, tn, J, H2, e, I2, T, st2, f2, W, ⟨m0, w0⟩, turn⟩ := h2
  subst e
  have stat : ∀ {H' : Hp}, (∀ b ∈ fp, H' b = none) → ∀ b ∈ fp, FpOk X pins H' b := fun hn b hb => ⟨hn b hb, (f2 b hb).2⟩
  refine codeAny_forLoop_any (fun n s' => ∃ i σ' H', Inv X pins σ' H' s' ∧ tn i s'.heap ∧ (∀ b ∈ fp, H' b = none) ∧ W i n σ' H') ?_ m0 ⟨0, σ, H2, I2, st2, fun b hb => (f2 b hb).1, w0⟩
  rintro n s3 ⟨i, σ3, H3, I3, st3, fr3, w3⟩
  rcases turn i n σ3 H3 w3 with ⟨stop, qn⟩ | ⟨go, N, hN, step⟩
  · refine wpAny_passesOwn hp (thn (T.done X rfl rfl rfl hc i pins s3 σ3 H3 X.xe I3 (stat fr3) st3 stop) fun r s4 ⟨hr, I4⟩ => ?_)
    subst hr
    exact wpAny_execs_nil ⟨σ3, H3, I4, qn⟩
  · refine wpAny_passesOwn hp (thn (T.item X rfl rfl rfl hc i pins s3 σ3 H3 X.xe I3 (stat fr3) st3 go) fun r s4 ⟨u, hr, h4⟩ => ?_)
    subst hr
    refine wpAny_passesOwn hp (thn h4 fun _ s5 ⟨x, H5, I5, r5, y5, st5, fr5⟩ => ?_)
    have I5' := I5.pinned (stat fr5) (T.obj _ _ st5)
    refine wpAny_passesOwn hp (thn (hg _ s5 σ3 H5 x u _ I5' r5 (step x H5 y5)) fun _ s6 ⟨σ6, H6, I6, q6⟩ => ?_)
    refine wpAny_passesOwn hp (thn (hb _ s6 σ6 H6 _ I6 q6) fun f s7 q7 => ?_)
    have again : ∀ {σ7 : St} {H7 : Hp}, Inv X (pins ++ pinsAt fp s5.heap) σ7 H7 s7 → N σ7 H7 → ∃ m, m < n ∧ ∃ i σ' H', Inv X pins σ' H' s7 ∧ tn i s7.heap ∧ (∀ b ∈ fp, H' b = none) ∧ W i m σ' H' := fun {σ7 H7} I7 n7 => by
      obtain ⟨m', hm, w7⟩ := hN σ7 H7 n7
      refine ⟨m', hm, i + 1, σ7, H7, I7.unpinned, T.keep _ _ _ st5 fun b hb o e => (I7.pin (b, o) (List.mem_append_right _ (List.mem_append_right _ (mem_pinsAt hb e)))).1, fun b hb => ?_, w7⟩
      obtain ⟨o, e, d⟩ := T.obj _ _ st5 b hb
      exact (I7.pin (b, o) (List.mem_append_right _ (List.mem_append_right _ (mem_pinsAt hb e)))).2.1
    cases f with
    | next => obtain ⟨σ7, H7, I7, n7⟩ := q7; exact again I7 n7
    | cont => obtain ⟨σ7, H7, I7, n7⟩ := q7; exact again I7 n7
    | brk => obtain ⟨σ7, H7, I7, q7⟩ := q7; exact ⟨σ7, H7, I7.unpinned, q7⟩
    | ret v => obtain ⟨x7, σ7, H7, I7, r7, q7⟩ := q7; exact ⟨x7, σ7, H7, I7.unpinned, r7, q7⟩
end
theorem for_list {K : PySem.W.Frag} {a : Addr} {xs : List V} {g : TG} {tb : TS} {D : Ends} {σ : St} {H : Hp} (Pv : Nat → St → Hp → Prop) (h0 : Pv 0 σ H) (hl : ∀ i σ H, i ≤ xs.length → Pv i σ H → SqL K H a xs)
    (hs : ∀ i x σ H, xs[i]? = some x → Pv i σ H → g x σ H fun σ2 H2 => tb { D with nx := Pv (i + 1), ct := Pv (i + 1), bk := D.nx } σ2 H2) (hd : ∀ σ H, Pv xs.length σ H → D.nx σ H) :
    ∃ W : Nat → Nat → St → Hp → Prop, (∃ m, W 0 m σ H) ∧ ∀ i m σ H, W i m σ H →
      ((Itl K a).stop i H ∧ D.nx σ H) ∨ ((Itl K a).go i H ∧ ∃ N : St → Hp → Prop, (∀ σ' H', N σ' H' → ∃ m', m' < m ∧ W (i + 1) m' σ' H') ∧ ∀ x H', (Itl K a).yld i H x H' → g x σ H' fun σ2 H2 => tb { D with nx := N, ct := N, bk := D.nx } σ2 H2) := by
  refine ⟨fun i m σ H => m = xs.length - i ∧ i ≤ xs.length ∧ Pv i σ H, ⟨xs.length, by simp, Nat.zero_le _, h0⟩, ?_⟩
  rintro i m σ H ⟨rfl, hi, p⟩
  have q := hl i σ H hi p
  by_cases hlt : i < xs.length
  · refine .inr ⟨⟨xs, xs[i], q, by simp [hlt]⟩, Pv (i + 1), fun σ' H' p' => ⟨xs.length - (i + 1), by omega, rfl, hlt, p'⟩, fun x H' y => ?_⟩
    obtain ⟨e, y⟩ := y
    subst e
    exact hs i x σ _ (y xs q) p
  · have e : i = xs.length := by omega
    subst e
    exact .inl ⟨⟨xs, q, Nat.le_refl _⟩, hd σ H p⟩
theorem for_range {lo : Int} {n : Nat} {g : TG} {tb : TS} {D : Ends} {σ : St} {H : Hp} (Pv : Nat → St → Hp → Prop) (h0 : Pv 0 σ H)
    (hs : ∀ i σ H, i < n → Pv i σ H → g (.int (lo + i)) σ H fun σ2 H2 => tb { D with nx := Pv (i + 1), ct := Pv (i + 1), bk := D.nx } σ2 H2) (hd : ∀ σ H, Pv n σ H → D.nx σ H) :
    ∃ W : Nat → Nat → St → Hp → Prop, (∃ m, W 0 m σ H) ∧ ∀ i m σ H, W i m σ H →
      ((Itr lo n).stop i H ∧ D.nx σ H) ∨ ((Itr lo n).go i H ∧ ∃ N : St → Hp → Prop, (∀ σ' H', N σ' H' → ∃ m', m' < m ∧ W (i + 1) m' σ' H') ∧ ∀ x H', (Itr lo n).yld i H x H' → g x σ H' fun σ2 H2 => tb { D with nx := N, ct := N, bk := D.nx } σ2 H2) := by
  refine ⟨fun i m σ H => m = n - i ∧ i ≤ n ∧ Pv i σ H, ⟨n, by simp, Nat.zero_le _, h0⟩, ?_⟩
  rintro i m σ H ⟨rfl, hi, p⟩
  by_cases hlt : i < n
  · refine .inr ⟨hlt, Pv (i + 1), fun σ' H' p' => ⟨n - (i + 1), by omega, rfl, hlt, p'⟩, fun x H' y => ?_⟩
    obtain ⟨e, y⟩ := y
    subst e y
    exact hs i σ _ hlt p
  · have e : i = n := by omega
    subst e
    exact .inl ⟨Nat.le_refl _, hd σ H p⟩
end L2
namespace L2
open PySem PySem.Spec PyProof.Rows
abbrev R2 := V → V → Hp → VK → Prop
def OpR (X : Cx) (f : Value → Value → Sem Value) (r : R2) : Prop :=
  ∀ (pins : List (Addr × Obj)) (s : Shared) (σ : St) (H : Hp) (x y : V) (v u : Value) (Q : VK), Inv X pins σ H s → RelV x v → RelV y u → r x y H Q →
    wpAny (model X.prog X.w) X.A (f v u) (EP X pins σ Q) X.xe s
def UnR (X : Cx) (f : Value → Sem Value) (r : V → Hp → VK → Prop) : Prop :=
  ∀ (pins : List (Addr × Obj)) (s : Shared) (σ : St) (H : Hp) (x : V) (v : Value) (Q : VK), Inv X pins σ H s → RelV x v → r x H Q →
    wpAny (model X.prog X.w) X.A (f v) (EP X pins σ Q) X.xe s
def CallR (X : Cx) (f : Value) (r : List V → Hp → VK → Prop) : Prop :=
  ∀ (pins : List (Addr × Obj)) (s : Shared) (σ : St) (H : Hp) (xs : List V) (us : List Value) (Q : VK), Inv X pins σ H s → Vals xs us → r xs H Q →
    wpAny (model X.prog X.w) X.A (call f us) (EP X pins σ Q) X.xe s
def tOp (r : R2) (ta tb : TE) : TE := fun σ H Q => ta σ H fun x H1 => tb σ H1 fun y H2 => r x y H2 Q
def tUn (r : V → Hp → VK → Prop) (ta : TE) : TE := fun σ H Q => ta σ H fun x H1 => r x H1 Q
def rI (C : Int → Int → Prop) (g : Int → Int → V) : R2 := fun x y H Q => ∃ i j, x = .int i ∧ y = .int j ∧ C i j ∧ Q (g i j) H
def rI0 (g : Int → Int → V) : R2 := fun x y H Q => ∃ i j, x = .int i ∧ y = .int j ∧ Q (g i j) H
def rU (g : Int → V) : V → Hp → VK → Prop := fun x H Q => ∃ i, x = .int i ∧ Q (g i) H
section
variable {X : Cx} {a b c : Expr} {ta tb tc : TE} {pos : Pos}
theorem binT (ha : PE X a ta) (hb : PE X b tb) {pins : List (Addr × Obj)} {s : Shared} {σ : St} {H : Hp} {R : V → V → Hp → Prop} (I : Inv X pins σ H s)
    (h : ta σ H fun x H1 => tb σ H1 fun y H2 => R x y H2) {Q : Value → Shared → Prop} {f : Value → Value → Sem Value}
    (hf : ∀ v u s2 x y H2, Inv X pins σ H2 s2 → RelV x v → RelV y u → R x y H2 → wpAny (model X.prog X.w) X.A (f v u) Q X.xe s2) :
    wpAny (model X.prog X.w) X.A (eval a X.env) (fun v s₁ => wpAny (model X.prog X.w) X.A (eval b X.env) (fun u s₂ => wpAny (model X.prog X.w) X.A (f v u) Q X.xe s₂) X.xe s₁) X.xe s := by
  refine thn (ha pins s σ H _ I h) fun v s1 ⟨x, H1, I1, r1, q1⟩ => ?_
  refine thn (hb pins s1 σ H1 _ I1 q1) fun u s2 ⟨y, H2, I2, r2, q2⟩ => ?_
  exact hf v u s2 x y H2 I2 r1 r2 q2
theorem pe_op {op : Operator} {r : R2} (ho : OpR X (binaryOp op) r) (ha : PE X a ta) (hb : PE X b tb) : PE X (.BinOp a op b pos) (tOp r ta tb) := by
  intro pins s σ H Q I h
  exact wpAny_BinOp (binT ha hb I h fun v u s2 x y H2 I2 rx ry q => ho pins s2 σ H2 x y v u Q I2 rx ry q)
theorem pe_un {op : UnaryOp} {r : V → Hp → VK → Prop} (ho : UnR X (unaryOp op) r) (ha : PE X a ta) : PE X (.UnaryOp op a pos) (tUn r ta) := by
  intro pins s σ H Q I h
  exact UnaryOp_ (thn (ha pins s σ H _ I h) fun v s1 ⟨x, H1, I1, r1, q1⟩ => ho pins s1 σ H1 x v Q I1 r1 q1)
theorem opI {f : Value → Value → Sem Value} {C : Int → Int → Prop} {g : Int → Int → Int}
    (rule : ∀ (i j : Int) (t u : Tok) (s : Shared) (Q : Value → Shared → Prop) (E : Value → Shared → Prop), C i j → Q (.int (g i j) s.toks) { s with toks := s.toks + 1 } → wpAny (model X.prog X.w) X.A (f (.int i t) (.int j u)) Q E s) :
    OpR X f (rI C fun i j => .int (g i j)) := by
  intro pins s σ H x y v u Q I rx ry h
  obtain ⟨i, j, rfl, rfl, hc, q⟩ := h
  obtain ⟨t, rfl⟩ := rx
  obtain ⟨t', rfl⟩ := ry
  exact rule i j t t' s _ _ hc ⟨.int (g i j), H, I.tok _, ⟨_, rfl⟩, q⟩
theorem opI0 {f : Value → Value → Sem Value} {g : Int → Int → Int}
    (rule : ∀ (i j : Int) (t u : Tok) (s : Shared) (Q : Value → Shared → Prop) (E : Value → Shared → Prop), Q (.int (g i j) s.toks) { s with toks := s.toks + 1 } → wpAny (model X.prog X.w) X.A (f (.int i t) (.int j u)) Q E s) :
    OpR X f (rI0 fun i j => .int (g i j)) := by
  intro pins s σ H x y v u Q I rx ry h
  obtain ⟨i, j, rfl, rfl, q⟩ := h
  obtain ⟨t, rfl⟩ := rx
  obtain ⟨t', rfl⟩ := ry
  exact rule i j t t' s _ _ ⟨.int (g i j), H, I.tok _, ⟨_, rfl⟩, q⟩
theorem opB0 {f : Value → Value → Sem Value} {g : Int → Int → Bool}
    (rule : ∀ (i j : Int) (t u : Tok) (s : Shared) (Q : Value → Shared → Prop) (E : Value → Shared → Prop), Q (.bool (g i j)) s → wpAny (model X.prog X.w) X.A (f (.int i t) (.int j u)) Q E s) :
    OpR X f (rI0 fun i j => .bl (g i j)) := by
  intro pins s σ H x y v u Q I rx ry h
  obtain ⟨i, j, rfl, rfl, q⟩ := h
  obtain ⟨t, rfl⟩ := rx
  obtain ⟨t', rfl⟩ := ry
  exact rule i j t t' s _ _ ⟨.bl (g i j), H, I, rfl, q⟩
def CMul (i j : Int) : Prop := (-(2 ^ 64) < i ∧ i < 2 ^ 64) ∨ (-(2 ^ 64) < j ∧ j < 2 ^ 64)
theorem CMul.ok {i j : Int} (h : CMul i j) : IntMulOk i j := by
  rcases h with ⟨h1, h2⟩ | ⟨h1, h2⟩
  · exact .of_left (intBits_le_64 h1 h2)
  · exact .of_right (intBits_le_64 h1 h2)
theorem two_pow_nn (k : Nat) : (0 : Int) ≤ 2 ^ k := by
  rw [two_pow_cast]
  exact Int.natCast_nonneg _
theorem op_add : OpR X (binaryOp .Add) (rI0 fun i j => .int (i + j)) := opI0 fun _ _ _ _ _ _ _ q => add_int q
theorem op_sub : OpR X (binaryOp .Sub) (rI0 fun i j => .int (i - j)) := opI0 fun _ _ _ _ _ _ _ q => sub_int q
theorem op_mul : OpR X (binaryOp .Mult) (rI CMul fun i j => .int (i * j)) := opI fun _ _ _ _ _ _ _ hc q => mul_int q hc.ok
theorem op_mod : OpR X (binaryOp .Mod) (rI (fun _ j => 0 < j) fun i j => .int (i % j)) := opI fun i j _ _ _ _ _ hc q => by
  have h1 : (0 : Int) < j := hc
  exact mod_int' (by omega) (by rw [Int.fmod_eq_emod_of_nonneg i (by omega)]; exact q)
theorem op_shr : OpR X (binaryOp .RShift) (rI (fun _ j => 0 ≤ j) fun i j => .int (i / 2 ^ j.toNat)) := opI fun i j _ _ _ _ _ hc q =>
  rshift_int hc (by rw [Int.fdiv_eq_ediv_of_nonneg i (two_pow_nn _)]; exact q)
theorem op_and : OpR X (binaryOp .BitAnd) (rI0 fun i j => .int (Builtin.bitAnd i j)) := opI0 fun _ _ _ _ _ _ _ q => and_int q
theorem op_xor : OpR X (binaryOp .BitXor) (rI0 fun i j => .int (Builtin.bitXor i j)) := opI0 fun _ _ _ _ _ _ _ q => xor_int q
theorem unI {f : Value → Sem Value} {g : Int → Int}
    (rule : ∀ (i : Int) (t : Tok) (s : Shared) (Q : Value → Shared → Prop) (E : Value → Shared → Prop), Q (.int (g i) s.toks) { s with toks := s.toks + 1 } → wpAny (model X.prog X.w) X.A (f (.int i t)) Q E s) :
    UnR X f (rU fun i => .int (g i)) := by
  intro pins s σ H x v Q I rx h
  obtain ⟨i, rfl, q⟩ := h
  obtain ⟨t, rfl⟩ := rx
  exact rule i t s _ _ ⟨.int (g i), H, I.tok _, ⟨_, rfl⟩, q⟩
theorem un_neg : UnR X (unaryOp .USub) (rU fun i => .int (-i)) := unI fun _ _ _ _ _ q => neg_int q
end
def scal : V → V → Bool
  | .non, .non => true | .non, .int _ => true | .int _, .non => true | .non, .bl _ => true | .bl _, .non => true | .non, .str _ => true | .str _, .non => true
  | .int _, .int _ => true | .bl _, .bl _ => true | .str _, .str _ => true | .byt _, .byt _ => true
  | .int _, .str _ => true | .str _, .int _ => true | .bl _, .str _ => true | .str _, .bl _ => true
  | _, _ => false
def rEq : R2 := fun x y H Q => scal x y = true ∧ Q (.bl (decide (x = y))) H
def rNe : R2 := fun x y H Q => scal x y = true ∧ Q (.bl (!decide (x = y))) H
theorem dec_int {i j : Int} : decide (V.int i = V.int j) = (i == j) := by
  rw [Bool.eq_iff_iff]
  simp
theorem dec_bl {i j : Bool} : decide (V.bl i = V.bl j) = (i == j) := by
  rw [Bool.eq_iff_iff]
  simp
theorem dec_str {i j : Str} : decide (V.str i = V.str j) = (i == j) := by
  rw [Bool.eq_iff_iff]
  simp
theorem dec_byt {i j : Array UInt8} : decide (V.byt i = V.byt j) = (i.toList == j.toList) := by
  rw [Bool.eq_iff_iff]
  cases i
  cases j
  simp
section
variable {X : Cx} {a b c : Expr} {ta tb tc : TE} {pos : Pos}
theorem fin_bl {pins : List (Addr × Obj)} {σ : St} {H : Hp} {s : Shared} {Q : VK} {k k' : Bool} (I : Inv X pins σ H s) (q : Q (.bl k) H) (e : k = k') : EP X pins σ Q (.bool k') s := by
  subst e
  exact ⟨.bl k, H, I, rfl, q⟩
theorem op_eq : OpR X (compareOp .Eq) rEq := by
  intro pins s σ H x y v u Q I rx ry h
  obtain ⟨hs, q⟩ := h
  cases x with
  | non =>
    cases rx
    cases y with
    | non => cases ry; exact PySem.EqNone.eq_none_none (fin_bl I q (by simp))
    | bl j => cases ry; exact PySem.EqNone.eq_none_bool (fin_bl I q (by simp))
    | int j => obtain ⟨t', rfl⟩ := ry; exact PySem.EqNone.eq_none_int (fin_bl I q (by simp))
    | str j => obtain ⟨t', rfl⟩ := ry; exact PySem.EqNone.eq_none_str (fin_bl I q (by simp))
    | _ => exact absurd (show false = true from hs) Bool.false_ne_true
  | bl i =>
    cases rx
    cases y with
    | non => cases ry; exact PySem.EqNone.eq_bool_none (fin_bl I q (by simp))
    | bl j => cases ry; exact eq_bool (fin_bl I q dec_bl)
    | str j => obtain ⟨t', rfl⟩ := ry; exact PySem.EqMixed.eq_bool_str (fin_bl I q (by simp))
    | _ => exact absurd (show false = true from hs) Bool.false_ne_true
  | int i =>
    obtain ⟨t, rfl⟩ := rx
    cases y with
    | non => cases ry; exact PySem.EqNone.eq_int_none (fin_bl I q (by simp))
    | int j => obtain ⟨t', rfl⟩ := ry; exact eq_int (fin_bl I q dec_int)
    | str j => obtain ⟨t', rfl⟩ := ry; exact PySem.EqMixed.eq_int_str (fin_bl I q (by simp))
    | _ => exact absurd (show false = true from hs) Bool.false_ne_true
  | str i =>
    obtain ⟨t, rfl⟩ := rx
    cases y with
    | non => cases ry; exact PySem.EqNone.eq_str_none (fin_bl I q (by simp))
    | bl j => cases ry; exact PySem.EqMixed.eq_str_bool (fin_bl I q (by simp))
    | int j => obtain ⟨t', rfl⟩ := ry; exact PySem.EqMixed.eq_str_int (fin_bl I q (by simp))
    | str j => obtain ⟨t', rfl⟩ := ry; exact eq_str (fin_bl I q dec_str)
    | _ => exact absurd (show false = true from hs) Bool.false_ne_true
  | byt i =>
    obtain ⟨t, rfl⟩ := rx
    cases y with
    | byt j => obtain ⟨t', rfl⟩ := ry; exact PySem.W.eq_bytes (fin_bl I q dec_byt)
    | _ => exact absurd (show false = true from hs) Bool.false_ne_true
  | _ => cases y <;> exact absurd (show false = true from hs) Bool.false_ne_true
theorem op_ne : OpR X (compareOp .NotEq) rNe := by
  intro pins s σ H x y v u Q I rx ry h
  obtain ⟨hs, q⟩ := h
  cases x with
  | non =>
    cases rx
    cases y with
    | non => cases ry; exact PySem.EqNone.ne_none_none (fin_bl I q (by simp))
    | bl j => cases ry; exact PySem.EqNone.ne_none_bool (fin_bl I q (by simp))
    | int j => obtain ⟨t', rfl⟩ := ry; exact PySem.EqNone.ne_none_int (fin_bl I q (by simp))
    | str j => obtain ⟨t', rfl⟩ := ry; exact PySem.EqNone.ne_none_str (fin_bl I q (by simp))
    | _ => exact absurd (show false = true from hs) Bool.false_ne_true
  | bl i =>
    cases rx
    cases y with
    | non => cases ry; exact PySem.EqNone.ne_bool_none (fin_bl I q (by simp))
    | bl j => cases ry; exact ne_bool (fin_bl I q (congrArg not dec_bl))
    | str j => obtain ⟨t', rfl⟩ := ry; exact PySem.EqMixed.ne_bool_str (fin_bl I q (by simp))
    | _ => exact absurd (show false = true from hs) Bool.false_ne_true
  | int i =>
    obtain ⟨t, rfl⟩ := rx
    cases y with
    | non => cases ry; exact PySem.EqNone.ne_int_none (fin_bl I q (by simp))
    | int j => obtain ⟨t', rfl⟩ := ry; exact ne_int (fin_bl I q (congrArg not dec_int))
    | str j => obtain ⟨t', rfl⟩ := ry; exact PySem.EqMixed.ne_int_str (fin_bl I q (by simp))
    | _ => exact absurd (show false = true from hs) Bool.false_ne_true
  | str i =>
    obtain ⟨t, rfl⟩ := rx
    cases y with
    | non => cases ry; exact PySem.EqNone.ne_str_none (fin_bl I q (by simp))
    | bl j => cases ry; exact PySem.EqMixed.ne_str_bool (fin_bl I q (by simp))
    | int j => obtain ⟨t', rfl⟩ := ry; exact PySem.EqMixed.ne_str_int (fin_bl I q (by simp))
    | str j => obtain ⟨t', rfl⟩ := ry; exact ne_str (fin_bl I q (congrArg not dec_str))
    | _ => exact absurd (show false = true from hs) Bool.false_ne_true
  | byt i =>
    obtain ⟨t, rfl⟩ := rx
    cases y with
    | byt j => obtain ⟨t', rfl⟩ := ry; exact PySem.W.ne_bytes (fin_bl I q (congrArg not dec_byt))
    | _ => exact absurd (show false = true from hs) Bool.false_ne_true
  | _ => cases y <;> exact absurd (show false = true from hs) Bool.false_ne_true
theorem op_lt : OpR X (compareOp .Lt) (rI0 fun i j => .bl (decide (i < j))) := opB0 fun _ _ _ _ _ _ _ q => lt_int q
theorem op_le : OpR X (compareOp .LtE) (rI0 fun i j => .bl (decide (i ≤ j))) := opB0 fun _ _ _ _ _ _ _ q => le_int q
theorem op_gt : OpR X (compareOp .Gt) (rI0 fun i j => .bl (decide (j < i))) := opB0 fun _ _ _ _ _ _ _ q => gt_int q
theorem op_ge : OpR X (compareOp .GtE) (rI0 fun i j => .bl (decide (j ≤ i))) := opB0 fun _ _ _ _ _ _ _ q => ge_int q
theorem nomark (b : Expr) {op : CmpOp} (h : op ≠ .In := by decide) (h2 : op ≠ .NotIn := by decide) : behindInMarks op b = false := by
  have e1 : (op == CmpOp.In) = false := by cases op <;> first | rfl | exact absurd rfl h
  have e2 : (op == CmpOp.NotIn) = false := by cases op <;> first | rfl | exact absurd rfl h2
  cases b <;> simp [behindInMarks, e1, e2]
def tTest (t : TE) : TT := fun σ H Q => t σ H fun x H' => ∃ k, x = .bl k ∧ Q k H'
theorem pt_cmpR {op : CmpOp} {r : R2} (ho : OpR X (compareOp op) r) (ha : PE X a ta) (hb : PE X b tb) (hm : behindInMarks op b = false) : PT X (.Compare a [op] [b] pos) (tTest (tOp r ta tb)) := by
  intro pins s σ H Q I h
  refine wpAny_isTrue_Compare1 (thn (ha pins s σ H _ I h) fun v s1 ⟨x, H1, I1, r1, q1⟩ => thn (hb pins s1 σ H1 _ I1 q1) fun u s2 ⟨y, H2, I2, r2, q2⟩ =>
    thn (ho pins s2 σ H2 x y v u _ I2 r1 r2 q2) fun c s3 ⟨z, H3, I3, r3, k, e, q3⟩ => ?_) hm
  subst e
  cases r3
  exact wpAny_truthy_bool ⟨H3, I3, q3⟩
def tChain (r r' : R2) (ta tb tc : TE) : TE := fun σ H Q => ta σ H fun x H1 => tb σ H1 fun y H2 => r x y H2 fun z H3 => ∃ k, z = .bl k ∧
  (if k = true then tc σ H3 fun w' H4 => r' y w' H4 Q else Q (.bl false) H3)
theorem pe_chain {op op' : CmpOp} {r r' : R2} (ho : OpR X (compareOp op) r) (ho' : OpR X (compareOp op') r') (ha : PE X a ta) (hb : PE X b tb) (hc : PE X c tc)
    (hm : lastMarks [op, op'] [b, c] = false := by with_unfolding_all rfl) : PE X (.Compare a [op, op'] [b, c] pos) (tChain r r' ta tb tc) := by
  intro pins s σ H Q I h
  refine Compare_chain (thn (ha pins s σ H _ I h) fun v s1 ⟨x, H1, I1, r1, q1⟩ => chain_link (thn (hb pins s1 σ H1 _ I1 q1) fun u s2 ⟨y, H2, I2, r2, q2⟩ =>
    thn (ho pins s2 σ H2 x y v u _ I2 r1 r2 q2) fun d s3 ⟨z, H3, I3, r3, k, e, q3⟩ => ?_)) hm
  subst e
  cases r3
  refine wpAny_truthy_bool ?_
  cases k with
  | false => exact ite_ff ⟨.bl false, H3, I3, rfl, q3⟩
  | true => exact ite_tt (chain_last (thn (hc pins s3 σ H3 _ I3 q3) fun w' s4 ⟨z', H4, I4, r4, q4⟩ => ho' pins s4 σ H4 y z' u w' Q I4 r2 r4 q4))
theorem line63 : (sizeLine : Nat) < 2 ^ 63 := by rw [sizeLine_eq]; decide
theorem vals1 {x : V} {us : List Value} (r : Vals [x] us) : ∃ u, us = [u] ∧ RelV x u := by
  cases r with
  | cons r1 r2 => cases r2; exact ⟨_, rfl, r1⟩
theorem vals2 {x y : V} {us : List Value} (r : Vals [x, y] us) : ∃ u w', us = [u, w'] ∧ RelV x u ∧ RelV y w' := by
  cases r with
  | cons r1 r2 =>
    cases r2 with
    | cons r3 r4 => cases r4; exact ⟨_, _, rfl, r1, r3⟩
theorem call_max2 (hc : X.calm = true) : CallR X (.builtin "max") (fun xs H Q => ∃ i j, xs = [.int i, .int j] ∧ Q (.int (if j > i then j else i)) H) := by
  intro pins s σ H xs us Q I r h
  obtain ⟨i, j, rfl, q⟩ := h
  obtain ⟨u, w', rfl, ⟨t, rfl⟩, ⟨t', rfl⟩⟩ := vals2 r
  refine max_two_ints (I.ok.hd hc) fun h' tk k => ⟨_, H, I.kept k, ?_, q⟩
  by_cases hj : j > i
  · rw [if_pos hj, if_pos hj]; exact ⟨_, rfl⟩
  · rw [if_neg hj, if_neg hj]; exact ⟨_, rfl⟩
theorem call_min2 (hc : X.calm = true) : CallR X (.builtin "min") (fun xs H Q => ∃ i j, xs = [.int i, .int j] ∧ Q (.int (if j < i then j else i)) H) := by
  intro pins s σ H xs us Q I r h
  obtain ⟨i, j, rfl, q⟩ := h
  obtain ⟨u, w', rfl, ⟨t, rfl⟩, ⟨t', rfl⟩⟩ := vals2 r
  refine min_two_ints (I.ok.hd hc) fun h' tk k => ⟨_, H, I.kept k, ?_, q⟩
  by_cases hj : j < i
  · rw [if_pos hj, if_pos hj]; exact ⟨_, rfl⟩
  · rw [if_neg hj, if_neg hj]; exact ⟨_, rfl⟩
end
end L2
namespace L2
open PySem PySem.Spec PyProof.Rows
structure ObjM (h : Heap) (x dx C : Addr) (mA : Str → Option Value) : Prop where
  obj : h.get? x = some (PySem.W.instObj C dx)
  ns : h.Ns1 dx mA
  ne : dx ≠ x
theorem lookIn_ns {h : Heap} {dx : Addr} {mA : Str → Option Value} (n : h.Ns1 dx mA) : ∃ od, h.get? dx = some od ∧ ∀ name, PySem.W.lookIn name od = some (mA name) := by
  obtain ⟨o, es, ep, ho, hd, hk, _, hm⟩ := n
  refine ⟨o, ho, fun name => ?_⟩
  have e := hm name
  unfold nsFind findBy at e
  rw [← Array.find?_toList] at e
  unfold PySem.W.lookIn
  rw [hd]
  dsimp only
  split
  · rename_i y q
    rw [q] at e
    exact congrArg some e
  · rename_i q
    rw [q] at e
    have a : es.toList.any (·.refKey) = false := by
      rw [List.any_eq_false]
      intro y hy
      obtain ⟨z, t, hkey⟩ := hk y (Array.mem_toList_iff.mp hy)
      simp [DictEntry.refKey, hkey]
    have a' : ¬ es.toList.any (·.refKey) = true := by rw [a]; exact Bool.false_ne_true
    rw [if_neg a']
    exact congrArg some e
theorem ObjM.look {h : Heap} {x dx C : Addr} {mA : Str → Option Value} (I : ObjM h x dx C mA) : ∃ od, PySem.W.InstAt h x (PySem.W.instObj C dx) C (some od) ∧ ∀ name, PySem.W.lookIn name od = some (mA name) :=
  let ⟨od, ho, hl⟩ := lookIn_ns I.ns
  ⟨od, ⟨I.obj, rfl, rfl, ho⟩, hl⟩
section
variable {prog : Program} {w : World} {A : Around} {E : Value → Shared → Prop} {s : Shared} {K : PySem.W.Frag} {x dx C f : Addr} {mA : Str → Option Value} {name : Str} {v : Value}
theorem get_map {expr : Bool} {Q : Value → Shared → Prop} (X : K.In s.heap) (I : ObjM s.heap x dx C mA) (hg : PySem.W.plainGet K C name = true) (hh : PySem.W.hasDictIn K C = true)
    (ha : PySem.W.findIn K (.ref C) name = some none) (hv : mA name = some v) (hv' : PySem.W.handedIn v = true) (h : Q v { s with toks := s.toks + 1 }) :
    wpAny (model prog w) A (getAttr (.ref x) name expr) Q E s := by
  obtain ⟨od, J, hl⟩ := I.look
  exact PySem.W.get_value X J (PySem.W.plainGet_of hg).1 (PySem.W.findObj_own hh ha rfl (by rw [hl, hv])) hv' h
theorem set_map {ns : List Str} {Q : Unit → Shared → Prop} (X : K.In s.heap) (I : ObjM s.heap x dx C mA)
    (hs : PySem.W.findIn K (.ref C) "__setattr__" = some (some (.builtin "object.__setattr__"))) (hp : PySem.W.plainOver K C = true) (ht : PySem.W.takerIn K C name = some none) (hh : PySem.W.hasDictIn K C = true)
    (hw : PySem.Within mA ns) (hsz : ns.length ≤ sizeLine)
    (h : ∀ h', ObjM h' x dx C (fun y => if y = name then some v else mA y) → Heap.SameBut dx s.heap h' → Q () { s with heap := h', toks := s.toks + 2 }) :
    wpAny (model prog w) A (setAttr (.ref x) name v) Q E s := by
  obtain ⟨od, J, hl⟩ := I.look
  refine PySem.W.set_plain X J hs (PySem.W.osa_open (s := { s with toks := s.toks + 1 }) (r := none) X J hp ht fun b => ?_)
  obtain ⟨cd, hc, hd'⟩ := PySem.W.any_some hh
  have hx : s.heap.get? x = some ⟨.ref C, some dx, .plain, #[]⟩ := I.obj
  refine wpAny_bind (wpAny_pure (wpAny_bind (wpAny_bind (wpAny_loadPart hx (wpAny_bind (PySem.W.Looks.here (s := { s with toks := s.toks + 1 }) (PySem.W.looks_clsIn X hc) ?_))))))
  rw [hd']
  refine wpAny_pure (a := some dx) (wpAny_bind (wpAny_pure (wpAny_bind ?_)))
  refine wpAny_nsSet1 (s := { s with toks := s.toks + 1 }) I.ns fun h' hn2 hs2 => ?_
  obtain ⟨oD, esD, epD, hoD, hdD, hcD⟩ := hn2.count (PySem.Within.cons name v hw)
  refine wpAny_bind (wpAny_lookBehind hoD (by rw [hdD]; exact pastItsLine_dict (Nat.le_trans hcD (by rw [List.length_cons]; omega))) ?_)
  exact wpAny_pure (h _ ⟨(hs2.2 _ (Ne.symm I.ne)).trans I.obj, hn2, I.ne⟩ hs2)
theorem make_map {R : Result → Shared → Prop} {vs : List Value} {kw : List (Str × Value)} (X : K.In s.heap) (hm : PySem.W.makesIn K C = true)
    (hi : PySem.W.findIn K (.ref C) "__init__" = some (some (.ref f))) (hf : PySem.W.typeIn K (.ref f) = some (.type "function"))
    (h : codeAny (model prog w) (A.under (.builtin "type.__call__" ⟨.ref C :: vs, kw⟩)) (.call (.ref f) ⟨.ref (s.heap.objs.size + 1) :: vs, kw⟩) (PySem.W.InitBack (s.heap.objs.size + 1) R)
      { s with heap := (s.heap.push PySem.W.emptyDict).push (PySem.W.instObj C s.heap.objs.size) }) :
    codeAny (model prog w) A (.call (.ref C) ⟨vs, kw⟩) R s := by
  obtain ⟨hh, g, d, t, os⟩ := s
  exact PySem.W.make_core (PySem.W.makes_of X hm) (PySem.W.looks_findIn X hi) (fun self => PySem.W.bind_fn X self hf) (.inl rfl) h
end
def putF (f : Str) (v : V) : List (Str × V) → List (Str × V)
  | [] => [(f, v)]
  | (g, x) :: r => if g = f then (g, v) :: r else (g, x) :: putF f v r
theorem lookup_putF (f g : Str) (v : V) : ∀ fs : List (Str × V), (putF f v fs).lookup g = if g = f then some v else fs.lookup g
  | [] => by
    show List.lookup g [(f, v)] = _
    by_cases h : g = f
    · have hb : (g == f) = true := beq_iff_eq.mpr h
      simp only [List.lookup, hb, if_pos h]
    · have hb : (g == f) = false := beq_eq_false_iff_ne.mpr h
      simp only [List.lookup, hb, if_neg h]
  | (k, x) :: r => by
    have ih := lookup_putF f g v r
    rw [show putF f v ((k, x) :: r) = (if k = f then (k, v) :: r else (k, x) :: putF f v r) from rfl]
    by_cases hk : k = f
    · rw [if_pos hk]
      by_cases h : g = k
      · have hb : (g == k) = true := beq_iff_eq.mpr h
        simp only [List.lookup, hb, if_pos (h.trans hk)]
      · have hb : (g == k) = false := beq_eq_false_iff_ne.mpr h
        simp only [List.lookup, hb, if_neg (fun e : g = f => h (e.trans hk.symm))]
    · rw [if_neg hk]
      by_cases h : g = k
      · have hb : (g == k) = true := beq_iff_eq.mpr h
        simp only [List.lookup, hb, if_neg (fun e : g = f => hk (h.symm.trans e))]
      · have hb : (g == k) = false := beq_eq_false_iff_ne.mpr h
        simp only [List.lookup, hb]
        exact ih
theorem keys_putF (f : Str) (v : V) : ∀ fs : List (Str × V), f ∈ (putF f v fs).map (·.1) ∧ ∀ g, g ∈ fs.map (·.1) → g ∈ (putF f v fs).map (·.1)
  | [] => ⟨by simp [putF], fun g h => by simp at h⟩
  | (k, x) :: r => by
    obtain ⟨i1, i2⟩ := keys_putF f v r
    rw [show putF f v ((k, x) :: r) = (if k = f then (k, v) :: r else (k, x) :: putF f v r) from rfl]
    by_cases hk : k = f
    · rw [if_pos hk]
      subst hk
      exact ⟨by simp, fun g h => by simpa using h⟩
    · rw [if_neg hk]
      refine ⟨?_, fun g h => ?_⟩
      · rw [List.map_cons]
        exact List.mem_cons_of_mem _ i1
      · rw [List.map_cons] at h ⊢
        rcases List.mem_cons.mp h with e | e
        · exact List.mem_cons.mpr (.inl e)
        · exact List.mem_cons_of_mem _ (i2 g e)
theorem length_putF (f : Str) (v : V) : ∀ fs : List (Str × V), (putF f v fs).length ≤ fs.length + 1
  | [] => by simp [putF]
  | (k, x) :: r => by
    have ih := length_putF f v r
    rw [show putF f v ((k, x) :: r) = (if k = f then (k, v) :: r else (k, x) :: putF f v r) from rfl]
    by_cases hk : k = f
    · rw [if_pos hk, List.length_cons, List.length_cons]; omega
    · rw [if_neg hk, List.length_cons, List.length_cons]; omega
theorem RelO.some_of {v : V} {o : Option Value} (r : RelO (some v) o) : ∃ u, o = some u ∧ RelV v u := by
  cases o with
  | none => exact (show False from r).elim
  | some u => exact ⟨u, rfl, r⟩
theorem handed_of {v : V} {u : Value} (r : RelV v u) : PySem.W.handedIn u = true := by
  cases v with
  | non => cases (show u = Value.none from r); rfl
  | bl b => cases (show u = Value.bool b from r); rfl
  | int i => obtain ⟨t, e⟩ := (show ∃ t, u = Value.int i t from r); cases e; rfl
  | str x => obtain ⟨t, e⟩ := (show ∃ t, u = Value.str x t from r); cases e; rfl
  | byt b => obtain ⟨t, e⟩ := (show ∃ t, u = Value.bytes b t from r); cases e; rfl
  | flt b => obtain ⟨t, e⟩ := (show ∃ t, u = Value.float b t from r); cases e; rfl
  | ref a => cases (show u = Value.ref a from r); rfl
  | ty n => cases (show u = Value.type n from r); rfl
section
variable {P : Program} {w : World} {H H' : Hp} {h h' : Heap} {a C dx : Addr} {fs fs' : List (Str × V)}
theorem ins_get (hok : HOk P w H h) (e : H a = some (.ins C dx fs)) : ∃ mA, ObjM h a dx C mA ∧ (∀ f, RelO (fs.lookup f) (mA f)) ∧ PySem.Within mA (fs.map (·.1)) ∧ fs.length ≤ 1000 ∧ H dx = some (.own a) := by
  obtain ⟨d, z, ne, ob, mA, n, r, q⟩ := (show ObjOk P w H h a (.ins C dx fs) from hok a _ e)
  exact ⟨mA, ⟨ob, n, ne⟩, r, q, z, d⟩
end
structure Cls (K : PySem.W.Frag) (C : Addr) : Prop where
  pg : PySem.W.plainGet K C Str.empty = true
  hd : PySem.W.hasDictIn K C = true
  po : PySem.W.plainOver K C = true
  sa : PySem.W.findIn K (.ref C) "__setattr__" = some (some (.builtin "object.__setattr__"))
theorem Cls.get {K : PySem.W.Frag} {C : Addr} (c : Cls K C) (f : Str) : PySem.W.plainGet K C f = true := c.pg
def NoAttr (K : PySem.W.Frag) (C : Addr) (f : Str) : Prop := PySem.W.findIn K (.ref C) f = some none
theorem NoAttr.taker {K : PySem.W.Frag} {C : Addr} {f : Str} (n : NoAttr K C f) : PySem.W.takerIn K C f = some none := by
  unfold PySem.W.takerIn
  rw [show PySem.W.findIn K (.ref C) f = some none from n]
  rfl
section
variable {X : Cx} {pins : List (Addr × Obj)} {σ : St} {H : Hp} {s : Shared} {a C dx : Addr} {fs : List (Str × V)} {f : Str} {v : V} {A : Around} {E : Value → Shared → Prop}
theorem getattr_ok {b : Bool} {Q : Value → Shared → Prop} (I : Inv X pins σ H s) (e : H a = some (.ins C dx fs)) (c : Cls X.K C) (n : NoAttr X.K C f) (l : fs.lookup f = some v)
    (h : ∀ u s', Inv X pins σ H s' → RelV v u → Q u s') : wpAny (model X.prog X.w) A (getAttr (.ref a) f b) Q E s := by
  obtain ⟨mA, O, r, _, _, _⟩ := ins_get I.hok e
  obtain ⟨u, hu, ru⟩ := RelO.some_of (v := v) (o := mA f) (by rw [← l]; exact r f)
  exact get_map I.kIn O (c.get f) c.hd n hu (handed_of ru) (h u _ (I.tok _) ru)
theorem setattr_ok {y : V} {u : Value} {Q : Unit → Shared → Prop} (I : Inv X pins σ H s) (e : H a = some (.ins C dx fs)) (c : Cls X.K C) (n : NoAttr X.K C f) (hl : fs.length < 1000) (ry : RelV y u)
    (h : ∀ s', Inv X pins σ (upd H a (.ins C dx (putF f y fs))) s' → Q () s') : wpAny (model X.prog X.w) A (setAttr (.ref a) f u) Q E s := by
  obtain ⟨mA, O, r, wi, _, ho⟩ := ins_get I.hok e
  have hz : (fs.map (·.1)).length ≤ sizeLine := by rw [List.length_map, sizeLine_eq]; omega
  refine set_map I.kIn O c.sa c.po n.taker c.hd wi hz fun h' O' sb => h _ ?_
  have hd : ∃ o, h'.get? dx = some o := let ⟨o, _, _, e', _⟩ := O'.ns; ⟨o, e'⟩
  refine I.write (x := a) (e := dx) (by rw [e]; exact True.intro) (.inr ho) (fun b q hb z => (sb.2 b hb).trans z) hd ?_
  refine ⟨by rw [upd_ne O.ne]; exact ho, ?_, O.ne, O'.obj, _, O'.ns, fun g => ?_, fun g hg => ?_⟩
  · have := length_putF f y fs; omega
  · show RelO ((putF f y fs).lookup g) (if g = f then some u else mA g)
    rw [lookup_putF]
    by_cases q : g = f
    · rw [if_pos q, if_pos q]; exact ry
    · rw [if_neg q, if_neg q]; exact r g
  · by_cases q : g = f
    · rw [q]; exact (keys_putF f y fs).1
    · refine (keys_putF f y fs).2 g (wi g fun z => hg ?_)
      show (if g = f then some u else mA g) = none
      rw [if_neg q]; exact z
theorem Inv.made (I : Inv X pins σ H s) : Inv X pins σ (upd (upd H s.heap.objs.size (.own (s.heap.objs.size + 1))) (s.heap.objs.size + 1) (.ins C s.heap.objs.size []))
    { s with heap := (s.heap.push PySem.W.emptyDict).push (PySem.W.instObj C s.heap.objs.size) } := by
  have e1 : (s.heap.push PySem.W.emptyDict).get? s.heap.objs.size = some PySem.W.emptyDict := Heap.get?_push_size s.heap rfl
  have e2 : ((s.heap.push PySem.W.emptyDict).push (PySem.W.instObj C s.heap.objs.size)).get? (s.heap.objs.size + 1) = some (PySem.W.instObj C s.heap.objs.size) := by
    have := Heap.get?_push_size (s.heap.push PySem.W.emptyDict) (o := PySem.W.instObj C s.heap.objs.size) rfl
    rwa [Heap.size_push] at this
  have e3 : (s.heap.push PySem.W.emptyDict).Ns s.heap.objs.size (fun _ => none) := ⟨PySem.W.emptyDict, #[], _, e1, rfl, (fun e he => absurd he (by simp)), fun _ => rfl⟩
  have I1 := I.laid (a := s.heap.objs.size) (o := .own (s.heap.objs.size + 1)) (h' := s.heap.push PySem.W.emptyDict) (t' := s.toks) (fun b u q => Heap.get?_push_of_some _ q) (Nat.le_refl _) ⟨_, e1⟩
  refine I1.laid (a := s.heap.objs.size + 1) (o := .ins C s.heap.objs.size []) (t' := s.toks) (fun b u q => Heap.get?_push_of_some _ q) (Nat.le_of_eq (Heap.size_push _ _)) ?_
  have ne : s.heap.objs.size ≠ s.heap.objs.size + 1 := Nat.ne_of_lt (Nat.lt_succ_self _)
  refine ⟨by rw [upd_ne ne, upd_same], Nat.zero_le _, ne, e2, fun _ => none, (Heap.Ns1.of_empty e3).at fun o q => Heap.get?_push_of_some _ q, fun _ => True.intro, fun y hy => absurd rfl hy⟩
theorem attr_of {prog : Program} {w : World} {env : Env} {e : Expr} {f : Str} {pos : Pos} {s : Shared} {Q : Value → Shared → Prop} (hb : attributeBase e f env (eval e env) = eval e env)
    (h : wpAny (model prog w) A (eval e env) (fun o s₁ => wpAny (model prog w) A (getAttr o f true) Q E s₁) E s) : wpAny (model prog w) A (eval (.Attribute e f pos) env) Q E s :=
  Attribute_any_ h (by rw [arm_eval_Attribute, hb])
end
def tFld (K : PySem.W.Frag) (ta : TE) (f : Str) : TE := fun σ H Q => ta σ H fun x H1 => ∃ a C dx fs v, x = .ref a ∧ H1 a = some (.ins C dx fs) ∧ Cls K C ∧ NoAttr K C f ∧ fs.lookup f = some v ∧ Q v H1
def sFld (K : PySem.W.Frag) (ta tv : TE) (f : Str) : TS := fun D σ H => tv σ H fun y H1 => ta σ H1 fun x H2 => ∃ a C dx fs, x = .ref a ∧ H2 a = some (.ins C dx fs) ∧ Cls K C ∧ NoAttr K C f ∧ fs.length < 1000 ∧
  D.nx σ (upd H2 a (.ins C dx (putF f y fs)))
def InOp (X : Cx) (op : Operator) (rd : V → V → Hp → VK → Prop) : Prop :=
  ∀ (pins : List (Addr × Obj)) (s : Shared) (σ : St) (H : Hp) (x y : V) (u v : Value) (Q : VK), Inv X pins σ H s → RelV x u → RelV y v → rd x y H Q → wpAny (model X.prog X.w) X.A (inplaceOp op u v) (EP X pins σ Q) X.xe s
def sFldAug (K : PySem.W.Frag) (ta tv : TE) (rd : V → V → Hp → VK → Prop) (f : Str) : TS := fun D σ H => ta σ H fun x H1 => ∃ a C dx fs v, x = .ref a ∧ H1 a = some (.ins C dx fs) ∧ Cls K C ∧ NoAttr K C f ∧ fs.lookup f = some v ∧
  tv σ H1 fun y H2 => rd v y H2 fun z H3 => ∃ dx' fs', H3 a = some (.ins C dx' fs') ∧ fs'.length < 1000 ∧ D.nx σ (upd H3 a (.ins C dx' (putF f z fs')))
section
variable {X : Cx} {o e value : Expr} {f : Str} {pos pos' tpos : Pos} {ta tv : TE}
theorem pe_fld (he : PE X e ta) (hb : attributeBase e f X.env (eval e X.env) = eval e X.env) : PE X (.Attribute e f pos) (tFld X.K ta f) := by
  intro pins s σ H Q I h
  refine attr_of hb (thn (he pins s σ H _ I h) fun u s1 ⟨x, H1, I1, rx, a, C, dx, fs, v, ex, ea, c, n, l, q⟩ => ?_)
  subst ex
  obtain rfl : u = Value.ref a := rx
  exact getattr_ok I1 ea c n l fun u' s2 I2 ru => ⟨v, H1, I2, ru, q⟩
theorem ps_fld (ha : PE X o ta) (hv : PE X value tv) (hs : swapsWith value (some (.Attribute o f pos')) pos.line X.env = pure false) : PS X (.Assign [.Attribute o f pos'] value pos) (sFld X.K ta tv f) := by
  intro pins s σ H D I h
  refine plainObj_wpAny_Assign_Attribute (thn (hv pins s σ H _ I h) fun u s1 ⟨y, H1, I1, ry, q⟩ => thn (ha pins s1 σ H1 _ I1 q) fun ov s2 ⟨x, H2, I2, rx, a, C, dx, fs, ex, ea, c, n, l, q2⟩ => ?_) hs
  subst ex
  obtain rfl : ov = Value.ref a := rx
  exact setattr_ok I2 ea c n l ry fun s3 I3 => ⟨σ, _, I3, q2⟩
theorem ps_fldaug {op : Operator} {rd : V → V → Hp → VK → Prop} (ha : PE X o ta) (hv : PE X value tv) (hop : InOp X op rd) : PS X (.AugAssign (.Attribute o f tpos) op value pos) (sFldAug X.K ta tv rd f) := by
  intro pins s σ H D I h
  refine wpAny_AugAssign_AttributeAny (thn (ha pins s σ H _ I h) fun ov s1 ⟨x, H1, I1, rx, a, C, dx, fs, v, ex, ea, c, n, l, q⟩ => ?_)
  subst ex
  obtain rfl : ov = Value.ref a := rx
  refine getattr_ok I1 ea c n l fun u s2 I2 ru => thn (hv pins s2 σ H1 _ I2 q) fun w3 s3 ⟨y, H2, I3, ry, q3⟩ => thn (hop pins s3 σ H2 v y u w3 _ I3 ru ry q3) fun w4 s4 ⟨z, H3, I4, rz, dx', fs', ea', l', q4⟩ => ?_
  exact setattr_ok I4 ea' c n l' rz fun s5 I5 => ⟨σ, _, I5, q4⟩
def rAdd : V → V → Hp → VK → Prop := fun x y H Q => ∃ i j, x = .int i ∧ y = .int j ∧ Q (.int (i + j)) H
theorem in_add : InOp X .Add rAdd := by
  rintro pins s σ H x y u v Q I rx ry ⟨i, j, rfl, rfl, q⟩
  obtain ⟨t, rfl⟩ := (show ∃ t, u = Value.int i t from rx)
  obtain ⟨t', rfl⟩ := (show ∃ t', v = Value.int j t' from ry)
  exact PyProof.Rows.iadd_int ⟨.int (i + j), H, I.tok _, ⟨_, rfl⟩, q⟩
end
end L2
namespace L2
open PySem PySem.Spec PyProof.Rows
structure Room (k : Nat) (A : Around) : Prop where
  hd : A.handled = none
  dp : A.depth + 3 * k + 5 < recursionLimit
  un : A.units + 16 * k + 200 < cLine
theorem Room.mono {j k : Nat} {A : Around} (r : Room k A) (h : j ≤ k) : Room j A := ⟨r.hd, by have := r.dp; omega, by have := r.un; omega⟩
theorem Room.deeper {k : Nat} {A : Around} (r : Room (k + 1) A) (env : Env) : Room k (A.deeper env) :=
  ⟨r.hd, by have := r.dp; show A.depth + 1 + 3 * k + 5 < _; omega, by have := r.un; show A.units + 3 + 16 * k + 200 < _; omega⟩
theorem make_depth {A : Around} {C : Addr} {us : List Value} {kw : List (Str × Value)} : (A.under (.builtin "type.__call__" ⟨.ref C :: us, kw⟩)).depth = A.depth + 1 := by
  first | rfl | simp [Around.under, Code.weight, Code.isCreation, Code.isGuard, Code.isCaller, Code.frames, Code.isFrame, guardIds]
theorem make_units {A : Around} {C : Addr} {us : List Value} {kw : List (Str × Value)} : (A.under (.builtin "type.__call__" ⟨.ref C :: us, kw⟩)).units = A.units + 1 := by
  first | rfl | simp [Around.under, Code.cUnits, Code.frames, Code.isFrame]
theorem Room.make {k : Nat} {A : Around} (r : Room (k + 1) A) (C : Addr) (us : List Value) (kw : List (Str × Value)) : Room k (A.under (.builtin "type.__call__" ⟨.ref C :: us, kw⟩)) :=
  ⟨r.hd, by have := r.dp; rw [make_depth]; omega, by have := r.un; rw [make_units]; omega⟩
theorem Room.depth {k : Nat} {A : Around} (r : Room k A) : A.depth < recursionLimit := by have := r.dp; omega
theorem Room.units {k : Nat} {A : Around} (r : Room k A) : A.units + 64 < cLine := by have := r.un; omega
def tNil : TA := fun _ H Q => Q [] H
def tCons (ta : TE) (tr : TA) : TA := fun σ H Q => ta σ H fun x H1 => tr σ H1 fun xs H2 => Q (x :: xs) H2
section
variable {X : Cx} {e : Expr} {es : List Expr} {te : TE} {t : TA} {pos : Pos}
theorem pa_nil : PA X [] tNil := fun _ _ _ _ H Q I h => Calls.spliced_nil ⟨[], H, I, .nil, h⟩
theorem pa_cons (ha : PE X e te) (hr : PA X es t) (hs : starEach (e :: es) X.env = (false, eval e X.env) :: starEach es X.env := by rfl) : PA X (e :: es) (tCons te t) := by
  intro pos pins s σ H Q I h
  rw [hs]
  show wpAny _ _ (spliced ((false, eval e X.env) :: backTo pos (starEach es X.env))) _ _ s
  refine Calls.spliced_cons (thn (ha pins s σ H _ I h) fun u s1 ⟨x, H1, I1, r1, q1⟩ => ?_)
  exact thn (hr pos pins s1 σ H1 _ I1 q1) fun us s2 ⟨xs, H2, I2, r2, q2⟩ => ⟨x :: xs, H2, I2, .cons r1 r2, q2⟩
def tTup (t : TA) : TE := fun σ H Q => t σ H fun xs H1 => xs.length ≤ sizeLine ∧ ∀ p, H1 p = none → Q (.ref p) (upd H1 p (.tup xs))
def tLst (t : TA) : TE := fun σ H Q => t σ H fun xs H1 => xs.length ≤ sizeLine ∧ ∀ p, H1 p = none → Q (.ref p) (upd H1 p (.lst xs))
theorem pe_tup {x1} (h : PA X es t) : PE X (.Tuple es x1 pos) (tTup t) := by
  intro pins s σ H Q I hq
  refine wpAny_Tuple_spliced (thn (h pos pins s σ H _ I hq) fun us s1 ⟨xs, H1, I1, r, z, q⟩ => ⟨by rw [← r.length]; exact z, ?_⟩)
  have hf : H1 s1.heap.objs.size = none := I1.hok.fresh (Nat.le_refl _)
  refine ⟨.ref s1.heap.objs.size, upd H1 s1.heap.objs.size (.tup xs), I1.laid (t' := s1.toks) (fun b u e => Heap.get?_push_of_some _ e) (Nat.le_refl _) ?_, rfl, q _ hf⟩
  exact ⟨z, us, r, ⟨_, Heap.get?_push_size _ rfl, rfl, _, rfl⟩⟩
theorem pe_lst (h : PA X es t) : PE X (.List es pos) (tLst t) := by
  intro pins s σ H Q I hq
  refine wpAny_List_spliced (thn (h pos pins s σ H _ I hq) fun us s1 ⟨xs, H1, I1, r, z, q⟩ => ⟨by rw [← r.length]; exact z, ?_⟩)
  have hf : H1 s1.heap.objs.size = none := I1.hok.fresh (Nat.le_refl _)
  refine ⟨.ref s1.heap.objs.size, upd H1 s1.heap.objs.size (.lst xs), I1.laid (t' := s1.toks) (fun b u e => Heap.get?_push_of_some _ e) (Nat.le_refl _) ?_, rfl, q _ hf⟩
  exact ⟨z, us, 0, r, Heap.get?_push_size _ rfl⟩
end
abbrev Sp := List V → Hp → VK → XK → Prop
abbrev CXT := List Env → Hp → Shared → XK → Value → Shared → Prop
structure Env0 (P : Program) (w : World) (K : PySem.W.Frag) (mg : Str → Option Value) (base : Heap) (A : Around) (outer : List Env) (s : Shared) (H : Hp) : Prop where
  frames : A.frames = some outer
  mod : Mod K mg base
  bs : ∀ b o, base.get? b = some o → s.heap.get? b = some o ∧ H b = none
  bsz : base.objs.size ≤ s.heap.objs.size
  funs : s.heap.FunFrames base outer
  frf : ∀ b ∈ frs outer, H b = none
  hok : HOk P w H s.heap
  bare : AllBare s.gens
def CE (outer : List Env) (P : Program) (w : World) (H : Hp) (s : Shared) (Q : VK) (u : Value) (s' : Shared) : Prop :=
  ∃ v H', s'.os = s.os ∧ AllBare s'.gens ∧ Un (frs outer) [] H H' s.heap s'.heap ∧ HOk P w H' s'.heap ∧ RelV v u ∧ Q v H'
def CR (CX : CXT) (outer : List Env) (P : Program) (w : World) (H : Hp) (s : Shared) (Q : VK) (E : XK) (r : Result) (s' : Shared) : Prop :=
  match r with
  | .ok (.ret u) => CE outer P w H s Q u s'
  | .ok _ => False
  | .error e => CX outer H s E e s'
structure FnOk (P : Program) (w : World) (K : PySem.W.Frag) (mg : Str → Option Value) (base : Heap) (CX : CXT) (k : Nat) (f : Addr) (fd : FuncData) (ps : List Str) (sp : Sp) : Prop where
  len : ∀ vs H Q E, sp vs H Q E → vs.length = ps.length
  run : ∀ (A : Around) (outer : List Env) (s : Shared) (H : Hp) (args : Args) (us : List Value) (vs : List V) (Q : VK) (E : XK), Room k A → Env0 P w K mg base A outer s H → BindsTo s fd args (ps.zip us) → Vals vs us → sp vs H Q E →
    codeAny (model P w) A (.call (.ref f) args) (CR CX outer P w H s Q E) s
theorem Env0.make {P : Program} {w : World} {K : PySem.W.Frag} {mg : Str → Option Value} {base : Heap} {A : Around} {outer : List Env} {s : Shared} {H : Hp} (e : Env0 P w K mg base A outer s H) (C : Addr) (us : List Value) (kw : List (Str × Value)) :
    Env0 P w K mg base (A.under (.builtin "type.__call__" ⟨.ref C :: us, kw⟩)) outer s H := ⟨by first | exact e.frames | (simpa [Around.under, Code.envs, Code.isFrame, pushEnvs] using e.frames), e.mod, e.bs, e.bsz, e.funs, e.frf, e.hok, e.bare⟩
section
variable {X : Cx} {pins : List (Addr × Obj)} {σ : St} {H : Hp} {s s' : Shared}
theorem Inv.env0 (I : Inv X pins σ H s) : Env0 X.prog X.w X.K X.mg X.base X.A X.stack s H :=
  ⟨I.ok.frames, I.ok.mod, I.bs, Nat.le_trans I.ok.bsz I.sz, I.stack, I.stkFree, I.hok, I.bare⟩
theorem Inv.after {Q : VK} {u : Value} (I : Inv X pins σ H s) (h : CE X.stack X.prog X.w H s Q u s') : EP X pins σ Q u s' := by
  obtain ⟨v, H', os, bare, un, hok, r, q⟩ := h
  obtain ⟨hh, g, d, t, os'⟩ := s'
  obtain rfl : os' = s.os := os
  exact ⟨v, H', I.call (h' := hh) (g' := g) (d' := d) (t' := t) (ch := []) un hok bare (fun b z => absurd z (by simp)), r, q⟩
end
def tCall (sp : Sp) (dvs : List V) (E : XK) (t : TA) : TE := fun σ H Q => t σ H fun vs H1 => sp (vs ++ dvs) H1 Q E
def tMake (C : Addr) (sp : Sp) (dvs : List V) (E : XK) (t : TA) : TE := fun σ H Q => t σ H fun vs H1 => ∀ x dx, H1 x = none → H1 dx = none → dx ≠ x →
  sp (.ref x :: (vs ++ dvs)) (upd (upd H1 dx (.own x)) x (.ins C dx [])) (fun v H2 => v = .non ∧ Q (.ref x) H2) E
def Binds (K : PySem.W.Frag) (fd : FuncData) (ps : List Str) (ds : List Value) : Prop :=
  ∀ (s : Shared) (us : List Value), K.In s.heap → (us ++ ds).length = ps.length → BindsTo s fd ⟨us, []⟩ (ps.zip (us ++ ds))
theorem Binds.all {K : PySem.W.Frag} {fd : FuncData} {ps : List Str} (h : ∀ us : List Value, us.length = ps.length → bindArgs fd ⟨us, []⟩ = pure (ps.zip us)) : Binds K fd ps [] := fun s us _ hl => by
  rw [List.append_nil] at hl ⊢
  exact .of_eq (h us hl)
def Passes (CX : CXT) (X : Cx) (E : XK) : Prop := ∀ (pins : List (Addr × Obj)) (σ : St) (H : Hp) (s : Shared) (e : Value) (s' : Shared), Inv X pins σ H s → CX X.stack H s E e s' → X.xe e s'
section
variable {X : Cx} {CX : CXT} {k : Nat} {f C : Addr} {fd : FuncData} {ps : List Str} {sp : Sp} {dvs : List V} {ds : List Value} {E : XK} {x m : Str} {p pos apos : Pos} {e o : Expr} {es : List Expr} {ta : TE} {t : TA}
theorem run_fn {pins : List (Addr × Obj)} {σ : St} {H : Hp} {s : Shared} {Q : VK} {us : List Value} {vs : List V} (F : FnOk X.prog X.w X.K X.mg X.base CX k f fd ps sp) (hr : Room k X.A) (hb : Binds X.K fd ps ds) (hd : Vals dvs ds) (hx : Passes CX X E)
    (I : Inv X pins σ H s) (r : Vals vs us) (h : sp (vs ++ dvs) H Q E) : wpAny (model X.prog X.w) X.A (call (.ref f) us) (EP X pins σ Q) X.xe s := by
  have r2 : Vals (vs ++ dvs) (us ++ ds) := r.append hd
  have hl : (us ++ ds).length = ps.length := by rw [← r2.length]; exact F.len _ _ _ _ h
  refine wpAny_call (codeAny_mono (F.run X.A X.stack s H ⟨us, []⟩ (us ++ ds) (vs ++ dvs) Q E hr I.env0 (hb s us I.kIn hl) r2 h) fun r s' hq => ?_)
  cases r with
  | error e => exact hx pins σ H s e s' I hq
  | ok fl =>
    cases fl with
    | ret u => exact I.after hq
    | next => exact False.elim hq
    | brk => exact False.elim hq
    | cont => exact False.elim hq
theorem pe_call (F : FnOk X.prog X.w X.K X.mg X.base CX k f fd ps sp) (hr : Room k X.A) (hg : Gl X x) (hm : X.mg x = some (.ref f)) (hk : PySem.W.keepIn X.K (.ref f) = true) (hb : Binds X.K fd ps ds) (hd : Vals dvs ds) (hx : Passes CX X E)
    (ha : PA X (e :: es) t) (hdb : (x == ("__debug__" : Str)) = false := by decide) (he : starEach (e :: es) X.env = (false, eval e X.env) :: starEach es X.env := by rfl) (hpl : (backTo pos (starEach es X.env)).any (·.1) = false := by rfl) :
    PE X (.Call (.Name x p) (e :: es) [] pos) (tCall sp dvs E t) := by
  intro pins s σ H Q I h
  refine wpAny_Call_Name_kw (ld_glob I hg hm ?_ hdb)
  refine PySem.W.callWith_K (h₀ := X.base) I.ok.mod.kin hk (thn (ha pos pins s σ H _ I h) fun us s1 ⟨vs, H1, I1, r, q⟩ => ⟨I1.kIn, ?_⟩) he hpl
  exact run_fn F hr hb hd hx I1 r q
structure Mk (K : PySem.W.Frag) (C f : Addr) : Prop where
  makes : PySem.W.makesIn K C = true
  init : PySem.W.findIn K (.ref C) "__init__" = some (some (.ref f))
  fn : PySem.W.isFn K (.ref f) = true
  kp : PySem.W.keepIn K (.ref C) = true
theorem run_make {pins : List (Addr × Obj)} {σ : St} {H : Hp} {s : Shared} {Q : VK} {us : List Value} {vs : List V} (M : Mk X.K C f) (F : FnOk X.prog X.w X.K X.mg X.base CX k f fd ps sp) (hr : Room (k + 1) X.A) (hb : Binds X.K fd ps ds) (hd : Vals dvs ds)
    (hx : Passes CX X E) (I : Inv X pins σ H s) (r : Vals vs us)
    (h : ∀ x dx, H x = none → H dx = none → dx ≠ x → sp (.ref x :: (vs ++ dvs)) (upd (upd H dx (.own x)) x (.ins C dx [])) (fun v H2 => v = .non ∧ Q (.ref x) H2) E) :
    wpAny (model X.prog X.w) X.A (call (.ref C) us) (EP X pins σ Q) X.xe s := by
  have hq := h (s.heap.objs.size + 1) s.heap.objs.size (I.hok.fresh (Nat.le_succ _)) (I.hok.fresh (Nat.le_refl _)) (Nat.ne_of_lt (Nat.lt_succ_self _))
  have I2 := Inv.made (C := C) I
  have r2 : Vals (V.ref (s.heap.objs.size + 1) :: (vs ++ dvs)) (Value.ref (s.heap.objs.size + 1) :: (us ++ ds)) := .cons rfl (r.append hd)
  have hl : (Value.ref (s.heap.objs.size + 1) :: us ++ ds).length = ps.length := by
    have e := r2.length
    rw [F.len _ _ _ _ hq] at e
    exact e.symm
  refine wpAny_call (make_map (f := f) I.kIn M.makes M.init (beq_iff_eq.mp M.fn) (codeAny_mono (F.run _ X.stack _ _ ⟨Value.ref (s.heap.objs.size + 1) :: us, []⟩ (Value.ref (s.heap.objs.size + 1) :: (us ++ ds)) _ _ E (hr.make C us [])
    (I2.env0.make C us []) (hb _ (Value.ref (s.heap.objs.size + 1) :: us) I2.kIn hl) r2 hq) fun r s' hq' => ?_))
  cases r with
  | error e => exact hx pins σ _ _ e s' I2 hq'
  | ok fl =>
    cases fl with
    | ret u =>
      obtain ⟨v, H', I3, rv, ev, q3⟩ := I2.after hq'
      subst ev
      exact ⟨rv, ⟨V.ref (s.heap.objs.size + 1), H', I3, rfl, q3⟩⟩
    | next => exact False.elim hq'
    | brk => exact False.elim hq'
    | cont => exact False.elim hq'
theorem pe_make (M : Mk X.K C f) (F : FnOk X.prog X.w X.K X.mg X.base CX k f fd ps sp) (hr : Room (k + 1) X.A) (hg : Gl X x) (hm : X.mg x = some (.ref C)) (hb : Binds X.K fd ps ds) (hd : Vals dvs ds) (hx : Passes CX X E)
    (ha : PA X (e :: es) t) (hdb : (x == ("__debug__" : Str)) = false := by decide) (he : starEach (e :: es) X.env = (false, eval e X.env) :: starEach es X.env := by rfl) (hpl : (backTo pos (starEach es X.env)).any (·.1) = false := by rfl) :
    PE X (.Call (.Name x p) (e :: es) [] pos) (tMake C sp dvs E t) := by
  intro pins s σ H Q I h
  refine wpAny_Call_Name_kw (ld_glob I hg hm ?_ hdb)
  refine PySem.W.callWith_K (h₀ := X.base) I.ok.mod.kin M.kp (thn (ha pos pins s σ H _ I h) fun us s1 ⟨vs, H1, I1, r, q⟩ => ⟨I1.kIn, ?_⟩) he hpl
  exact run_make M F hr hb hd hx I1 r q
theorem pe_make0 (M : Mk X.K C f) (F : FnOk X.prog X.w X.K X.mg X.base CX k f fd ps sp) (hr : Room (k + 1) X.A) (hg : Gl X x) (hm : X.mg x = some (.ref C)) (hb : Binds X.K fd ps ds) (hd : Vals dvs ds) (hx : Passes CX X E)
    (hdb : (x == ("__debug__" : Str)) = false := by decide) : PE X (.Call (.Name x p) [] [] pos) (tMake C sp dvs E tNil) := by
  intro pins s σ H Q I h
  refine wpAny_Call_Name_kw (ld_glob I hg hm ?_ hdb)
  exact PySem.W.callWith_K0 I.kIn M.kp (run_make (us := []) M F hr hb hd hx I .nil h)
end
structure FnScope (N P : List Str) (sc : Scope) : Prop where
  kind : sc.kind = .function
  co : sc.isCoroutine = false
  gen : sc.isGenerator = false
  nd : N.Nodup
  pre : N.take P.length = P
  par : ∀ x ∈ P, sc.names.lookup x = some .local ∨ sc.names.lookup x = some .cell
  nofree : ∀ y ∈ sc.names, y.2 ≠ .free
theorem bindL_out {kindOf : Str → Option NameKind} {x : Str} : ∀ {binds : List (Str × Value)} {m : Str → Option Value}, (∀ v, (x, v) ∉ binds) → bindL kindOf binds m x = m x
  | [], _, _ => rfl
  | (n, v) :: r, m, h => by
    unfold bindL
    rw [bindL_out fun w hw => h w (List.mem_cons_of_mem _ hw)]
    split
    · have : x ≠ n := by rintro rfl; exact h v List.mem_cons_self
      simp [this]
    · rfl
theorem bindC_out {kindOf : Str → Option NameKind} {x : Str} : ∀ {binds : List (Str × Value)} {m : Str → Option Value}, (∀ v, (x, v) ∉ binds) → bindC kindOf binds m x = m x
  | [], _, _ => rfl
  | (n, v) :: r, m, h => by
    unfold bindC
    rw [bindC_out fun w hw => h w (List.mem_cons_of_mem _ hw)]
    split
    · rfl
    · have : x ≠ n := by rintro rfl; exact h v List.mem_cons_self
      simp [this]
theorem bindL_get {kindOf : Str → Option NameKind} {x : Str} {v : Value} : ∀ {P : List Str} {vs : List Value} {i : Nat} {m : Str → Option Value}, P.Nodup → P[i]? = some x → vs[i]? = some v → kindOf x = some .local →
    bindL kindOf (P.zip vs) m x = some v
  | [], _, _, _, _, h, _, _ => by simp at h
  | _ :: _, [], _, _, _, _, h, _ => by simp at h
  | p :: P, w :: vs, 0, m, nd, h1, h2, hk => by
    simp at h1 h2; subst h1; subst h2
    show bindL kindOf ((p, w) :: P.zip vs) m p = _
    unfold bindL
    rw [bindL_out fun v hv => (List.nodup_cons.mp nd).1 (List.of_mem_zip hv).1, if_pos hk]
    simp
  | p :: P, w :: vs, i + 1, m, nd, h1, h2, hk => by
    show bindL kindOf ((p, w) :: P.zip vs) m x = _
    unfold bindL
    exact bindL_get (i := i) (List.nodup_cons.mp nd).2 (by simpa using h1) (by simpa using h2) hk
theorem bindC_get {kindOf : Str → Option NameKind} {x : Str} {v : Value} : ∀ {P : List Str} {vs : List Value} {i : Nat} {m : Str → Option Value}, P.Nodup → P[i]? = some x → vs[i]? = some v → kindOf x ≠ some .local →
    bindC kindOf (P.zip vs) m x = some v
  | [], _, _, _, _, h, _, _ => by simp at h
  | _ :: _, [], _, _, _, _, h, _ => by simp at h
  | p :: P, w :: vs, 0, m, nd, h1, h2, hk => by
    simp at h1 h2; subst h1; subst h2
    show bindC kindOf ((p, w) :: P.zip vs) m p = _
    unfold bindC
    rw [bindC_out fun v hv => (List.nodup_cons.mp nd).1 (List.of_mem_zip hv).1, if_neg hk]
    simp
  | p :: P, w :: vs, i + 1, m, nd, h1, h2, hk => by
    show bindC kindOf ((p, w) :: P.zip vs) m x = _
    unfold bindC
    exact bindC_get (i := i) (List.nodup_cons.mp nd).2 (by simpa using h1) (by simpa using h2) hk
def start (N : List Str) (vs : List V) : St := vs.map some ++ List.replicate (N.length - vs.length) none
def cxOf (CX : CXT) (P : Program) (w : World) (K : PySem.W.Frag) (mg : Str → Option Value) (base : Heap) (N : List Str) (qual : Str) (scope : Scope) (f : Addr) (cd : Value) (A : Around) (outer : List Env) (s : Shared) (H : Hp) (E : XK) : Cx where
  prog := P
  w := w
  K := K
  mg := mg
  base := base
  A := A.deeper (envOfC qual scope s.heap.objs.size f cd)
  N := N
  s_0 := s
  H_0 := H
  env := envOfC qual scope s.heap.objs.size f cd
  outer := outer
  stack := envOfC qual scope s.heap.objs.size f cd :: outer
  ex := []
  calm := true
  fn := fun _ => true
  pn := []
  xe := fun e s' => wpAny (model P w) (A.deeper (envOfC qual scope s.heap.objs.size f cd)) (leaving (envOfC qual scope s.heap.objs.size f cd) e) (fun _ s'' => CX outer H s E e s'') (fun e' s'' => CX outer H s E e' s'') s'
theorem cell_has {sc : Scope} {n : Nat} {x : Str} (h : sc.names.lookup x = some .cell) : ∃ c, (cellsFrom n sc.names []).lookup x = some c := by
  have q := PySem.W.cellsFrom_some sc.names n [] (.inl h)
  exact Option.isSome_iff_exists.mp q
theorem inv_start {CX : CXT} {P : Program} {w : World} {K : PySem.W.Frag} {mg : Str → Option Value} {base : Heap} {N ps : List Str} {qual : Str} {scope : Scope} {f : Addr} {cd : Value} {A : Around} {outer : List Env} {s s1 : Shared} {H : Hp} {E : XK} {us : List Value} {vs : List V}
    (S : FnScope N ps scope) (hd : A.handled = none) (e0 : Env0 P w K mg base A outer s H) (hl : vs.length = ps.length) (r : Vals vs us)
    (x : InCallC s s.heap.objs.size (bindL (envOfC qual scope s.heap.objs.size f cd).kindOf (ps.zip us) fun _ => none) (cellsFrom (s.heap.objs.size + 1) scope.names []) (bindC (envOfC qual scope s.heap.objs.size f cd).kindOf (ps.zip us) fun _ => none) s1) :
    Inv (cxOf CX P w K mg base N qual scope f cd A outer s H E) [] (start N vs) H s1 := by
  have hpl : ps.length ≤ N.length := by have := congrArg List.length S.pre; rw [List.length_take] at this; omega
  obtain ⟨h1, tk, rfl, hk⟩ := x.done
  have noA : ∀ b : Addr, b ∉ (cxOf CX P w K mg base N qual scope f cd A outer s H E).ex := fun b z => absurd (show b ∈ ([] : List Addr) from z) (by simp)
  refine ⟨⟨e0.mod, S.kind, rfl, rfl, Nat.le_refl _, fun y z c h1 h2 => ?_, fun y hy => ?_, fun y c _ h => ?_, fun _ => hd, Around.frames_deeper e0.frames, .inr ⟨rfl, rfl⟩, fun b z => absurd z (noA b), e0.bs, e0.bsz, fun b _ _ => noA b, fun b z => absurd z (noA b), e0.funs, e0.frf⟩,
    rfl, e0.bare, Un.kept hk, ⟨_, x.toInCall.ns, fun i y v h1 h2 h3 => ?_⟩, fun y c h => ⟨_, x.cell y c h⟩, e0.hok.fresh (Nat.le_refl _), fun y c h => ?_, fun p hp => absurd (show p ∈ ([] : List (Addr × Obj)) from hp) (by simp), e0.hok.kept hk, ?_⟩
  · exact name_of_addr x.apart (PySem.mem_of_lookup h1) (PySem.mem_of_lookup h2)
  · have hy : scope.names.lookup y = some .cell ∨ scope.names.lookup y = some .free := hy
    rcases hy with hy | hy
    · exact cell_has hy
    · exact absurd rfl (S.nofree _ (PySem.mem_of_lookup hy))
  · exact Nat.le_of_lt (x.above y c (PySem.mem_of_lookup h))
  · have hi : i < vs.length := by
      unfold start at h2
      by_cases hi : i < vs.length
      · exact hi
      · rw [List.getElem?_append_right (by simpa using hi)] at h2
        rw [List.getElem?_replicate] at h2
        split at h2 <;> cases h2
    have ha : vs[i]? = some v := by
      unfold start at h2
      rw [List.getElem?_append_left (by simpa using hi), List.getElem?_map] at h2
      cases e : vs[i]? with
      | none => rw [e] at h2; cases h2
      | some a => rw [e] at h2; cases h2; rfl
    obtain ⟨u, hu, rv⟩ := r.get ha
    have hp : ps[i]? = some y := by
      rw [← S.pre, List.getElem?_take_of_lt (by omega)]; exact h1
    have ndP : ps.Nodup := by rw [← S.pre]; exact S.nd.sublist (List.take_sublist _ _)
    refine ⟨u, rv, ?_⟩
    rcases S.par y (List.mem_of_getElem? hp) with k | k
    · exact .inl ⟨k, bindL_get ndP hp hu k⟩
    · obtain ⟨c, e⟩ := cell_has (n := s.heap.objs.size + 1) k
      refine .inr ⟨.inl k, c, e, ?_⟩
      have q := x.cell y c e
      rw [bindC_get ndP hp hu (by show scope.names.lookup y ≠ _; rw [k]; decide)] at q
      exact q
  · exact e0.hok.fresh (Nat.le_of_lt (x.above y c (PySem.mem_of_lookup h)))
  · unfold start
    show _ = N.length
    rw [List.length_append, List.length_map, List.length_replicate]
    omega
theorem fn_of {CX : CXT} {P : Program} {w : World} {K : PySem.W.Frag} {mg : Str → Option Value} {base : Heap} {k : Nat} {f : Addr} {name qual : Str} {params : Arguments} {body : List Stmt} {scope : Scope} {dV kV doc pm cdv ct oc : Value} {an od : Option Addr}
    {osl : Array (Option Value)} {N ps : List Str} {sp : Sp} (lk : K.lookup f = some ⟨oc, od, .func (PySem.W.fnOf name qual params body scope dV kV doc pm an cdv ct), osl⟩) (hcd : PySem.W.codeIn K cdv qual = true) (S : FnScope N ps scope)
    (len : ∀ vs H Q E, sp vs H Q E → vs.length = ps.length)
    (hbody : ∀ (A : Around) (outer : List Env) (s : Shared) (H : Hp) (vs : List V) (Q : VK) (E : XK), Room k (A.deeper (envOfC qual scope s.heap.objs.size f cdv)) → sp vs H Q E →
      ∃ t, PSs (cxOf CX P w K mg base N qual scope f cdv A outer s H E) body t ∧ t { nx := fun _ H' => Q .non H', rt := Q } (start N vs) H) :
    FnOk P w K mg base CX (k + 1) f (PySem.W.fnOf name qual params body scope dV kV doc pm an cdv ct) ps sp := by
  refine ⟨len, fun A outer s H args us vs Q E hr e0 hb r hsp => ?_⟩
  have hl := len _ _ _ _ hsp
  have KX : K.In s.heap := e0.mod.kin.keeps fun b o e => (e0.bs b o e).1
  have lim : s.heap.NoLimit := e0.mod.nolimit.keeps fun b o e => (e0.bs b o e).1
  have hkind : ∀ y ∈ ps.zip us, scope.names.lookup y.1 = some .local ∨ (scope.names.lookup y.1 = some .cell ∧ ((cellsFrom (s.heap.objs.size + 1) scope.names []).lookup y.1).isSome = true) := fun ⟨n, v⟩ hy => by
    rcases S.par n (List.of_mem_zip hy).1 with q | q
    · exact .inl q
    · exact .inr ⟨q, PySem.W.cellsFrom_some _ _ _ (.inl q)⟩
  refine codeAny_call_function hr.depth (KX _ _ lk) rfl S.co S.gen rfl (PySem.W.codeRec_of KX hcd) (hb _ _ _ _ ?_)
  refine wpAny_newFunctionEnv_cells S.kind hkind fun env he s1 x => ?_
  subst he
  refine ⟨lim.keeps x.toInCall.keep, codeAny_func ?_⟩
  obtain ⟨t, ht, hq⟩ := hbody A outer s H vs Q E (hr.deeper _) hsp
  have I : Inv (cxOf CX P w K mg base N qual scope f cdv A outer s H E) [] (start N vs) H s1 := inv_start S hr.hd e0 hl r x
  refine wpAny_mono (ht [] s1 (start N vs) H _ I hq) (fun fl s' hs => ?_) fun e s' hs => hs
  have fin : ∀ {σ' : St} {H' : Hp} {v : V} {u : Value}, Inv (cxOf CX P w K mg base N qual scope f cdv A outer s H E) [] σ' H' s' → RelV v u → Q v H' → CE outer P w H s Q u s' :=
    fun {σ' H' v u} J rv q => ⟨v, H', J.os, J.bare, J.base, J.hok, rv, q⟩
  cases fl with
  | ret u =>
    obtain ⟨v, σ', H', J, rv, q⟩ := hs
    exact fin J rv q
  | next =>
    obtain ⟨σ', H', J, q⟩ := hs
    exact fin (v := V.non) (u := Value.none) J rfl q
  | brk =>
    obtain ⟨_, _, _, q⟩ := hs
    exact False.elim q
  | cont =>
    obtain ⟨_, _, _, q⟩ := hs
    exact False.elim q
end L2
namespace L2
open PySem PySem.Spec PyProof.Rows
section
variable {X : Cx} {x : Str} {p pos : Pos} {e : Expr} {es : List Expr} {t : TA} {id T : String} {r : List V → Hp → VK → Prop}
def tCB (r : List V → Hp → VK → Prop) (t : TA) : TE := fun σ H Q => t σ H fun vs H1 => r vs H1 Q
theorem pe_callB (hc : CallR X (.builtin id) r) (hg : Gl X x) (hm : X.mg x = none) (hv : bootBuiltins x = some (.builtin id)) (ha : PA X (e :: es) t) (hn : x ≠ "__name__" := by decide) (hdb : (x == ("__debug__" : Str)) = false := by decide)
    (he : starEach (e :: es) X.env = (false, eval e X.env) :: starEach es X.env := by rfl) (hpl : (backTo pos (starEach es X.env)).any (·.1) = false := by rfl) : PE X (.Call (.Name x p) (e :: es) [] pos) (tCB r t) := by
  intro pins s σ H Q I h
  refine wpAny_Call_Name_kw (ld_blt I hg hm hv ?_ hn hdb)
  exact PyProof.Rows.callWith_builtin1 (thn (ha pos pins s σ H _ I h) fun us s1 ⟨vs, H1, I1, r1, q1⟩ => hc pins s1 σ H1 vs us Q I1 r1 q1) he hpl
theorem pe_callTy (hc : CallR X (.type T) r) (hg : Gl X x) (hm : X.mg x = none) (hv : bootBuiltins x = some (.type T)) (ha : PA X (e :: es) t) (hn : x ≠ "__name__" := by decide) (hdb : (x == ("__debug__" : Str)) = false := by decide)
    (he : starEach (e :: es) X.env = (false, eval e X.env) :: starEach es X.env := by rfl) (hpl : (backTo pos (starEach es X.env)).any (·.1) = false := by rfl) : PE X (.Call (.Name x p) (e :: es) [] pos) (tCB r t) := by
  intro pins s σ H Q I h
  refine wpAny_Call_Name_kw (ld_blt I hg hm hv ?_ hn hdb)
  exact PyProof.Rows.callWith_type1 (thn (ha pos pins s σ H _ I h) fun us s1 ⟨vs, H1, I1, r1, q1⟩ => hc pins s1 σ H1 vs us Q I1 r1 q1) he hpl
end
end L2
namespace HT
open PySem PyProof.Rows
section
open PySem.SeqAt
open PySem.AutoSeq1 (wpAny_loadPart')
open PySem.MeetsSeq PySem.MeetsSeq2 PySem.MeetsSeq3
end
section
variable {prog : Program} {w : World} {A : Around} {E : Value → Shared → Prop} {s : Shared}
def sIx (n d : Nat) : Option Int → Nat
  | none => d
  | some v => if v < 0 then (v + (n : Int)).toNat else min v.toNat n
theorem sIx_none (n d : Nat) : sIx n d none = d := rfl
theorem sIx_nat (n d k : Nat) : sIx n d (some (k : Int)) = min k n := by
  show (if (k : Int) < 0 then ((k : Int) + (n : Int)).toNat else min (k : Int).toNat n) = min k n
  rw [if_neg (by omega), Int.toNat_natCast]
end
end HT
namespace L2
open PySem PySem.Spec PyProof.Rows
abbrev TO := St → Hp → (Option Int → Hp → Prop) → Prop
def PO (X : Cx) (e : Option Expr) (t : TO) : Prop :=
  ∀ (pins : List (Addr × Obj)) (s : Shared) (σ : St) (H : Hp) (Q : Option Int → Hp → Prop), Inv X pins σ H s → t σ H Q →
    wpAny (model X.prog X.w) X.A (evalPart e X.env) (fun u s' => ∃ o H', Inv X pins σ H' s' ∧ IsPart u o ∧ Q o H') X.xe s
def tNoPart : TO := fun _ H Q => Q none H
def tPart (t : TE) : TO := fun σ H Q => t σ H fun x H1 => ∃ i, x = .int i ∧ Q (some i) H1
section
variable {X : Cx} {e : Expr} {te : TE} {lo hi : Option Expr} {tl th : TO} {pos p2 : Pos}
theorem po_none : PO X none tNoPart := by
  intro pins s σ H Q I h
  rw [evalPart_none]
  exact wpAny_pure ⟨none, H, I, .none, h⟩
theorem po_some (h : PE X e te) : PO X (some e) (tPart te) := by
  intro pins s σ H Q I hw
  rw [evalPart_some]
  refine thn (h pins s σ H _ I hw) fun u s1 ⟨x, H1, I1, r1, q1⟩ => ?_
  obtain ⟨i, rfl, q⟩ := q1
  obtain ⟨t, rfl⟩ := r1
  exact ⟨some i, H1, I1, .int i t, q⟩
def SlR (X : Cx) (r : V → Option Int → Option Int → Hp → VK → Prop) : Prop :=
  ∀ (pins : List (Addr × Obj)) (s : Shared) (σ : St) (H : Hp) (x : V) (v vl vu : Value) (lo hi : Option Int) (sl : Addr) (Q : VK), Inv X pins σ H s → RelV x v → s.heap.IsSliceOf sl vl vu .none → IsPart vl lo → IsPart vu hi → r x lo hi H Q →
    ∃ T id, typeLookup (.type T) "__getitem__" = pure (some (.builtin id)) ∧ s.TypeIs v T ∧ wpAny (model X.prog X.w) X.A (getItem v (.ref sl)) (EP X pins σ Q) X.xe s
def tSl (r : V → Option Int → Option Int → Hp → VK → Prop) (te : TE) (tl th : TO) : TE := fun σ H Q => te σ H fun x H1 => tl σ H1 fun l H2 => th σ H2 fun u H3 => r x l u H3 Q
theorem pe_slice {r : V → Option Int → Option Int → Hp → VK → Prop} (hr : SlR X r) (he : PE X e te) (hl : PO X lo tl) (hu : PO X hi th) : PE X (.Subscript e (.Slice lo hi none p2) pos) (tSl r te tl th) := by
  intro pins s σ H Q I h
  refine Subscript_ (thn (he pins s σ H _ I h) fun v s1 ⟨x, H1, I1, r1, q1⟩ => ?_)
  refine wpAny_Slice (thn (hl pins s1 σ H1 _ I1 q1) fun vl s2 ⟨l, H2, I2, pl, q2⟩ => thn (hu pins s2 σ H2 _ I2 q2) fun vu s3 ⟨u, H3, I3, pu, q3⟩ => ?_)
  rw [evalPart_none]
  refine wpAny_pure ?_
  have I4 : Inv X pins σ H3 { s3 with heap := s3.heap.push { cls := .type "slice", data := .fields #[vl, vu, .none] } } := I3.kept (t' := s3.toks) fun b ob q => Heap.get?_push_of_some _ q
  obtain ⟨T, id, hT, ht, hg⟩ := hr pins { s3 with heap := s3.heap.push { cls := .type "slice", data := .fields #[vl, vu, .none] } } σ H3 x v vl vu l u s3.heap.objs.size Q I4 r1 (Heap.IsSliceOf.new ..) pl pu q3
  show wpAny (model X.prog X.w) X.A (subscriptTail e (.Slice lo hi none p2) v (.ref s3.heap.objs.size)) (EP X pins σ Q) X.xe { s3 with heap := s3.heap.push { cls := .type "slice", data := .fields #[vl, vu, .none] } }
  exact tail_any (ops := [.ref s3.heap.objs.size, v]) ht hT hg (by with_unfolding_all rfl)
def cutV (xs : List V) (lo hi : Option Int) : List V := (xs.drop (HT.sIx xs.length 0 lo)).take (HT.sIx xs.length xs.length hi - HT.sIx xs.length 0 lo)
theorem cutV_length (xs : List V) (lo hi : Option Int) : (cutV xs lo hi).length ≤ xs.length := by
  unfold cutV
  rw [List.length_take, List.length_drop]
  omega
end
end L2
namespace L2
open PySem PySem.Spec PyProof.Rows
def ixN (n : Nat) (i : Int) : Option Nat := if 0 ≤ i then (if i < n then some i.toNat else none) else if -(n : Int) ≤ i then some (i + n).toNat else none
def atI {α : Type} (xs : List α) (i : Int) : Option α := (ixN xs.length i).bind fun j => xs[j]?
theorem ixN_seq {n : Nat} {i : Int} {j : Nat} (h : ixN n i = some j) : seqIndex? i n = some j ∧ j < n ∧ -(n : Int) ≤ i ∧ i < n := by
  unfold ixN at h
  by_cases h0 : 0 ≤ i
  · rw [if_pos h0] at h
    by_cases h1 : i < n
    · rw [if_pos h1] at h
      have e : i.toNat = j := Option.some.inj h
      exact ⟨by rw [seqIndex_of h0 h1, e], by omega, by omega, h1⟩
    · rw [if_neg h1] at h; cases h
  · rw [if_neg h0] at h
    by_cases h1 : -(n : Int) ≤ i
    · rw [if_pos h1] at h
      have e : (i + n).toNat = j := Option.some.inj h
      exact ⟨by rw [seqIndex_neg (by omega) h1, e], by omega, h1, by omega⟩
    · rw [if_neg h1] at h; cases h
theorem atI_get {α : Type} {xs : List α} {i : Int} {v : α} (h : atI xs i = some v) : ∃ j, seqIndex? i xs.length = some j ∧ xs[j]? = some v ∧ j < xs.length ∧ -(xs.length : Int) ≤ i ∧ i < xs.length := by
  unfold atI at h
  cases e : ixN xs.length i with
  | none => rw [e] at h; cases h
  | some j =>
    rw [e] at h
    obtain ⟨h1, h2, h3, h4⟩ := ixN_seq e
    exact ⟨j, h1, h, h2, h3, h4⟩
theorem atI_nat {α : Type} {xs : List α} {j : Nat} {v : α} (h : xs[j]? = some v) : atI xs (j : Int) = some v := by
  have hj : j < xs.length := (List.getElem?_eq_some_iff.mp h).1
  have e : ixN xs.length (j : Int) = some j := by
    unfold ixN
    rw [if_pos (by omega), if_pos (by omega)]; simp
  unfold atI; rw [e]; exact h
def PlainIx (b : Expr) : Prop := ∀ o i, subscripted b false o i = operate [o, i] (getItem o i)
def IxR (X : Cx) (r : R2) : Prop :=
  ∀ (value slice : Expr) (pins : List (Addr × Obj)) (s : Shared) (σ : St) (H : Hp) (x y : V) (v u : Value) (Q : VK), Inv X pins σ H s → RelV x v → RelV y u → r x y H Q →
    subscripted slice false v u = operate [v, u] (getItem v u) → wpAny (model X.prog X.w) X.A (subscriptTail value slice v u) (EP X pins σ Q) X.xe s
def MtR (X : Cx) (id : String) (r : V → List V → Hp → VK → Prop) : Prop :=
  ∀ (pins : List (Addr × Obj)) (s : Shared) (σ : St) (H : Hp) (x : V) (xs : List V) (v : Value) (us : List Value) (Q : VK), Inv X pins σ H s → RelV x v → Vals xs us → r x xs H Q →
    wpAny (model X.prog X.w) X.A (call (.builtin id) (v :: us)) (EP X pins σ Q) X.xe s
section
variable {X : Cx} {a b : Expr} {ta tb : TE} {pos : Pos}
theorem pe_ix {r : R2} (hr : IxR X r) (ha : PE X a ta) (hb : PE X b tb) (hs : PlainIx b) : PE X (.Subscript a b pos) (tOp r ta tb) := by
  intro pins s σ H Q I h
  exact Subscript_ (binT ha hb I h fun v u s2 x y H2 I2 rx ry q => hr a b pins s2 σ H2 x y v u Q I2 rx ry q (hs _ _))
def rIxL (K : PySem.W.Frag) : R2 := fun x y H Q => ∃ p xs i v, x = .ref p ∧ y = .int i ∧ SqL K H p xs ∧ atI xs i = some v ∧ Q v H
def rIxT (K : PySem.W.Frag) : R2 := fun x y H Q => ∃ p xs i v, x = .ref p ∧ y = .int i ∧ SqT K H p xs ∧ atI xs i = some v ∧ Q v H
theorem ix_list : IxR X (rIxL X.K) := by
  intro value slice pins s σ H x y v u Q I rx ry h hs
  obtain ⟨p, xs, i, z, rfl, rfl, hq, he, q⟩ := h
  cases rx
  obtain ⟨t, rfl⟩ := ry
  obtain ⟨its, r, pl, hz⟩ := I.list hq
  obtain ⟨j, h1, h2, h3, h4, h5⟩ := atI_get he
  obtain ⟨w, ew, rw'⟩ := r.get h2
  have hl := r.length
  have hn := line63
  have fin : EP X pins σ Q w s := ⟨z, H, I, rw', q⟩
  by_cases h0 : 0 ≤ i
  · have hj : i.toNat = j := by
      rw [seqIndex_of h0 h5] at h1
      exact Option.some.inj h1
    exact item_listR pl.isList h0 (by omega) (by rw [hj]; simpa using ew) fin hs
  · have hj : (i + (its.toArray.size : Int)).toNat = j := by
      rw [seqIndex_neg (by omega) h4] at h1
      rw [List.size_toArray, ← hl]
      exact Option.some.inj h1
    exact subscriptTail_builtinR (x := w) pl.isList.typeIs slot_list_getitem.lookup
      (wpAny_getItem_list_neg (Q := fun r s' => r = w ∧ EP X pins σ Q r s') pl.isList (by omega) (by rw [List.size_toArray] <;> omega) (by omega) (by rw [hj]; simpa using ew) ⟨rfl, fin⟩) hs
theorem ix_tup : IxR X (rIxT X.K) := by
  intro value slice pins s σ H x y v u Q I rx ry h hs
  obtain ⟨p, xs, i, z, rfl, rfl, hq, he, q⟩ := h
  cases rx
  obtain ⟨t, rfl⟩ := ry
  obtain ⟨its, r, pl, hz⟩ := I.tuple hq
  obtain ⟨j, h1, h2, h3, h4, h5⟩ := atI_get he
  obtain ⟨w, ew, rw'⟩ := r.get h2
  have hl := r.length
  have hn := line63
  have fin : EP X pins σ Q w s := ⟨z, H, I, rw', q⟩
  exact subscriptTail_builtinR (x := w) pl.typeIs slot_tuple_getitem.lookup
    (getItem_tuple (j := j) (Q := fun r s' => r = w ∧ EP X pins σ Q r s') pl (by omega) (by omega) (by rw [List.size_toArray, ← hl]; exact h1) (by simpa using ew) ⟨rfl, fin⟩) hs
theorem mapSeq_set (its : List Value) (n j : Nat) (u : Value) : Obj.mapSeq (·.setIfInBounds j u) { cls := .type "list", data := .seq its.toArray n } = { cls := .type "list", data := .seq (its.set j u).toArray n } := by
  simp [Obj.mapSeq]
theorem Inv.lst {pins : List (Addr × Obj)} {σ : St} {H : Hp} {s : Shared} {p : Addr} {xs : List V} (I : Inv X pins σ H s) (h : H p = some (.lst xs)) :
    ∃ (its : List Value) (n : Nat), Vals xs its ∧ s.heap.get? p = some { cls := .type "list", data := .seq its.toArray n } ∧ xs.length ≤ sizeLine := by
  obtain ⟨z, its, n, r, e⟩ := I.hok p _ h
  exact ⟨its, n, r, e, z⟩
theorem Inv.lstUpd {pins : List (Addr × Obj)} {σ : St} {H : Hp} {s : Shared} {p : Addr} {xs ys : List V} {its its' : List Value} {n n' : Nat} {f : Obj → Obj} (I : Inv X pins σ H s) (h : H p = some (.lst xs))
    (ho : s.heap.get? p = some { cls := .type "list", data := .seq its.toArray n }) (hf : f { cls := .type "list", data := .seq its.toArray n } = { cls := .type "list", data := .seq its'.toArray n' }) (r : Vals ys its') (hz : ys.length ≤ sizeLine) (t : Nat) :
    Inv X pins σ (upd H p (.lst ys)) { s with heap := s.heap.update p f, toks := t } := by
  have e : (s.heap.update p f).get? p = some { cls := .type "list", data := .seq its'.toArray n' } := by
    rw [Heap.get?_update_self f ho (by rw [hf] <;> rfl), hf]
  refine I.write (x := p) (e := p) (by rw [h]; trivial) (.inl rfl) (fun b u hb q => (Heap.get?_update_other _ _ (Ne.symm hb)).trans q) ⟨_, e⟩ ?_
  exact ⟨hz, its', n', r, e⟩
def rSetL : V → V → V → Hp → (Hp → Prop) → Prop := fun o i v H Q => ∃ p xs k j, o = .ref p ∧ i = .int k ∧ H p = some (.lst xs) ∧ ixN xs.length k = some j ∧ Q (upd H p (.lst (xs.set j v)))
theorem set_list : PSet X rSetL := by
  intro pins s σ H o i v ov iv u Q I ro ri rv h
  obtain ⟨p, xs, k, j, rfl, rfl, hp, hj, q⟩ := h
  cases ro
  obtain ⟨t, rfl⟩ := ri
  obtain ⟨its, n, r, ho, hz⟩ := I.lst hp
  obtain ⟨h1, h2, h3, h4⟩ := ixN_seq hj
  have hl := r.length
  have hn := line63
  have I' : Inv X pins σ (upd H p (.lst (xs.set j v))) { s with heap := s.heap.update p (Obj.mapSeq (·.setIfInBounds j u)) } :=
    I.lstUpd hp ho (mapSeq_set its n j u) (r.set rv j) (by rw [List.length_set]; exact hz) s.toks
  by_cases h0 : 0 ≤ k
  · have hk : k.toNat = j := by
      rw [seqIndex_of h0 h4] at h1
      exact Option.some.inj h1
    exact PySem.W.ki_setAt ho h0 (by omega) (by rw [List.size_toArray, ← hl]; exact h4) (by rw [hk]; exact ⟨_, I', q⟩)
  · have hk : (k + (its.toArray.size : Int)).toNat = j := by
      rw [seqIndex_neg (by omega) h3] at h1
      rw [List.size_toArray, ← hl]
      exact Option.some.inj h1
    exact PySem.W.ki_setBack ho (by omega) (by rw [List.size_toArray, ← hl]; exact h3) (by omega) (by rw [hk]; exact ⟨_, I', q⟩)
theorem slice_bounds (lo hi : Option Int) (n : Nat) : (sliceBounds lo hi none n).1 = ((HT.sIx n 0 lo : Nat) : Int) ∧ (sliceBounds lo hi none n).2.1 = ((HT.sIx n n hi : Nat) : Int) ∧ (sliceBounds lo hi none n).2.2 = 1 := by
  refine ⟨?_, ?_, rfl⟩
  · cases lo with
    | none => simp [sliceBounds, HT.sIx]
    | some i =>
      simp only [sliceBounds, HT.sIx, Option.getD_none, show (1 : Int) > 0 by decide, if_true]
      by_cases h : i < 0
      · simp only [h, if_true] <;> omega
      · simp only [h, if_false] <;> omega
  · cases hi with
    | none => simp [sliceBounds, HT.sIx]
    | some i =>
      simp only [sliceBounds, HT.sIx, Option.getD_none, show (1 : Int) > 0 by decide, if_true]
      by_cases h : i < 0
      · simp only [h, if_true] <;> omega
      · simp only [h, if_false] <;> omega
theorem slicePick_cut (its : List Value) (lo hi : Option Int) : slicePick its.toArray lo hi none = ((its.drop (HT.sIx its.length 0 lo)).take (HT.sIx its.length its.length hi - HT.sIx its.length 0 lo)).toArray := by
  obtain ⟨h1, h2, h3⟩ := slice_bounds lo hi its.toArray.size
  unfold slicePick
  rw [h1, h2, h3]
  simp only [sliceRange_one, pick_run, List.size_toArray] <;> rfl
def rSlL (K : PySem.W.Frag) : V → Option Int → Option Int → Hp → VK → Prop := fun x lo hi H Q => ∃ a xs, x = .ref a ∧ SqL K H a xs ∧ ∀ p, H p = none → Q (.ref p) (upd H p (.lst (cutV xs lo hi)))
theorem sl_list : SlR X (rSlL X.K) := by
  intro pins s σ H x v vl vu lo hi sl Q I rx hs pl pu h
  obtain ⟨a, xs, rfl, hx, q⟩ := h
  cases rx
  obtain ⟨its, r, ht, hz⟩ := I.list hx
  have hlen := r.length
  refine ⟨"list", _, slot_list_getitem.lookup, ht.isList.typeIs, ?_⟩
  refine wpAny_getItem_list_slice ht.isList hs pl pu .none (by simp) ?_ (by rw [List.size_toArray] <;> omega)
  rw [slicePick_cut, ← hlen]
  refine ⟨.ref s.heap.objs.size, _, I.laid (t' := s.toks) (o := .lst (cutV xs lo hi)) (fun b ob q => Heap.get?_push_of_some _ q) (Nat.le_refl _) ?_, rfl, q _ (I.hok.fresh (Nat.le_refl _))⟩
  exact ⟨Nat.le_trans (cutV_length xs lo hi) hz, _, 0, (r.drop (HT.sIx xs.length 0 lo)).take (HT.sIx xs.length xs.length hi - HT.sIx xs.length 0 lo), Heap.get?_push_size _ rfl⟩
def flatV : V → Bool
  | .non => true
  | .bl _ => true
  | .int _ => true
  | .str _ => true
  | _ => false
def eqV : V → V → Bool
  | .non, .non => true
  | .bl a, .bl b => a == b
  | .bl a, .int b => (if a then 1 else 0) == b
  | .int a, .bl b => a == (if b then 1 else 0)
  | .int a, .int b => a == b
  | .str a, .str b => a == b
  | _, _ => false
theorem eqAt_V {A : Around} {s : Shared} {y x : V} {u v : Value} (ry : RelV y u) (rx : RelV x v) (fy : flatV y = true) (fx : flatV x = true) : SeqAt.EqAt A s u v (eqV y x) := by
  cases y with
  | non =>
    cases ry
    cases x with
    | non => cases rx; exact SeqAt.EqAt.same _
    | bl b => cases rx; exact SeqAt.EqAt.none_bool b
    | int b => obtain ⟨t, rfl⟩ := rx; exact SeqAt.EqAt.none_int b t
    | str b => obtain ⟨t, rfl⟩ := rx; exact SeqAt.EqAt.none_str b t
    | _ => exact absurd (show false = true from fx) Bool.false_ne_true
  | bl a =>
    cases ry
    cases x with
    | non => cases rx; exact SeqAt.EqAt.bool_none a
    | bl b => cases rx; exact SeqAt.EqAt.bool_bool a b
    | int b => obtain ⟨t, rfl⟩ := rx; exact SeqAt.EqAt.bool_int a b t
    | str b => obtain ⟨t, rfl⟩ := rx; exact SeqAt.EqAt.bool_str a b t
    | _ => exact absurd (show false = true from fx) Bool.false_ne_true
  | int a =>
    obtain ⟨t', rfl⟩ := ry
    cases x with
    | non => cases rx; exact SeqAt.EqAt.int_none a t'
    | bl b => cases rx; exact SeqAt.EqAt.int_bool a t' b
    | int b => obtain ⟨t, rfl⟩ := rx; exact SeqAt.EqAt.int_int a t' b t
    | str b => obtain ⟨t, rfl⟩ := rx; exact SeqAt.EqAt.int_str a t' b t
    | _ => exact absurd (show false = true from fx) Bool.false_ne_true
  | str a =>
    obtain ⟨t', rfl⟩ := ry
    cases x with
    | non => cases rx; exact SeqAt.EqAt.str_none a t'
    | bl b => cases rx; exact SeqAt.EqAt.str_bool a t' b
    | int b => obtain ⟨t, rfl⟩ := rx; exact SeqAt.EqAt.str_int a t' b t
    | str b => obtain ⟨t, rfl⟩ := rx; exact SeqAt.EqAt.str_str a t' b t
    | _ => exact absurd (show false = true from fx) Bool.false_ne_true
  | _ => exact absurd (show false = true from fy) Bool.false_ne_true
def eqU (x : V) (u : Value) : Bool := match u with
  | .none => eqV .non x
  | .bool b => eqV (.bl b) x
  | .int i _ => eqV (.int i) x
  | .str z _ => eqV (.str z) x
  | _ => false
theorem eqU_of {x y : V} {u : Value} (r : RelV y u) (f : flatV y = true) : eqU x u = eqV y x := by
  cases y with
  | non => cases r; rfl
  | bl b => cases r; rfl
  | int i => obtain ⟨t, rfl⟩ := r; rfl
  | str z => obtain ⟨t, rfl⟩ := r; rfl
  | _ => exact absurd (show false = true from f) Bool.false_ne_true
theorem any_eqU {x : V} : ∀ {xs : List V} {us : List Value}, Vals xs us → xs.all flatV = true → us.any (eqU x) = xs.any fun y => eqV y x
  | _, _, .nil, _ => rfl
  | y :: xs, u :: us, .cons r t, f => by
    rw [List.all_cons, Bool.and_eq_true] at f
    rw [List.any_cons, List.any_cons, eqU_of r f.1, any_eqU t f.2]
theorem mem_eqAt {A : Around} {s : Shared} {x : V} {v : Value} (rx : RelV x v) (fx : flatV x = true) : ∀ {xs : List V} {us : List Value}, Vals xs us → xs.all flatV = true → ∀ u ∈ us, SeqAt.EqAt A s u v (eqU x u)
  | _, _, .nil, _ => fun u hu => by cases hu
  | y :: xs, u :: us, .cons r t, f => fun u' hu => by
    rw [List.all_cons, Bool.and_eq_true] at f
    rcases List.mem_cons.mp hu with rfl | hu
    · rw [eqU_of r f.1]; exact eqAt_V r rx f.1 fx
    · exact mem_eqAt rx fx t f.2 u' hu
def inV (x : V) (xs : List V) : Bool := xs.any fun y => eqV y x
def rIn (K : PySem.W.Frag) (neg : Bool) : R2 := fun x y H Q => ∃ p xs, y = .ref p ∧ (SqL K H p xs ∨ SqT K H p xs) ∧ flatV x = true ∧ xs.all flatV = true ∧ Q (.bl (if neg then !inV x xs else inV x xs)) H
theorem op_in_seq : OpR X (compareOp .In) (rIn X.K false) := by
  intro pins s σ H x y v u Q I rx ry h
  obtain ⟨p, xs, rfl, hq, fx, fs, q⟩ := h
  cases ry
  rcases hq with hq | hq
  · obtain ⟨its, r, pl, hz⟩ := I.list hq
    refine SeqAt.in_listAt (eqU x) pl.isList (fun w hw => mem_eqAt rx fx r fs w (by simpa using hw)) ⟨.bl _, H, I, rfl, ?_⟩
    rw [show its.toArray.any (eqU x) = its.any (eqU x) by simp, any_eqU r fs]
    exact q
  · obtain ⟨its, r, pl, hz⟩ := I.tuple hq
    refine SeqAt.in_tupleAt (eqU x) pl (fun w hw => mem_eqAt rx fx r fs w (by simpa using hw)) ⟨.bl _, H, I, rfl, ?_⟩
    rw [show its.toArray.any (eqU x) = its.any (eqU x) by simp, any_eqU r fs]
    exact q
theorem op_notIn_seq : OpR X (compareOp .NotIn) (rIn X.K true) := by
  intro pins s σ H x y v u Q I rx ry h
  obtain ⟨p, xs, rfl, hq, fx, fs, q⟩ := h
  cases ry
  rcases hq with hq | hq
  · obtain ⟨its, r, pl, hz⟩ := I.list hq
    refine SeqAt.notIn_listAt (eqU x) pl.isList (fun w hw => mem_eqAt rx fx r fs w (by simpa using hw)) ⟨.bl _, H, I, rfl, ?_⟩
    rw [show its.toArray.any (eqU x) = its.any (eqU x) by simp, any_eqU r fs]
    exact q
  · obtain ⟨its, r, pl, hz⟩ := I.tuple hq
    refine SeqAt.notIn_tupleAt (eqU x) pl (fun w hw => mem_eqAt rx fx r fs w (by simpa using hw)) ⟨.bl _, H, I, rfl, ?_⟩
    rw [show its.toArray.any (eqU x) = its.any (eqU x) by simp, any_eqU r fs]
    exact q
theorem call_len_seq : CallR X (.builtin "len") (fun xs H Q => ∃ p ys, xs = [.ref p] ∧ (SqL X.K H p ys ∨ SqT X.K H p ys) ∧ Q (.int ys.length) H) := by
  intro pins s σ H xs us Q I r h
  obtain ⟨p, ys, rfl, hq, q⟩ := h
  obtain ⟨u, rfl, rx⟩ := vals1 r
  cases rx
  have hn := line63
  rcases hq with hq | hq
  · obtain ⟨its, r', pl, hz⟩ := I.list hq
    have hlen := r'.length
    exact Calls.call_len_list pl.isList (by simp only [List.size_toArray] <;> omega) ⟨.int ys.length, H, I.tok _, ⟨s.toks + 1, by rw [List.size_toArray, hlen]⟩, q⟩
  · obtain ⟨its, r', pl, hz⟩ := I.tuple hq
    have hlen := r'.length
    exact len_tuple pl (by simp only [List.size_toArray] <;> omega) ⟨.int ys.length, H, I.tok _, ⟨s.toks + 1, by rw [List.size_toArray, hlen]⟩, q⟩
theorem call_list_of : CallR X (.type "list") (fun xs H Q => ∃ p ys, xs = [.ref p] ∧ (SqL X.K H p ys ∨ SqT X.K H p ys) ∧ ∀ l, H l = none → Q (.ref l) (upd H l (.lst ys))) := by
  intro pins s σ H xs us Q I r h
  obtain ⟨p, ys, rfl, hq, q⟩ := h
  obtain ⟨u, rfl, rx⟩ := vals1 r
  cases rx
  have fin : ∀ (its : List Value), Vals ys its → ys.length ≤ sizeLine → ∀ (h' : Heap) (c' : Nat), (∀ b o', s.heap.get? b = some o' → h'.get? b = some o') →
      h'.get? s.heap.objs.size = some { cls := .type "list", dict := none, data := .seq its.toArray c', slots := #[] } → EP X pins σ Q (.ref s.heap.objs.size) { s with heap := h' } := fun its r' hz h' c' kp e =>
    ⟨.ref s.heap.objs.size, _, I.laid (t' := s.toks) kp (Nat.le_refl _) (show ObjOk X.prog X.w _ h' _ (.lst ys) from ⟨hz, its, c', r', e⟩), rfl, q _ (I.hok.fresh (Nat.le_refl _))⟩
  rcases hq with hq | hq
  · obtain ⟨its, r', pl, hz⟩ := I.list hq
    have hlen := r'.length
    obtain ⟨o, ho, hc, n, hd⟩ := pl.isList
    exact call_list_seq p (.inl rfl) ho hc hd (fun h' c' kp e => fin its r' hz h' c' kp e) (by simp only [List.size_toArray] <;> omega)
  · obtain ⟨its, r', pl, hz⟩ := I.tuple hq
    have hlen := r'.length
    obtain ⟨o, ho, hc, n, hd⟩ := pl
    exact call_list_seq p (.inr rfl) ho hc hd (fun h' c' kp e => fin its r' hz h' c' kp e) (by simp only [List.size_toArray] <;> omega)
def tyV (K : PySem.W.Frag) (T : String) (x : V) (H : Hp) : Prop := match x with
  | .str _ => T = "str"
  | .int _ => T = "int"
  | .ref p => (T = "list" ∧ ∃ xs, SqL K H p xs) ∨ (T = "tuple" ∧ ∃ o, K.lookup p = some o ∧ o.cls = .type "tuple" ∧ o.dict = none) ∨
      (T = "dict" ∧ ((∃ kvs, H p = some (.dK kvs)) ∨ ∃ kvs, H p = some (.dT kvs))) ∨ (T = "set" ∧ ∃ S n, H p = some (.set S n))
  | _ => False
theorem tyV_is {pins : List (Addr × Obj)} {σ : St} {H : Hp} {s : Shared} {T : String} {x : V} {v : Value} (I : Inv X pins σ H s) (r : RelV x v) (ty : tyV X.K T x H) :
    s.TypeIs v T ∧ ∀ a, v = .ref a → ∃ ob, s.heap.get? a = some ob ∧ ob.dict = none := by
  cases x with
  | str z =>
    obtain ⟨t, rfl⟩ := r
    cases (show T = "str" from ty)
    exact ⟨typeIs_str s z t, fun _ e => nomatch e⟩
  | int i =>
    obtain ⟨t, rfl⟩ := r
    cases (show T = "int" from ty)
    exact ⟨typeIs_int s i t, fun _ e => nomatch e⟩
  | ref p =>
    cases r
    rcases ty with ⟨rfl, xs, hq⟩ | ⟨rfl, o, hk, hc, hd⟩ | ⟨rfl, hk⟩ | ⟨rfl, S, n, hk⟩
    · obtain ⟨its, _, pl, _⟩ := I.list hq
      refine ⟨pl.isList.typeIs, fun a e => ?_⟩
      cases e
      obtain ⟨o, n, e, c, hd, _⟩ := pl
      exact ⟨o, e, hd⟩
    · refine ⟨⟨o, I.kIn p o hk, hc⟩, fun a e => ?_⟩
      cases e
      exact ⟨o, I.kIn _ o hk, hd⟩
    · have z : ∃ o, s.heap.get? p = some o ∧ o.ExactDict := by
        rcases hk with ⟨kvs, hk⟩ | ⟨kvs, hk⟩
        · obtain ⟨_, _, _, _, o, _, _, e, ex, _⟩ := I.hok p _ hk
          exact ⟨o, e, ex⟩
        · obtain ⟨_, _, _, _, o, _, _, e, ex, _⟩ := I.hok p _ hk
          exact ⟨o, e, ex⟩
      obtain ⟨o, e, ex⟩ := z
      refine ⟨⟨o, e, ex.1⟩, fun a e2 => ?_⟩
      cases e2
      exact ⟨o, e, ex.2.1⟩
    · obtain ⟨o, _, _, _, e, ex, _⟩ := I.hok p _ hk
      refine ⟨⟨o, e, ex.1⟩, fun a e2 => ?_⟩
      cases e2
      exact ⟨o, e, ex.2.1⟩
  | _ => exact False.elim ty
def tBM (K : PySem.W.Frag) (T : String) (r : V → List V → Hp → VK → Prop) (to : TE) (t : TA) : TE := fun σ H Q => to σ H fun x H1 => tyV K T x H1 ∧ t σ H1 fun xs H2 => r x xs H2 Q
variable {o e : Expr} {es : List Expr} {to : TE} {t : TA} {name : Str} {apos cpos : Pos} {T id : String} {r : V → List V → Hp → VK → Prop}
theorem pe_bm (pa : PlainAttrs T) (slot : Slot T name id) (hty : typeOf (.builtin id) = pure (.type "method_descriptor")) (hm : MtR X id r) (ho : PE X o to) (ha : PA X (e :: es) t)
    (hbase : attributeBase o name X.env (eval o X.env) = eval o X.env := by rfl)
    (hfew : ((backTo cpos (starEach (e :: es) X.env)).all (fun x => !x.1) && (backToKw cpos (keywordEach [] X.env)).all (fun x => x.1.isSome)
      && decide ((e :: es).length + ([] : List Keyword).length + (if ([] : List Keyword).isEmpty then 0 else 1) < 30)) = true := by rfl)
    (hline : (apos.endLine == cpos.line) = true := by rfl) (hs : starEach (e :: es) X.env = (false, eval e X.env) :: starEach es X.env := by rfl) (hplain : (backTo cpos (starEach es X.env)).any (·.1) = false := by rfl) :
    PE X (.Call (.Attribute o name apos) (e :: es) [] cpos) (tBM X.K T r to t) := by
  intro pins s σ H Q I h
  refine wpAny_Call_method_late hbase hfew hline rfl (thn (ho pins s σ H _ I h) fun v s1 ⟨x, H1, I1, r1, ty, q1⟩ => ?_)
  obtain ⟨h1, h2⟩ := tyV_is I1 r1 ty
  refine ⟨T, id, pa, slot, hty, h1, h2, ?_⟩
  have hA := ha cpos pins s1 σ H1 _ I1 q1
  rw [hs] at hA ⊢
  refine Calls.callWith_builtin (by show (false || (backTo cpos (starEach es X.env)).any (·.1)) = false; rw [hplain] <;> rfl) (Calls.evalArgs_plain ?_)
  exact thn hA fun us s2 ⟨vs, H2, I2, r2, q2⟩ => hm pins s2 σ H2 x vs v us Q I2 r1 r2 q2
end
end L2
namespace L2
open PySem PySem.Spec PyProof.Rows
def MtM (X : Cx) (id : String) (r : V → List V → Hp → VK → Prop) : Prop :=
  ∀ (pins : List (Addr × Obj)) (s : Shared) (σ : St) (H : Hp) (x : V) (xs : List V) (v : Value) (us : List Value) (Q : VK), Inv X pins σ H s → RelV x v → Vals xs us → r x xs H Q →
    wpAny (model X.prog X.w) X.A (call (.builtin id) (v :: us)) (EP X pins σ Q) X.xe s
theorem Vals.one : ∀ {x : V} {us : List Value}, Vals [x] us → ∃ u, us = [u] ∧ RelV x u
  | _, _, .cons r .nil => ⟨_, rfl, r⟩
theorem Vals.eraseIdx : ∀ {xs : List V} {us : List Value} (i : Nat), Vals xs us → Vals (xs.eraseIdx i) (us.eraseIdx i)
  | _, _, _, .nil => .nil
  | _, _, 0, .cons _ t => t
  | _, _, i + 1, .cons r t => .cons r (Vals.eraseIdx i t)
theorem len_erase {α : Type} : ∀ (l : List α) (i : Nat), (l.eraseIdx i).length ≤ l.length
  | [], _ => Nat.le_refl _
  | _ :: _, 0 => Nat.le_succ _
  | _ :: r, i + 1 => Nat.succ_le_succ (len_erase r i)
section
variable {X : Cx} {pins : List (Addr × Obj)} {σ : St} {H : Hp} {s : Shared} {l b : Addr} {xs ys zs : List V}
theorem Inv.lset {its its' : List Value} {n : Nat} {f : Array Value → Array Value} {t' : Nat} (I : Inv X pins σ H s) (hH : H l = some (.lst xs))
    (e : s.heap.get? l = some { cls := .type "list", data := .seq its.toArray n }) (hf : f its.toArray = its'.toArray) (hv : Vals ys its') (hz : ys.length ≤ sizeLine) :
    Inv X pins σ (upd H l (.lst ys)) { s with heap := s.heap.update l (Obj.mapSeq f), toks := t' } := by
  have q := PySem.IsL.update e f
  rw [hf] at q
  refine I.write (x := l) (e := l) (by rw [hH]; exact trivial) (.inl rfl) (fun b' u hb hu => (Heap.get?_update_other s.heap (Obj.mapSeq f) (Ne.symm hb)).trans hu) ⟨_, q⟩ ?_
  exact ⟨hz, its', _, hv, q⟩
theorem Inv.lnew {its : List Value} {t' : Nat} (I : Inv X pins σ H s) (hv : Vals ys its) (hz : ys.length ≤ sizeLine) :
    Inv X pins σ (upd H s.heap.objs.size (.lst ys)) { s with heap := s.heap.push { cls := .type "list", data := .seq its.toArray }, toks := t' } :=
  I.laid (fun _ _ q => Heap.get?_push_of_some _ q) (Nat.le_refl _) ⟨hz, its, 0, hv, Heap.get?_push_size _ rfl⟩
theorem Inv.fresh (I : Inv X pins σ H s) : H s.heap.objs.size = none := I.hok.fresh (Nat.le_refl _)
theorem Inv.lstM (I : Inv X pins σ H s) (hH : H l = some (.lst xs)) : xs.length ≤ sizeLine ∧ ∃ (its : List Value) (n : Nat), Vals xs its ∧ xs.length = its.length ∧ s.heap.get? l = some { cls := .type "list", data := .seq its.toArray n } := by
  obtain ⟨z, its, n, r, e⟩ := I.hok l _ hH
  exact ⟨z, its, n, r, r.length, e⟩
theorem notLongL {n : Nat} (h : n ≤ sizeLine) : Builtin.List.listTooLong n = false := by
  unfold Builtin.List.listTooLong
  exact decide_eq_false (by omega)
end
section
variable {X : Cx}
def rAppend : V → List V → Hp → VK → Prop := fun x vs H Q => ∃ l xs y, x = .ref l ∧ vs = [y] ∧ H l = some (.lst xs) ∧ xs.length < sizeLine ∧ Q .non (upd H l (.lst (xs ++ [y])))
theorem mt_append : MtM X "list.append" rAppend := by
  intro pins s σ H x vs v us Q I rx rv h
  obtain ⟨l, xs, y, rfl, rfl, hH, hz, q⟩ := h
  cases rx
  obtain ⟨u, rfl, ru⟩ := rv.one
  obtain ⟨z, its, n, r, hl, e⟩ := I.lstM hH
  refine call_meets F.slot_list_append ⟨_, e, rfl⟩ F.entry_list_append (F.args_list_append_2 _ _) (PySem.list_append l its.toArray n u (by rw [List.size_toArray]; omega)) ⟨e, ?_⟩
  refine ⟨.non, _, I.lset (its' := its ++ [u]) hH e (by simp) (r.append (.cons ru .nil)) ?_, rfl, q⟩
  rw [List.length_append, List.length_singleton]
  omega
def rExtend : V → List V → Hp → VK → Prop := fun x vs H Q => ∃ l b xs zs, x = .ref l ∧ vs = [.ref b] ∧ H l = some (.lst xs) ∧ H b = some (.lst zs) ∧ xs.length + zs.length ≤ sizeLine ∧ Q .non (upd H l (.lst (xs ++ zs)))
theorem mt_extend : MtM X "list.extend" rExtend := by
  intro pins s σ H x vs v us Q I rx rv h
  obtain ⟨l, b, xs, zs, rfl, rfl, hH, hB, hz, q⟩ := h
  cases rx
  obtain ⟨u, rfl, ru⟩ := rv.one
  cases ru
  obtain ⟨z, its, n, r, hl, e⟩ := I.lstM hH
  obtain ⟨z2, its2, n2, r2, hl2, e2⟩ := I.lstM hB
  have hsz : its.toArray.size + its2.toArray.size ≤ sizeLine := by rw [List.size_toArray, List.size_toArray]; omega
  have hlong : ¬ (!its.toArray.isEmpty && Builtin.List.listTooLong (its.toArray.size + its2.toArray.size)) = true := by
    rw [notLongL hsz, Bool.and_false]
    exact Bool.false_ne_true
  refine call_meets F.slot_list_extend ⟨_, e, rfl⟩ F.entry_list_extend (F.args_list_extend_2 _ _)
    (AutoSeq1.list_extend_list_list_0 l its.toArray n b its2.toArray n2 hlong (by rw [List.size_toArray]; omega) (by omega)) ⟨e, e2, ?_⟩
  refine ⟨.non, _, I.lset (its' := its ++ its2) hH e (by simp) (r.append r2) ?_, rfl, q⟩
  rw [List.length_append]
  omega
def rPopAt : V → List V → Hp → VK → Prop := fun x vs H Q => ∃ l xs i k y, x = .ref l ∧ vs = [.int i] ∧ H l = some (.lst xs) ∧ -(2 ^ 63) ≤ i ∧ i < 2 ^ 63 ∧ seqIndex? i xs.length = some k ∧ xs[k]? = some y ∧ Q y (upd H l (.lst (xs.eraseIdx k)))
theorem mt_popAt : MtM X "list.pop" rPopAt := by
  intro pins s σ H x vs v us Q I rx rv h
  obtain ⟨l, xs, i, k, y, rfl, rfl, hH, h1, h2, hk, hy, q⟩ := h
  cases rx
  obtain ⟨u, rfl, ru⟩ := rv.one
  obtain ⟨t, rfl⟩ := ru
  obtain ⟨z, its, n, r, hl, e⟩ := I.lstM hH
  obtain ⟨w, hw, rw'⟩ := r.get hy
  refine call_meets F.slot_list_pop ⟨_, e, rfl⟩ F.entry_list_pop (F.args_list_pop_2 _ _)
    (MeetsSeq.list_pop_at l its.toArray n i t k w (fitsIndex_both h1 h2) (by rw [List.size_toArray, ← hl]; exact hk) (by rw [← Array.getElem?_toList]; exact hw) (by rw [List.size_toArray]; omega)) ⟨e, ?_⟩
  refine ⟨y, _, I.lset (its' := its.eraseIdx k) hH e ?_ (r.eraseIdx k) ?_, rw', q⟩
  · show its.toArray.eraseIdxIfInBounds k = (its.eraseIdx k).toArray
    rw [List.eraseIdxIfInBounds_toArray]
  · have := len_erase xs k
    omega
def rCat : R2 := fun x y H Q => ∃ l b xs zs, x = .ref l ∧ y = .ref b ∧ H l = some (.lst xs) ∧ H b = some (.lst zs) ∧ xs.length + zs.length ≤ sizeLine ∧ ∀ p, H p = none → Q (.ref p) (upd H p (.lst (xs ++ zs)))
theorem op_cat : OpR X (binaryOp .Add) rCat := by
  intro pins s σ H x y v u Q I rx ry h
  obtain ⟨l, b, xs, zs, rfl, rfl, hH, hB, hz, q⟩ := h
  cases rx
  cases ry
  obtain ⟨z, its, n, r, hl, e⟩ := I.lstM hH
  obtain ⟨z2, its2, n2, r2, hl2, e2⟩ := I.lstM hB
  refine PySem.P.add_list e e2 ?_ (by rw [List.size_toArray, List.size_toArray]; omega)
  have ea : its.toArray ++ its2.toArray = (its ++ its2).toArray := by simp
  rw [ea]
  exact ⟨.ref _, _, I.lnew (t' := s.toks) (r.append r2) (by rw [List.length_append]; omega), rfl, q _ I.fresh⟩
end
end L2
namespace L2
open PySem PySem.Spec PyProof.Rows
theorem Vals.bls : ∀ {bs : List Bool} {us : List Value}, Vals (bs.map V.bl) us → us = bs.map Value.bool
  | [], us, h => by
    rw [List.map_nil] at h
    cases h
    rfl
  | b :: bs, us, h => by
    rw [List.map_cons] at h
    cases h with
    | cons r t =>
      cases r
      rw [Vals.bls t, List.map_cons]
theorem Vals.ref1 {a : Addr} {us : List Value} (r : Vals [V.ref a] us) : us = [Value.ref a] := by
  cases r with
  | cons r t =>
    cases t
    cases r
    rfl
theorem iter_any {prog : Program} {w : World} {A : Around} {E : Value → Shared → Prop} {s : Shared} {l : Addr} {items : Array Value} {Q : Value → Shared → Prop} (hl : s.heap.IsList l items)
    (h : ∀ s₂ : Shared, s₂ = { s with heap := s.heap.push { cls := .type "list_iterator", data := .fields #[.ref l, .int 0 0] } } →
      (s₂.heap.IsListIter s.heap.objs.size l 0 ∧ s₂.heap.IsList l items) → l ≠ s.heap.objs.size → Q (.ref s.heap.objs.size) s₂) : wpAny (model prog w) A (pyIter (.ref l)) Q E s := by
  have hlt : l < s.heap.objs.size := by obtain ⟨_, e, _⟩ := hl; exact Heap.lt_size e
  exact wpAny_pyIter_list hl (h _ rfl ⟨⟨_, Heap.get?_push_size _ rfl, rfl, rfl⟩, hl.push _⟩ (Nat.ne_of_lt hlt))
theorem truth_bools {prog : Program} {w : World} {A : Around} {bs : List Bool} {its : List Value} (e : its = bs.map Value.bool) :
    TruthOf prog w A (fun i v => its.toArray[i]? = some v) (fun i => bs.getD i false) := fun i v s Q E hv hq => by
  have hv' : its[i]? = some v := by simpa using hv
  rw [e, List.getElem?_map] at hv'
  obtain ⟨b, hb, rfl⟩ := Option.map_eq_some_iff.mp hv'
  have hg : bs.getD i false = b := by rw [List.getD_eq_getElem?_getD, hb] <;> rfl
  have hq' : Q (bs.getD i false) s := hq
  rw [hg] at hq'
  exact wpAny_truthy_bool hq'
theorem all_range : ∀ bs : List Bool, (List.range bs.length).all (fun i => bs.getD i false) = bs.all id
  | [] => rfl
  | b :: bs => by
    rw [List.length_cons, List.range_succ_eq_map, List.all_cons, List.all_map, List.all_cons, ← all_range bs]
    all_goals rfl
section
variable {X : Cx}
def rAll (K : PySem.W.Frag) : List V → Hp → VK → Prop := fun vs H Q => ∃ (a : Addr) (bs : List Bool), vs = [V.ref a] ∧ SqL K H a (bs.map V.bl) ∧ Q (.bl (bs.all id)) H
theorem cr_all (hc : X.calm = true) : CallR X (.builtin "all") (rAll X.K) := by
  intro pins s σ H vs us Q I r h
  obtain ⟨a, bs, rfl, hs, q⟩ := h
  obtain ⟨its, rv, hl, _⟩ := I.list hs
  rw [Vals.ref1 r]
  have hb := rv.bls
  refine call_all_walk (iter_any hl.isList fun s₂ e2 st hne => ?_)
  subst e2
  refine ⟨_, _, _, _, _, _, _, rfl, Walks.list (A := X.A.in1) (I.ok.hd hc) _ a hne its.toArray, st, truth_bools hb, fun h' tk hk => ?_⟩
  refine ⟨.bl _, H, I.kept fun b o eo => hk b o (fun hmem => ?_) (Heap.get?_push_of_some _ eo), ?_, q⟩
  · rcases List.mem_cons.mp hmem with e1 | hmem
    · exact absurd (e1 ▸ Heap.lt_size eo) (Nat.lt_irrefl _)
    · cases hmem
  · show Value.bool _ = Value.bool _
    rw [← all_range, hb, List.size_toArray, List.length_map]
end
mutual
inductive Dp (K : PySem.W.Frag) (H : Hp) : V → PyData → Prop
  | non : Dp K H .non .none
  | bl (b : Bool) : Dp K H (.bl b) (.bool b)
  | int (i : Int) : Dp K H (.int i) (.int i)
  | str (x : Str) : Dp K H (.str x) (.str x)
  | lst {a : Addr} {xs : List V} {ds : List PyData} : SqL K H a xs → DpAll K H xs ds → Dp K H (.ref a) (.list ds)
  | tup {a : Addr} {xs : List V} {ds : List PyData} : SqT K H a xs → DpAll K H xs ds → Dp K H (.ref a) (.tuple ds)
inductive DpAll (K : PySem.W.Frag) (H : Hp) : List V → List PyData → Prop
  | nil : DpAll K H [] []
  | cons {v : V} {vs : List V} {d : PyData} {ds : List PyData} : Dp K H v d → DpAll K H vs ds → DpAll K H (v :: vs) (d :: ds)
end
section
variable {X : Cx} {pins : List (Addr × Obj)} {σ : St} {H : Hp} {s : Shared}
mutual
theorem Dp.reads (I : Inv X pins σ H s) : ∀ (d : PyData) (v : V) (u : Value), Dp X.K H v d → RelV v u → ∃ as, Reads s.heap u d as
  | .none, _, _, h, r => by
    cases h
    cases r
    exact ⟨_, Reads.none⟩
  | .bool b, _, _, h, r => by
    cases h
    cases r
    exact ⟨_, Reads.bool b⟩
  | .int i, _, _, h, r => by
    cases h
    obtain ⟨t, rfl⟩ := r
    exact ⟨_, Reads.int i t⟩
  | .str x, _, _, h, r => by
    cases h
    obtain ⟨t, rfl⟩ := r
    exact ⟨_, Reads.str x t⟩
  | .list ds, _, _, h, r => by
    cases h with
    | lst hs ha =>
      cases r
      obtain ⟨its, rv, ⟨o, n, ho, hc, _, hd⟩, _⟩ := I.list hs
      obtain ⟨as, hr⟩ := Dp.readsAll I ds _ its ha rv
      exact ⟨_, Reads.list ho hc hd hr⟩
  | .tuple ds, _, _, h, r => by
    cases h with
    | tup hs ha =>
      cases r
      obtain ⟨its, rv, ⟨o, ho, hc, n, hd⟩, _⟩ := I.tuple hs
      obtain ⟨as, hr⟩ := Dp.readsAll I ds _ its ha rv
      exact ⟨_, Reads.tuple ho hc hd hr⟩
  | .dict _, _, _, h, _ => by cases h
theorem Dp.readsAll (I : Inv X pins σ H s) : ∀ (ds : List PyData) (vs : List V) (us : List Value), DpAll X.K H vs ds → Vals vs us → ∃ as, ReadsAll s.heap us ds as
  | [], _, _, h, r => by
    cases h
    cases r
    exact ⟨_, ReadsAll.nil⟩
  | d :: ds, _, _, h, r => by
    cases h with
    | cons h1 h2 =>
      cases r with
      | cons r1 r2 =>
        obtain ⟨as, q1⟩ := Dp.reads I d _ _ h1 r1
        obtain ⟨bs, q2⟩ := Dp.readsAll I ds _ _ h2 r2
        exact ⟨_, ReadsAll.cons q1 q2⟩
end
end
section
variable {X : Cx}
def rEqD (K : PySem.W.Frag) : R2 := fun x y H Q => ∃ d e, Dp K H x d ∧ Dp K H y e ∧ SeqAt.shaped d = true ∧ SeqAt.shaped e = true ∧ Q (.bl (PyData.eqv d e)) H
theorem op_eqD (hu : X.A.units + 64 < cLine) : OpR X (compareOp .Eq) (rEqD X.K) := by
  intro pins s σ H x y v u Q I rx ry h
  obtain ⟨d, e, hd, he, sd, se, q⟩ := h
  obtain ⟨as, r1⟩ := Dp.reads I d x v hd rx
  obtain ⟨bs, r2⟩ := Dp.reads I e y u he ry
  exact SeqAt.compareEq_shaped r1 r2 sd se hu ⟨.bl _, H, I, rfl, q⟩
end
end L2
namespace L2
open PySem PySem.Spec PyProof.Rows
abbrev CellAt (h : Heap) (c : Addr) (v : Option Value) : Prop := h.IsCell c v
def relS (scope sc : Scope) : Scope :=
  { scope with names := scope.names.map fun (n, k) => if (k == .free && sc.kind == .function && sc.names.lookup n == some .cell) then (n, .cell) else (n, k) }
def cloFrom (cells : List (Str × Addr)) : List (Str × NameKind) → List (Str × Addr) → List (Str × Addr)
  | [], acc => acc
  | (n, k) :: r, acc => if k == .free then cloFrom cells r ((n, (cells.lookup n).getD 0) :: acc) else cloFrom cells r acc
theorem closure_loop (env : Env) (f : Str × NameKind → List (Str × Addr) → Sem (ForInStep (List (Str × Addr))))
    (hf : ∀ n k c, f (n, k) c = if k == .free then (do let a ← cellOf env n; pure (.yield ((n, a) :: c))) else pure (.yield c)) :
    ∀ (names : List (Str × NameKind)) (acc : List (Str × Addr)), (∀ y ∈ names, y.2 = .free → ∃ c, env.cells.lookup y.1 = some c) → forIn names acc f = pure (cloFrom env.cells names acc)
  | [], acc, _ => by rw [List.forIn_nil]; rfl
  | (n, k) :: r, acc, h => by
    rw [List.forIn_cons, hf]
    have ih := fun acc => closure_loop env f hf r acc fun y hy => h y (List.mem_cons_of_mem _ hy)
    unfold cloFrom
    by_cases hk : (k == NameKind.free) = true
    · rw [if_pos hk, if_pos hk]
      obtain ⟨c, hc⟩ := h (n, k) List.mem_cons_self (by simpa using hk)
      have e : cellOf env n = pure c := by unfold cellOf; rw [hc]
      rw [e]
      have e2 : (env.cells.lookup n).getD 0 = c := by rw [hc]; rfl
      rw [e2]
      exact ih _
    · rw [if_neg hk, if_neg hk]
      exact ih _
theorem closure_ok {scope : Scope} {env : Env} (h : ∀ y ∈ scope.names, y.2 = .free → ∃ c, env.cells.lookup y.1 = some c) : closureFor scope env = pure (cloFrom env.cells scope.names []) := by
  simp only [closureFor]
  rw [closure_loop env _ (fun n k c => rfl) scope.names [] h]
  rfl
theorem mem_lookup {α : Type} : ∀ {l : List (Str × α)} {n : Str} {c : α}, (n, c) ∈ l → ∃ c', l.lookup n = some c'
  | (k, v) :: r, n, c, h => by
    rw [List.lookup_cons]
    cases hb : n == k with
    | true => exact ⟨_, rfl⟩
    | false =>
      rcases List.mem_cons.mp h with e | h
      · cases e; simp at hb
      · exact mem_lookup h
theorem cloFrom_mem {cells : List (Str × Addr)} : ∀ {names : List (Str × NameKind)} {acc : List (Str × Addr)} {n : Str} {c : Addr}, (n, c) ∈ cloFrom cells names acc → (n, c) ∈ acc ∨ ((n, .free) ∈ names ∧ c = (cells.lookup n).getD 0)
  | [], _, _, _, h => .inl h
  | (m, k) :: r, acc, n, c, h => by
    unfold cloFrom at h
    split at h
    · rename_i hk
      have hk : k = .free := by simpa using hk
      rcases cloFrom_mem h with h | ⟨h1, h2⟩
      · rcases List.mem_cons.mp h with e | h
        · cases e; exact .inr ⟨hk ▸ List.mem_cons_self, rfl⟩
        · exact .inl h
      · exact .inr ⟨List.mem_cons_of_mem _ h1, h2⟩
    · rcases cloFrom_mem h with h | ⟨h1, h2⟩
      · exact .inl h
      · exact .inr ⟨List.mem_cons_of_mem _ h1, h2⟩
theorem cloFrom_acc {cells : List (Str × Addr)} : ∀ {names : List (Str × NameKind)} {acc : List (Str × Addr)} {p : Str × Addr}, p ∈ acc → p ∈ cloFrom cells names acc
  | [], _, _, h => h
  | (m, k) :: r, acc, p, h => by
    unfold cloFrom
    split
    · exact cloFrom_acc (List.mem_cons_of_mem _ h)
    · exact cloFrom_acc h
theorem cloFrom_has {cells : List (Str × Addr)} : ∀ {names : List (Str × NameKind)} {acc : List (Str × Addr)} {n : Str}, (n, .free) ∈ names → (n, (cells.lookup n).getD 0) ∈ cloFrom cells names acc
  | (m, k) :: r, acc, n, h => by
    unfold cloFrom
    rcases List.mem_cons.mp h with e | h
    · cases e
      exact cloFrom_acc List.mem_cons_self
    · split
      · exact cloFrom_has h
      · exact cloFrom_has h
theorem cells_mem : ∀ {names : List (Str × NameKind)} {h : Heap} {acc : List (Str × Addr)} {x : Str} {c : Addr}, (x, c) ∈ cellsFrom h.objs.size names acc →
    (x, c) ∈ acc ∨ ((x, .cell) ∈ names ∧ h.objs.size ≤ c ∧ CellAt (pushCells h names) c none)
  | [], _, _, _, _, h => .inl h
  | (n, k) :: r, h, acc, x, c, hm => by
    unfold cellsFrom at hm
    unfold pushCells
    split at hm
    · rename_i hk
      rw [if_pos hk]
      have hk : k = .cell := by simpa using hk
      rw [← Heap.size_push h { cls := .type "cell", data := .cell none }] at hm
      rcases cells_mem hm with hm | ⟨h1, h2, h3⟩
      · rcases List.mem_cons.mp hm with e | hm
        · cases e
          exact .inr ⟨hk ▸ List.mem_cons_self, Nat.le_refl _, _, pushCells_keeps r _ _ _ (Heap.get?_push_size _ rfl), rfl⟩
        · exact .inl hm
      · rw [Heap.size_push] at h2
        exact .inr ⟨List.mem_cons_of_mem _ h1, Nat.le_of_succ_le h2, h3⟩
    · rename_i hk
      rw [if_neg hk]
      rcases cells_mem hm with hm | ⟨h1, h2, h3⟩
      · exact .inl hm
      · exact .inr ⟨List.mem_cons_of_mem _ h1, h2, h3⟩
theorem cells_acc : ∀ {names : List (Str × NameKind)} {n : Nat} {acc : List (Str × Addr)} {p : Str × Addr}, p ∈ acc → p ∈ cellsFrom n names acc
  | [], _, _, _, h => h
  | (m, k) :: r, n, acc, p, h => by
    unfold cellsFrom
    split
    · exact cells_acc (List.mem_cons_of_mem _ h)
    · exact cells_acc h
theorem cells_has : ∀ {names : List (Str × NameKind)} {n : Nat} {acc : List (Str × Addr)} {x : Str}, (x, .cell) ∈ names → ∃ c, (x, c) ∈ cellsFrom n names acc
  | (m, k) :: r, n, acc, x, h => by
    unfold cellsFrom
    rcases List.mem_cons.mp h with e | h
    · cases e
      exact ⟨n, cells_acc List.mem_cons_self⟩
    · split
      · exact cells_has h
      · exact cells_has h
theorem cells_inj : ∀ {names : List (Str × NameKind)} {h : Heap} {acc : List (Str × Addr)} {x y : Str} {c : Addr}, (∀ p ∈ acc, p.2 < h.objs.size) → (∀ x y c, (x, c) ∈ acc → (y, c) ∈ acc → x = y) →
    (x, c) ∈ cellsFrom h.objs.size names acc → (y, c) ∈ cellsFrom h.objs.size names acc → x = y
  | [], _, _, _, _, _, _, hi, h1, h2 => hi _ _ _ h1 h2
  | (n, k) :: r, h, acc, x, y, c, hl, hi, h1, h2 => by
    unfold cellsFrom at h1 h2
    split at h1
    · rename_i hk
      rw [if_pos hk] at h2
      rw [← Heap.size_push h { cls := .type "cell", data := .cell none }] at h1 h2
      refine cells_inj (h := h.push _) (fun p hp => ?_) (fun x y c a b => ?_) h1 h2
      · rw [Heap.size_push]
        rcases List.mem_cons.mp hp with rfl | hp
        · exact Nat.lt_succ_self _
        · exact Nat.lt_succ_of_lt (hl p hp)
      · rcases List.mem_cons.mp a with e | a <;> rcases List.mem_cons.mp b with e' | b
        · cases e; cases e'; rfl
        · cases e; exact absurd (hl _ b) (Nat.lt_irrefl _)
        · cases e'; exact absurd (hl _ a) (Nat.lt_irrefl _)
        · exact hi _ _ _ a b
    · rename_i hk
      rw [if_neg hk] at h2
      exact cells_inj hl hi h1 h2
theorem newEnv_comp {M : Model} {A : Around} {E : Value → Shared → Prop} {s : Shared} {scope : Scope} {globals : Addr} {closure : List (Str × Addr)} {qual : Str} {func : Option Addr} {code : Value} {around : Env} {builtins : Addr} {Q : Env → Shared → Prop}
    (h : Q (newEnv scope s.heap.objs.size globals (cellsFrom (s.heap.objs.size + 1) scope.names closure) qual func code (some around) builtins)
      { s with heap := pushCells (s.heap.push { cls := .type "dict", data := .dict #[] }) scope.names }) :
    wpAny M A (newFunctionEnv scope globals closure [] qual func code (some around) builtins) Q E s := by
  simp only [newFunctionEnv, Option.isSome_some, if_true]
  refine wpAny_bind (wpAny_alloc ?_)
  refine wpAny_bind (wpAny_layCells _ (fun n k c => rfl) scope.names closure _ _ ?_)
  rw [show ({ s with heap := s.heap.push { cls := .type "dict", data := .dict #[] } } : Shared).heap.objs.size = s.heap.objs.size + 1 from Heap.size_push ..]
  rw [List.forIn_nil]
  exact wpAny_bind (wpAny_pure (wpAny_pure h))
theorem lookup_relS {sc : Scope} : ∀ {names : List (Str × NameKind)} {x : Str} {k : NameKind},
    (names.map fun (n, k) => if (k == NameKind.free && sc.kind == .function && sc.names.lookup n == some .cell) then (n, NameKind.cell) else (n, k)).lookup x = some k →
    ∃ k', names.lookup x = some k' ∧ (k = k' ∨ (k' = .free ∧ k = .cell))
  | [], _, _, h => by simp at h
  | (n, k₀) :: r, x, k, h => by
    have ih := @lookup_relS sc r x k
    have h' : List.lookup x ((if (k₀ == NameKind.free && sc.kind == .function && sc.names.lookup n == some .cell) = true then (n, NameKind.cell) else (n, k₀)) :: (r.map _)) = some k := h
    cases hx : x == n with
    | true =>
      simp only [List.lookup_cons, hx]
      by_cases hc : (k₀ == NameKind.free && sc.kind == .function && sc.names.lookup n == some .cell) = true
      · rw [if_pos hc] at h'
        simp only [List.lookup_cons, hx] at h'
        cases h'
        simp only [Bool.and_eq_true, beq_iff_eq] at hc
        exact ⟨k₀, rfl, .inr ⟨hc.1.1, rfl⟩⟩
      · rw [if_neg hc] at h'
        simp only [List.lookup_cons, hx] at h'
        cases h'
        exact ⟨_, rfl, .inl rfl⟩
    | false =>
      simp only [List.lookup_cons, hx]
      by_cases hc : (k₀ == NameKind.free && sc.kind == .function && sc.names.lookup n == some .cell) = true
      · rw [if_pos hc] at h'
        simp only [List.lookup_cons, hx] at h'
        exact ih h'
      · rw [if_neg hc] at h'
        simp only [List.lookup_cons, hx] at h'
        exact ih h'
structure BlkOk (N : List Str) (sc scope : Scope) (own : List (Str × Nat)) : Prop where
  kind : scope.kind = .function
  uniq : ∀ y ∈ scope.names, scope.names.lookup y.1 = some y.2
  ix : ∀ p ∈ own, N[p.2]? = some p.1
  free : ∀ y ∈ scope.names, y.2 = .free → sc.names.lookup y.1 = some .cell ∨ sc.names.lookup y.1 = some .free
  own : ∀ y ∈ scope.names, y.2 = .local ∨ y.2 = .cell → y.1 ∈ own.map (·.1) ∨ y.1 ∉ N
def wipe (σ : St) : List Nat → St
  | [] => σ
  | v :: vs => (wipe σ vs).set v none
theorem wipe_length (σ : St) : ∀ vs : List Nat, (wipe σ vs).length = σ.length
  | [] => rfl
  | v :: vs => by unfold wipe; rw [List.length_set, wipe_length σ vs]
theorem wipe_some {σ : St} {i : Nat} {x : V} : ∀ {vs : List Nat}, (wipe σ vs)[i]? = some (some x) → σ[i]? = some (some x) ∧ i ∉ vs
  | [], h => ⟨h, by simp⟩
  | v :: vs, h => by
    unfold wipe at h
    by_cases hi : v = i
    · subst hi
      by_cases hv : v < (wipe σ vs).length
      · rw [List.getElem?_set_self hv] at h; cases h
      · rw [List.getElem?_eq_none (by simpa using hv)] at h; cases h
    · rw [List.getElem?_set_ne hi] at h
      obtain ⟨h1, h2⟩ := wipe_some h
      exact ⟨h1, by simp only [List.mem_cons, not_or]; exact ⟨fun e => hi e.symm, h2⟩⟩
abbrev Cx.blk (X : Cx) (s : Shared) (H : Hp) (scope : Scope) (cenv : Env) (fp : List Addr) : Cx := { X with s_0 := s, H_0 := H, env := cenv, outer := X.stack, ex := fp, fn := fun x => scope.names.lookup x == some .cell, pn := [], xe := fun _ _ => False }
section
variable {X : Cx} {pins : List (Addr × Obj)} {σ : St} {H : Hp} {s : Shared}
theorem block_start {scope : Scope} {own : List (Str × Nat)} {fp : List Addr} (I : Inv X pins σ H s) (ok : BlkOk X.N X.env.scope scope own) (hN : X.N.Nodup) (hfp : ∀ b ∈ fp, FpOk X pins H b ∧ b < s.heap.objs.size) :
    Inv (X.blk s H scope (compEnvC scope (cellsFrom (s.heap.objs.size + 1) scope.names (cloFrom X.env.cells scope.names [])) s.heap.objs.size X.env) fp) [] (wipe σ (own.map (·.2))) H { s with heap := pushCells (s.heap.push { cls := .type "dict", data := .dict #[] }) scope.names } := by
  have hfree : ∀ y ∈ scope.names, y.2 = .free → ∃ c, X.env.cells.lookup y.1 = some c := fun y hy e => by
    rcases ok.free y hy e with k | k
    · exact I.ok.has _ (.inl k)
    · exact I.ok.has _ (.inr k)
  generalize hcenv : compEnvC scope (cellsFrom (s.heap.objs.size + 1) scope.names (cloFrom X.env.cells scope.names [])) s.heap.objs.size X.env = cenv
  have kp : ∀ b o, s.heap.get? b = some o → (pushCells (s.heap.push { cls := .type "dict", data := .dict #[] }) scope.names).get? b = some o := fun b o e => pushCells_keeps _ _ _ _ (Heap.get?_push_of_some _ e)
  have hL : cenv.locals = s.heap.objs.size := by rw [← hcenv]; rfl
  have hcl : cenv.cells = cellsFrom (s.heap.objs.size + 1) scope.names (cloFrom X.env.cells scope.names []) := by rw [← hcenv]; rfl
  have hsc : cenv.scope = relS scope X.env.scope := by rw [← hcenv]; rfl
  rw [← Heap.size_push s.heap { cls := .type "dict", data := .dict #[] }] at hcl
  have cm : ∀ {y c}, (y, c) ∈ cloFrom X.env.cells scope.names [] → X.env.cells.lookup y = some c ∧ c < s.heap.objs.size := fun {y c} hm => by
    rcases cloFrom_mem hm with hm | ⟨h1, rfl⟩
    · cases hm
    · obtain ⟨c, hc⟩ := hfree _ h1 rfl
      rw [hc]
      obtain ⟨w, z⟩ := I.cell _ _ hc
      exact ⟨rfl, z.lt⟩
  have mem : ∀ {y c}, cenv.cells.lookup y = some c → (X.env.cells.lookup y = some c ∧ c < s.heap.objs.size) ∨ (s.heap.objs.size + 1 ≤ c ∧ CellAt (pushCells (s.heap.push { cls := .type "dict", data := .dict #[] }) scope.names) c none) := fun {y c} e => by
    rw [hcl] at e
    rcases cells_mem (PySem.mem_of_lookup e) with hm | ⟨_, h2, h3⟩
    · exact .inl (cm hm)
    · rw [Heap.size_push] at h2; exact .inr ⟨h2, h3⟩
  have look : ∀ {y}, scope.names.lookup y = some .free → ∃ c, cenv.cells.lookup y = some c ∧ X.env.cells.lookup y = some c := fun {y} hl => by
    have hy : (y, NameKind.free) ∈ scope.names := PySem.mem_of_lookup hl
    obtain ⟨c', e'⟩ := mem_lookup (cells_acc (names := scope.names) (n := (s.heap.push { cls := .type "dict", data := .dict #[] }).objs.size) (cloFrom_has (cells := X.env.cells) (acc := []) hy))
    rw [← hcl] at e'
    refine ⟨c', e', ?_⟩
    rw [hcl] at e'
    rcases cells_mem (PySem.mem_of_lookup e') with hm | ⟨h1, _, _⟩
    · exact (cm hm).1
    · have := ok.uniq _ h1
      rw [hl] at this; cases this
  have okB : (X.blk s H scope cenv fp).Ok := by
    refine ⟨I.ok.mod, by show cenv.scope.kind = _; rw [hsc]; exact ok.kind, by show cenv.globals = _; rw [← hcenv]; exact I.ok.glob, by show cenv.builtins = _; rw [← hcenv]; exact I.ok.blt, by show s.heap.objs.size ≤ cenv.locals; rw [hL]; exact Nat.le_refl _,
      fun y z c e1 e2 => ?_, fun y hy => ?_, fun y c z e => ?_, I.ok.hd, I.ok.frames, .inl rfl, fun b hb => ⟨?_, fun y c e z => ?_⟩, I.bs, Nat.le_trans I.ok.bsz I.sz, fun b o e hb => ?_, fun b hb z => ?_, I.stack, I.stkFree⟩
    · have e1 : cenv.cells.lookup y = some c := e1
      have e2 : cenv.cells.lookup z = some c := e2
      rw [hcl] at e1 e2
      refine cells_inj (fun p hp => ?_) (fun y z c a b => I.ok.inj y z c (cm a).1 (cm b).1) (PySem.mem_of_lookup e1) (PySem.mem_of_lookup e2)
      rw [Heap.size_push]
      exact Nat.lt_succ_of_lt (cm (y := p.1) (c := p.2) hp).2
    · show ∃ c, cenv.cells.lookup y = some c
      have key : ∀ k, cenv.kindOf y = some k → (k = .cell ∨ k = .free) → ∃ c, cenv.cells.lookup y = some c := fun k hk hk' => by
        unfold Env.kindOf at hk
        rw [hsc] at hk
        obtain ⟨k', e, r⟩ := lookup_relS hk
        have : k' = .cell ∨ k' = .free := by
          rcases r with rfl | ⟨rfl, _⟩
          · exact hk'
          · exact .inr rfl
        rcases this with rfl | rfl
        · obtain ⟨c, hm⟩ := cells_has (n := (s.heap.push { cls := .type "dict", data := .dict #[] }).objs.size) (acc := cloFrom X.env.cells scope.names []) (PySem.mem_of_lookup e)
          obtain ⟨c', e'⟩ := mem_lookup hm
          exact ⟨c', by rw [hcl]; exact e'⟩
        · obtain ⟨c, h1, _⟩ := look e
          exact ⟨c, h1⟩
      rcases hy with hy | hy
      · exact key _ hy (.inl rfl)
      · exact key _ hy (.inr rfl)
    · have z : (scope.names.lookup y == some NameKind.cell) = true := z
      have z : scope.names.lookup y = some .cell := by simpa using z
      have e : cenv.cells.lookup y = some c := e
      rw [hcl] at e
      rcases cells_mem (PySem.mem_of_lookup e) with hm | ⟨_, h2, _⟩
      · rcases cloFrom_mem hm with hm | ⟨h1, _⟩
        · cases hm
        · have q := ok.uniq _ h1
          rw [z] at q; cases q
      · rw [Heap.size_push] at h2
        exact Nat.le_of_succ_le h2
    · show b ≠ cenv.locals
      rw [hL]; exact Nat.ne_of_lt (hfp b hb).2
    · have e : cenv.cells.lookup y = some c := e
      rcases mem e with ⟨h1, _⟩ | ⟨h1, _⟩
      · exact (hfp b hb).1.2.2.2.2.1 y c h1 z
      · have h2 : s.heap.objs.size + 1 ≤ b := by rw [← z]; exact h1
        exact absurd (Nat.lt_of_lt_of_le (hfp b hb).2 (Nat.le_of_succ_le h2)) (Nat.lt_irrefl _)
    · rcases (hfp b hb).1.2.2.2.1 with z | z
      · exact I.ok.noex b o e z
      · exact absurd (Nat.lt_of_lt_of_le (Heap.lt_size e) (Nat.le_trans I.ok.bsz z)) (Nat.lt_irrefl _)
    · rcases List.mem_cons.mp (I.stkSub b z) with z | z
      · exact (hfp b hb).1.2.1 z
      · exact (hfp b hb).1.2.2.1 z
  refine ⟨okB, rfl, I.bare, Un.kept kp, ⟨fun _ => none, ?_, fun i y av e1 e2 e3 => ?_⟩, fun y c e => ?_, ?_, fun y c e => ?_, fun p hp => ?_, I.hok.kept kp, by rw [wipe_length]; exact I.len⟩
  · show Heap.Ns _ cenv.locals _
    rw [hL]
    exact Heap.Ns.keeps (Heap.Ns.new ..) fun b o e => pushCells_keeps _ _ _ _ e
  · obtain ⟨e2, hne⟩ := wipe_some e2
    have hfr : scope.names.lookup y = some .free ∧ (cenv.kindOf y = some .cell ∨ cenv.kindOf y = some .free) := by
      have key : ∀ k, cenv.scope.names.lookup y = some k → k = .local ∨ k = .cell ∨ k = .free → scope.names.lookup y = some .free ∧ (cenv.kindOf y = some .cell ∨ cenv.kindOf y = some .free) := fun k hk hk' => by
        have hk0 := hk
        rw [hsc] at hk
        obtain ⟨k', e, r⟩ := lookup_relS hk
        have no : ¬ (k' = .local ∨ k' = .cell) := fun hh => by
          rcases ok.own _ (PySem.mem_of_lookup e) hh with e' | e'
          · obtain ⟨p, hp, hpy⟩ := List.mem_map.mp e'
            have e3 := ok.ix p hp
            have : p.1 = y := hpy
            rw [this] at e3
            exact hne (List.mem_map.mpr ⟨p, hp, nodup_ix hN e3 e1⟩)
          · exact e' (List.mem_of_getElem? e1)
        rcases r with rfl | ⟨rfl, rfl⟩
        · rcases hk' with rfl | rfl | rfl
          · exact absurd (.inl rfl) no
          · exact absurd (.inr rfl) no
          · exact ⟨e, .inr hk0⟩
        · exact ⟨e, .inl hk0⟩
      have e3 : Vis cenv.scope y := e3
      rcases e3 with e3 | e3 | e3
      · exact key _ e3 (.inl rfl)
      · exact key _ e3 (.inr (.inl rfl))
      · exact key _ e3 (.inr (.inr rfl))
    obtain ⟨m, hn, hl⟩ := I.loc
    have hvis : Vis X.env.scope y := (ok.free _ (PySem.mem_of_lookup hfr.1) rfl).elim (fun k => .inr (.inl k)) (fun k => .inr (.inr k))
    obtain ⟨w, r, q⟩ := hl i y av e1 e2 hvis
    refine ⟨w, r, .inr ⟨hfr.2, ?_⟩⟩
    obtain ⟨c, h1, h2⟩ := look hfr.1
    rcases q with ⟨k, _⟩ | ⟨_, c', e', z⟩
    · have k : X.env.scope.names.lookup y = some .local := k
      rcases ok.free _ (PySem.mem_of_lookup hfr.1) rfl with k' | k' <;> rw [show X.env.scope.names.lookup y = _ from k'] at k <;> cases k
    · rw [h2] at e'; cases e'
      exact ⟨c, h1, z.keeps kp⟩
  · have e : cenv.cells.lookup y = some c := e
    rcases mem e with ⟨h1, _⟩ | ⟨_, z⟩
    · obtain ⟨w, z⟩ := I.cell y c h1
      exact ⟨w, z.keeps kp⟩
    · exact ⟨_, z⟩
  · show H cenv.locals = none
    rw [hL]; exact I.hok.fresh (Nat.le_refl _)
  · have e : cenv.cells.lookup y = some c := e
    rcases mem e with ⟨h1, _⟩ | ⟨h1, _⟩
    · exact I.freeC y c h1
    · exact I.hok.fresh (Nat.le_of_succ_le h1)
  · exact absurd (show p ∈ ([] : List (Addr × Obj)) ++ [] from hp) (by simp)
theorem app_ok {E : Value → Shared → Prop} {D : Addr} {xs : List V} {y : V} {v : Value} {Q : Value → Shared → Prop} (I : Inv X pins σ H s) (hD : H D = some (.lst xs)) (hz : xs.length < sizeLine) (r : RelV y v)
    (h : ∀ s', Inv X pins σ (upd H D (.lst (xs ++ [y]))) s' → Q .none s') : wpAny (model X.prog X.w) X.A (call (.builtin "list.append") [.ref D, v]) Q E s := by
  obtain ⟨hz', its, n, ri, e⟩ := I.hok D _ hD
  have hl := ri.length
  refine append_at (hsz := by rw [List.size_toArray]; omega) e fun h' sb ho' => ?_
  refine h { s with heap := h' } (I.write (t' := s.toks) (by rw [hD]; trivial) (.inl rfl) (fun b u hb q => (sb.2 b hb).trans q) ⟨_, ho'⟩ ⟨by rw [List.length_append]; exact hz, its ++ [v], n + 1, ri.append (.cons r .nil), ?_⟩)
  rw [ho']
  simp
def PTs (X : Cx) (ifs : List Expr) (t : TT) : Prop :=
  ∀ (pins : List (Addr × Obj)) (s : Shared) (σ : St) (H : Hp) (Q : Bool → Hp → Prop), Inv X pins σ H s → t σ H Q →
    wpAny (model X.prog X.w) X.A (forIn ifs true fun c r => if r = true then do let ok ← isTrue c X.env (eval c X.env); pure (ForInStep.yield ok) else pure (ForInStep.yield r)) (TP X pins σ Q) X.xe s
def tYes : TT := fun _ H Q => Q true H
theorem pts_nil : PTs X [] tYes := fun _ _ _ H _ I h => wpAny_tests_nil ⟨H, I, h⟩
end
theorem thnF {α : Type} {t : Sem α} {Q Q' : α → Shared → Prop} {M : Model} {A : Around} {E : Value → Shared → Prop} {s : Shared} (h : wpAny M A t Q (fun _ _ => False) s) (hQ : ∀ a s, Q a s → Q' a s) : wpAny M A t Q' E s := wpAny_mono h hQ fun _ _ z => False.elim z
theorem compLoop_any {prog : Program} {w : World} {A : Around} {R : Result → Shared → Prop} {s : Shared} {elt target iter : Expr} {ifs : List Expr} {scope : Scope} {pos : Pos} {it acc : Value} {env : Env} (I : Nat → Shared → Prop)
    (turn : ∀ n s, I n s → wpAny (model prog w) A (pyNext it) (fun r s₁ => match r with
      | none => R (.ok .next) s₁
      | some v => wpAny (model prog w) A (letOwnedTupleGo target it v) (fun _ s₁' => wpAny (model prog w) A (assign target env v) (fun _ s₂ =>
          wpAny (model prog w) A (forIn ifs true fun c r => if r = true then do let ok ← isTrue c env (eval c env); pure (ForInStep.yield ok) else pure (ForInStep.yield r)) (fun ok s₃ =>
            if ok = true then wpAny (model prog w) A (eval elt env) (fun x s₄ =>
              wpAny (model prog w) A (call (.builtin "list.append") [acc, x]) (fun _ s₅ => ∃ m, m < n ∧ I m s₅) (notedBy (model prog w) A env fun e s' => R (.error e) s') s₄) (notedBy (model prog w) A env fun e s' => R (.error e) s') s₃
            else ∃ m, m < n ∧ I m s₃) (notedBy (model prog w) A env fun e s' => R (.error e) s') s₂) (notedBy (model prog w) A env fun e s' => R (.error e) s') s₁') (notedBy (model prog w) A env fun e s' => R (.error e) s') s₁) (notedBy (model prog w) A env fun e s' => R (.error e) s') s)
    (n : Nat) (h : I n s) :
    codeAny (model prog w) A (.compLoop (.ListComp elt [⟨target, iter, ifs, 0⟩] scope pos) 0 it acc env) R s := by
  refine codeAny_loop rfl I (fun n s hI => ?_) n h
  show wpAny _ A ((compTurn (.ListComp elt [⟨target, iter, ifs, 0⟩] scope pos) 0 it acc env).onRaise (fun x => do noteFrame x env; theTreesLotGoes x)) _ _ s
  refine wpAny_noted ?_
  rw [compTurn_list]
  refine wpAny_bind (wpAny_standAt (wpAny_bind (wpAny_mono (turn n s hI) (fun r s₁ h₁ => ?_) fun _ _ h' => h')))
  cases r with
  | none => exact wpAny_pure h₁
  | some v =>
    refine wpAny_bind (wpAny_mono h₁ (fun _ s₁' h₁' => ?_) fun _ _ h' => h')
    refine wpAny_bind (wpAny_mono h₁' (fun _ s₂ h₂ => wpAny_bind (wpAny_mono h₂ (fun ok s₃ h₃ => ?_) fun _ _ h' => h')) fun _ _ h' => h')
    cases ok with
    | false => exact wpAny_pure ⟨rfl, h₃⟩
    | true =>
      exact wpAny_bind (wpAny_bind (wpAny_mono h₃ (fun x s₄ h₄ => wpAny_bind (wpAny_mono h₄ (fun _ s₅ h₅ => wpAny_pure (wpAny_pure ⟨rfl, h₅⟩)) fun _ _ h' => h')) fun _ _ h' => h'))
section
variable {X : Cx}
def tLc (wi : TI) (g : TG) (tt : TT) (te : TE) (vs : List Nat) : TE := fun σ H Q => wi σ H fun J H1 => ∀ D, H1 D = none → ∃ W : Nat → Nat → Hp → Prop, (∃ m, W 0 m (upd H1 D (.lst []))) ∧ ∀ i m H, W i m H →
  (J.stop i H ∧ Q (.ref D) H) ∨ (J.go i H ∧ ∃ Nx : Hp → Prop, (∀ H', Nx H' → ∃ m', m' < m ∧ W (i + 1) m' H') ∧ ∀ x H', J.yld i H x H' → g x (wipe σ vs) H' fun σ2 H2 => wipe σ2 vs = wipe σ vs ∧ tt σ2 H2 fun b H3 =>
    if b = true then te σ2 H3 fun y H4 => ∃ acc, H4 D = some (.lst acc) ∧ acc.length < sizeLine ∧ Nx (upd H4 D (.lst (acc ++ [y]))) else Nx H3)
theorem lc_core {pins : List (Addr × Obj)} {s : Shared} {σ : St} {H : Hp} {Q : VK} {elt tg iter : Expr} {ifs : List Expr} {scope : Scope} {own : List (Str × Nat)} {pos pos' : Pos} {wi : TI} {g : TG} {tt : TT} {te : TE} {use : Option (Value → Sem Unit)} {Qf : Value → Shared → Prop}
    (hc : X.calm = true) (hN : X.N.Nodup) (I : Inv X pins σ H s) (hi : PI X tg iter wi) (ok : BlkOk X.N X.env.scope scope own)
    (hg : ∀ (s : Shared) (H : Hp) (C : Addr) (cl : List (Str × Addr)) (fp : List Addr), PG (X.blk s H scope (compEnvC scope cl C X.env) fp) tg g) (ht : ∀ (s : Shared) (H : Hp) (C : Addr) (cl : List (Str × Addr)) (fp : List Addr), PTs (X.blk s H scope (compEnvC scope cl C X.env) fp) ifs tt)
    (he : ∀ (s : Shared) (H : Hp) (C : Addr) (cl : List (Str × Addr)) (fp : List Addr), PE (X.blk s H scope (compEnvC scope cl C X.env) fp) elt te) (hs : ∀ x, foldedSetIterable iter X.env x = pure x)
    (h : tLc wi g tt te (own.map (·.2)) σ H Q)
    (hRR : ∀ D C s' m H', Inv X pins σ H' s' → Q (.ref D) H' → s'.heap.Ns C m → FpOk X pins H' C → compPost (model X.prog X.w) X.A X.xe use Qf (.ref D) C (.ok .next) s') :
    wpAny (model X.prog X.w) X.A (comprehension (.ListComp elt [⟨tg, iter, ifs, 0⟩] scope pos) scope X.env pos' (newList []) false (eval iter X.env) use) Qf X.xe s := by
  have hfree : ∀ y ∈ scope.names, y.2 = .free → ∃ c, X.env.cells.lookup y.1 = some c := fun y hy e => by
    rcases ok.free y hy e with k | k
    · exact I.ok.has _ (.inl k)
    · exact I.ok.has _ (.inr k)
  refine wpAny_comprehension_free (use := use) rfl hs (closure_ok hfree) ok.kind (fun y hy e => by rw [ok.uniq y hy, e])
    (thn (hi pins s σ H _ I h) fun xv s1 hx => thn hx fun itv s2 h2 => ?_)
  obtain ⟨it, fp, tn, J, H2, e, I2, T, st2, f2, q⟩ := h2
  subst e
  refine wpAny_newObj_type (newEnv_comp ?_) (by show 0 ≤ sizeLine; decide)
  generalize hD : s2.heap.objs.size = D
  have hDn : H2 D = none := I2.hok.fresh (Nat.le_of_eq hD)
  obtain ⟨W, ⟨m0, w0⟩, turn⟩ := q D hDn
  generalize hs3 : ({ s2 with heap := s2.heap.push { cls := .type "list", data := .seq ([] : List Value).toArray } } : Shared) = s3
  have I3 : Inv X pins σ (upd H2 D (.lst [])) s3 := by
    rw [← hs3]
    refine I2.laid (t' := s2.toks) (fun b o e => Heap.get?_push_of_some _ e) (Nat.le_of_eq hD) ⟨Nat.zero_le _, [], 0, .nil, ?_⟩
    rw [← hD]
    exact Heap.get?_push_size _ rfl
  have h3 : s3.heap = s2.heap.push { cls := .type "list", data := .seq ([] : List Value).toArray } := by rw [← hs3]
  have sz : ∀ b ∈ fp, b < s2.heap.objs.size := fun b hb => by
    obtain ⟨o, e, _⟩ := T.obj _ _ st2 b hb
    exact Heap.lt_size e
  have f3 : ∀ b ∈ fp, FpOk X pins (upd H2 D (.lst [])) b ∧ b < s3.heap.objs.size := fun b hb => by
    have hlt := sz b hb
    refine ⟨⟨?_, (f2 b hb).2⟩, by rw [h3, Heap.size_push]; exact Nat.lt_succ_of_lt hlt⟩
    rw [upd_ne (by rw [← hD]; exact Nat.ne_of_lt hlt)]
    exact (f2 b hb).1
  have st3 : tn 0 s3.heap := T.keep _ _ _ st2 fun b _ o e => by rw [h3]; exact Heap.get?_push_of_some _ e
  have I4 := block_start I3 ok hN f3
  have pg := hg s3 (upd H2 D (.lst [])) s3.heap.objs.size (cellsFrom (s3.heap.objs.size + 1) scope.names (cloFrom X.env.cells scope.names [])) fp
  have pt := ht s3 (upd H2 D (.lst [])) s3.heap.objs.size (cellsFrom (s3.heap.objs.size + 1) scope.names (cloFrom X.env.cells scope.names [])) fp
  have pe := he s3 (upd H2 D (.lst [])) s3.heap.objs.size (cellsFrom (s3.heap.objs.size + 1) scope.names (cloFrom X.env.cells scope.names [])) fp
  show codeAny _ _ (.compStart (.ListComp elt [⟨tg, iter, ifs, 0⟩] scope pos) 0 (.ref it) (.ref D) (compEnvC scope (cellsFrom (s3.heap.objs.size + 1) scope.names (cloFrom X.env.cells scope.names [])) s3.heap.objs.size X.env)) (compPost (model X.prog X.w) X.A X.xe use Qf (.ref D) s3.heap.objs.size) { s3 with heap := pushCells (s3.heap.push { cls := .type "dict", data := .dict #[] }) scope.names }
  have nfp : ∀ b ∈ fp, (upd H2 D (.lst [])) b = none := fun b hb => (f3 b hb).1.1
  generalize hce : compEnvC scope (cellsFrom (s3.heap.objs.size + 1) scope.names (cloFrom X.env.cells scope.names [])) s3.heap.objs.size X.env = ce at I4 pg pt pe ⊢
  have cL : ce.locals = s3.heap.objs.size := by subst hce; rfl
  generalize hH3 : upd H2 D (.lst []) = H3 at I3 I4 pg pt pe w0 nfp f3
  generalize hs4 : ({ s3 with heap := pushCells (s3.heap.push { cls := .type "dict", data := .dict #[] }) scope.names } : Shared) = s4 at I4 ⊢
  have st4 : tn 0 s4.heap := T.keep _ _ _ st3 fun b _ o e => by rw [← hs4]; exact pushCells_keeps _ _ _ _ (Heap.get?_push_of_some _ e)
  have stat : ∀ {σ' : St} {H' : Hp} {s' : Shared}, Inv (X.blk s3 H3 scope ce fp) [] σ' H' s' → (∀ b ∈ fp, H' b = none) → ∀ b ∈ fp, FpOk (X.blk s3 H3 scope ce fp) [] H' b := fun {σ' H' s'} I' hn b hb =>
    ⟨hn b hb, (I'.ok.exf b hb).1, I'.ok.exfs b hb, .inl hb, fun x c e => (I'.ok.exf b hb).2 x c e, fun p hp => absurd (show p ∈ ([] : List (Addr × Obj)) ++ [] from hp) (by simp)⟩
  have loop : codeAny (model X.prog X.w) X.A (.compLoop (.ListComp elt [⟨tg, iter, ifs, 0⟩] scope pos) 0 (.ref it) (.ref D) ce) (compPost (model X.prog X.w) X.A X.xe use Qf (.ref D) s3.heap.objs.size) s4 := by
    refine compLoop_any (fun n s' => ∃ i H', Inv (X.blk s3 H3 scope ce fp) [] (wipe σ (own.map (·.2))) H' s' ∧ tn i s'.heap ∧ (∀ b ∈ fp, H' b = none) ∧ W i n H') ?_ m0 ⟨0, H3, I4, st4, nfp, w0⟩
    rintro n s5 ⟨i, H5, I5, st5, n5, w5⟩
    rcases turn i n H5 w5 with ⟨stop, qq⟩ | ⟨go, Nx, hNx, step⟩
    · have td := T.done (X.blk s3 H3 scope ce fp) rfl rfl rfl hc i [] s5 _ H5 (fun _ _ => False) I5 (stat I5 n5) st5 stop
      refine thnF td fun r s6 ⟨hr, I6⟩ => ?_
      subst hr
      have I7 : Inv X pins σ H5 s6 := I3.call' (ch := fp) I6.os I6.base I6.hok I6.bare fun b hb => ⟨(f3 b hb).1.2.2.2.1, (f3 b hb).1.2.1, (f3 b hb).1.2.2.2.2.1, (f3 b hb).1.2.2.2.2.2⟩
      have nC : H5 s3.heap.objs.size = none := by
        have z : H5 ce.locals = none := I6.free
        rw [cL] at z
        exact z
      obtain ⟨m, hn, _⟩ := I6.loc
      have hn : s6.heap.Ns ce.locals m := hn
      rw [cL] at hn
      exact hRR D s3.heap.objs.size s6 m H5 I7 qq hn (I3.fpOk (Nat.le_refl _) nC)
    · have ti := T.item (X.blk s3 H3 scope ce fp) rfl rfl rfl hc i [] s5 _ H5 (fun _ _ => False) I5 (stat I5 n5) st5 go
      refine thnF ti fun r s6 ⟨u, hr, h6⟩ => ?_
      subst hr
      refine thnF h6 fun _ s7 ⟨x, H7, I7, r7, y7, st7, n7⟩ => ?_
      have I7' := I7.pinned (stat I7 n7) (T.obj _ _ st7)
      refine thnF (pg _ s7 _ H7 x u _ I7' r7 (step x H7 y7)) fun _ s8 ⟨σ8, H8, I8, hw8, q8⟩ => ?_
      refine thnF (pt _ s8 σ8 H8 _ I8 q8) fun b s9 ⟨H9, I9, q9⟩ => ?_
      have fin : ∀ {s' : Shared} {H' : Hp}, Inv (X.blk s3 H3 scope ce fp) ([] ++ pinsAt fp s7.heap) σ8 H' s' → Nx H' → ∃ m, m < n ∧ ∃ i H', Inv (X.blk s3 H3 scope ce fp) [] (wipe σ (own.map (·.2))) H' s' ∧ tn i s'.heap ∧ (∀ b ∈ fp, H' b = none) ∧ W i m H' := fun {s' H'} I' nx => by
        obtain ⟨m', hm, w'⟩ := hNx H' nx
        have pin' : ∀ b ∈ fp, ∀ o, s7.heap.get? b = some o → s'.heap.get? b = some o ∧ H' b = none := fun b hb o e =>
          let z := I'.pin (b, o) (List.mem_append_right _ (List.mem_append_right _ (mem_pinsAt hb e)))
          ⟨z.1, z.2.1⟩
        have hl : (wipe σ (own.map (·.2))).length = σ8.length := by rw [← hw8, wipe_length]
        refine ⟨m', hm, i + 1, H', (I'.unpinned (pins := [])).weak hl (fun j v e => ?_), T.keep _ _ _ st7 fun b hb o e => (pin' b hb o e).1, fun b hb => ?_, w'⟩
        · rw [← hw8] at e
          exact (wipe_some e).1
        · obtain ⟨o, e, _⟩ := T.obj _ _ st7 b hb
          exact (pin' b hb o e).2
      cases b with
      | false =>
        simp only [Bool.false_eq_true, if_false] at q9 ⊢
        exact fin I9 q9
      | true =>
        simp only [if_true] at q9 ⊢
        refine thnF (pe _ s9 σ8 H9 _ I9 q9) fun z s10 ⟨yv, H10, I10, r10, acc, hD10, hz10, nx⟩ => ?_
        exact app_ok (X := X.blk s3 H3 scope ce fp) I10 hD10 hz10 r10 fun s11 I11 => fin I11 nx
  exact codeAny_compStart_list loop (T.self X.A 0 _ _ _ st4 loop)
theorem pe_lc {elt tg iter : Expr} {ifs : List Expr} {scope : Scope} {own : List (Str × Nat)} {pos : Pos} {wi : TI} {g : TG} {tt : TT} {te : TE} (hc : X.calm = true) (hN : X.N.Nodup) (hi : PI X tg iter wi) (ok : BlkOk X.N X.env.scope scope own)
    (hg : ∀ (s : Shared) (H : Hp) (C : Addr) (cl : List (Str × Addr)) (fp : List Addr), PG (X.blk s H scope (compEnvC scope cl C X.env) fp) tg g) (ht : ∀ (s : Shared) (H : Hp) (C : Addr) (cl : List (Str × Addr)) (fp : List Addr), PTs (X.blk s H scope (compEnvC scope cl C X.env) fp) ifs tt)
    (he : ∀ (s : Shared) (H : Hp) (C : Addr) (cl : List (Str × Addr)) (fp : List Addr), PE (X.blk s H scope (compEnvC scope cl C X.env) fp) elt te) (hs : ∀ x, foldedSetIterable iter X.env x = pure x := by intro _; rfl) :
    PE X (.ListComp elt [⟨tg, iter, ifs, 0⟩] scope pos) (tLc wi g tt te (own.map (·.2))) := by
  intro pins s σ H Q I h
  rw [eval_ListComp]
  refine lc_core hc hN I hi ok hg ht he hs h fun D C s' m H' I' q hn f => ⟨m, hn, fun h'' sb => ?_⟩
  obtain ⟨f0, f1, f2, f3, f4, f5⟩ := f
  exact ⟨.ref D, H', I'.turned (t' := s'.toks) (fun b o hb e => (sb.2 b hb).trans e) f0 f1 f3 f4 f5, rfl, q⟩
end
theorem lc_range {lo : Int} {n : Nat} {g : TG} {tt : TT} {te : TE} {vs : List Nat} {σ : St} {H1 : Hp} {D : Addr} {Qd : Hp → Prop} (Pv : Nat → Hp → Prop) (h0 : Pv 0 (upd H1 D (.lst [])))
    (hs : ∀ i H, i < n → Pv i H → g (.int (lo + i)) (wipe σ vs) H fun σ2 H2 => wipe σ2 vs = wipe σ vs ∧ tt σ2 H2 fun b H3 =>
      if b = true then te σ2 H3 fun y H4 => ∃ acc, H4 D = some (.lst acc) ∧ acc.length < sizeLine ∧ Pv (i + 1) (upd H4 D (.lst (acc ++ [y]))) else Pv (i + 1) H3) (hd : ∀ H, Pv n H → Qd H) :
    ∃ W : Nat → Nat → Hp → Prop, (∃ m, W 0 m (upd H1 D (.lst []))) ∧ ∀ i m H, W i m H →
      ((Itr lo n).stop i H ∧ Qd H) ∨ ((Itr lo n).go i H ∧ ∃ Nx : Hp → Prop, (∀ H', Nx H' → ∃ m', m' < m ∧ W (i + 1) m' H') ∧ ∀ x H', (Itr lo n).yld i H x H' → g x (wipe σ vs) H' fun σ2 H2 => wipe σ2 vs = wipe σ vs ∧ tt σ2 H2 fun b H3 =>
        if b = true then te σ2 H3 fun y H4 => ∃ acc, H4 D = some (.lst acc) ∧ acc.length < sizeLine ∧ Nx (upd H4 D (.lst (acc ++ [y]))) else Nx H3) := by
  refine ⟨fun i m H => m = n - i ∧ i ≤ n ∧ Pv i H, ⟨n, by simp, Nat.zero_le _, h0⟩, ?_⟩
  rintro i m H ⟨rfl, hi, p⟩
  by_cases hlt : i < n
  · refine .inr ⟨hlt, Pv (i + 1), fun H' p' => ⟨n - (i + 1), by omega, rfl, hlt, p'⟩, fun x H' y => ?_⟩
    obtain ⟨e, y⟩ := y
    subst e y
    exact hs i _ hlt p
  · have e : i = n := by omega
    subst e
    exact .inl ⟨Nat.le_refl _, hd H p⟩
theorem lc_list {K : PySem.W.Frag} {a : Addr} {xs : List V} {g : TG} {tt : TT} {te : TE} {vs : List Nat} {σ : St} {H1 : Hp} {D : Addr} {Qd : Hp → Prop} (Pv : Nat → Hp → Prop) (h0 : Pv 0 (upd H1 D (.lst []))) (hl : ∀ i H, i ≤ xs.length → Pv i H → SqL K H a xs)
    (hs : ∀ i x H, xs[i]? = some x → Pv i H → g x (wipe σ vs) H fun σ2 H2 => wipe σ2 vs = wipe σ vs ∧ tt σ2 H2 fun b H3 =>
      if b = true then te σ2 H3 fun y H4 => ∃ acc, H4 D = some (.lst acc) ∧ acc.length < sizeLine ∧ Pv (i + 1) (upd H4 D (.lst (acc ++ [y]))) else Pv (i + 1) H3) (hd : ∀ H, Pv xs.length H → Qd H) :
    ∃ W : Nat → Nat → Hp → Prop, (∃ m, W 0 m (upd H1 D (.lst []))) ∧ ∀ i m H, W i m H →
      ((Itl K a).stop i H ∧ Qd H) ∨ ((Itl K a).go i H ∧ ∃ Nx : Hp → Prop, (∀ H', Nx H' → ∃ m', m' < m ∧ W (i + 1) m' H') ∧ ∀ x H', (Itl K a).yld i H x H' → g x (wipe σ vs) H' fun σ2 H2 => wipe σ2 vs = wipe σ vs ∧ tt σ2 H2 fun b H3 =>
        if b = true then te σ2 H3 fun y H4 => ∃ acc, H4 D = some (.lst acc) ∧ acc.length < sizeLine ∧ Nx (upd H4 D (.lst (acc ++ [y]))) else Nx H3) := by
  refine ⟨fun i m H => m = xs.length - i ∧ i ≤ xs.length ∧ Pv i H, ⟨xs.length, by simp, Nat.zero_le _, h0⟩, ?_⟩
  rintro i m H ⟨rfl, hi, p⟩
  have q := hl i H hi p
  by_cases hlt : i < xs.length
  · refine .inr ⟨⟨xs, xs[i], q, by simp [hlt]⟩, Pv (i + 1), fun H' p' => ⟨xs.length - (i + 1), by omega, rfl, hlt, p'⟩, fun x H' y => ?_⟩
    obtain ⟨e, y⟩ := y
    subst e
    exact hs i x _ (y xs q) p
  · have e : i = xs.length := by omega
    subst e
    exact .inl ⟨⟨xs, q, Nat.le_refl _⟩, hd H p⟩
def blkC (N : List Str) (sc scope : Scope) (own : List (Str × Nat)) : Bool :=
  (match scope.kind with | .function => true | _ => false) && (scope.names.all fun y => decide (scope.names.lookup y.1 = some y.2)) && (own.all fun p => decide (N[p.2]? = some p.1)) &&
    (scope.names.all fun y => match y.2 with
      | .free => (match sc.names.lookup y.1 with | some .cell => true | some .free => true | _ => false)
      | .local => decide (y.1 ∈ own.map (·.1)) || decide (y.1 ∉ N)
      | .cell => decide (y.1 ∈ own.map (·.1)) || decide (y.1 ∉ N)
      | _ => true)
theorem blkOk_by {N : List Str} {sc scope : Scope} {own : List (Str × Nat)} (h : blkC N sc scope own = true) : BlkOk N sc scope own := by
  unfold blkC at h
  simp only [Bool.and_eq_true, List.all_eq_true, decide_eq_true_eq] at h
  obtain ⟨⟨⟨h1, h2⟩, h3⟩, h4⟩ := h
  refine ⟨?_, h2, h3, fun y hy e => ?_, fun y hy e => ?_⟩
  · split at h1
    · assumption
    · cases h1
  · have q := h4 y hy
    simp only [e] at q
    split at q <;> first | exact .inl (by assumption) | exact .inr (by assumption) | cases q
  · have q := h4 y hy
    rcases e with e | e <;> (simp only [e, Bool.or_eq_true, decide_eq_true_eq] at q; exact q)
end L2
namespace L2
open PySem PySem.Spec PyProof.Rows
section
variable {κ : Type} [DecidableEq κ]
def valV (kvs : List (κ × V)) (k : κ) : Option V := (kvs.find? fun kv => decide (kv.1 = k)).map (·.2)
theorem valV_pos {p : κ × V} {r : List (κ × V)} {k : κ} (e : p.1 = k) : valV (p :: r) k = some p.2 := by simp [valV, List.find?_cons, e]
theorem valV_neg {p : κ × V} {r : List (κ × V)} {k : κ} (e : ¬ p.1 = k) : valV (p :: r) k = valV r k := by simp [valV, List.find?_cons, e]
theorem RelO.isSome_eq {o : Option V} {u : Option Value} (r : RelO o u) : o.isSome = u.isSome := by
  cases o with
  | none => cases u with
    | none => rfl
    | some _ => exact (show False from r).elim
  | some _ => cases u with
    | none => exact (show False from r).elim
    | some _ => rfl
theorem RelO.getD {o : Option V} {u : Option Value} {d : V} {d' : Value} (r : RelO o u) (rd : RelV d d') : RelV (o.getD d) (u.getD d') := by
  cases o with
  | none => cases u with
    | none => exact rd
    | some _ => exact (show False from r).elim
  | some _ => cases u with
    | none => exact (show False from r).elim
    | some _ => exact r
theorem KV.val {kvs : List (κ × V)} {vs : List (κ × Value)} (r : KV kvs vs) (k : κ) : RelO (valV kvs k) (valueAt vs k) := by
  unfold KV at r
  induction r with
  | nil => exact True.intro
  | @cons p q ps qs h t ih =>
    obtain ⟨h1, h2⟩ := h
    by_cases e : p.1 = k
    · have e' : q.1 = k := h1.symm.trans e
      have b : valueAt (q :: qs) k = some q.2 := by simp [valueAt, List.find?_cons, e']
      rw [valV_pos e, b]; exact h2
    · have e' : ¬ q.1 = k := fun z => e (h1.trans z)
      have b : valueAt (q :: qs) k = valueAt qs k := by simp [valueAt, List.find?_cons, e']
      rw [valV_neg e, b]; exact ih
end
theorem kV_is {P : Program} {w : World} {k : Key} {u : Value} (r : RelV (kV k) u) : (mixKind P w).is k u = true := by
  cases k with
  | inl i => obtain ⟨t, e⟩ := (show ∃ t, u = Value.int i t from r); subst e; exact mixKind_int P w i t
  | inr x => obtain ⟨t, e⟩ := (show ∃ t, u = Value.str x t from r); subst e; exact mixKind_str P w x t
def NoSl (i : Expr) : Prop := ∀ ov iv, subscripted i false ov iv = operate [ov, iv] (getItem ov iv)
theorem subD_of {prog : Program} {w : World} {A : Around} {E : Value → Shared → Prop} {s : Shared} {env : Env} {value slice : Expr} {pos : Pos} {T id : String} {Q : Value → Shared → Prop}
    (hl : typeLookup (.type T) "__getitem__" = pure (some (.builtin id))) (hs : NoSl slice)
    (h : wpAny (model prog w) A (eval value env) (fun o s₁ => wpAny (model prog w) A (eval slice env) (fun i s₂ => s₂.TypeIs o T ∧ wpAny (model prog w) A (getItem o i) Q E s₂) E s₁) E s) :
    wpAny (model prog w) A (eval (.Subscript value slice pos) env) Q E s := by
  refine Subscript_ (wpAny_mono h (fun o s₁ h₁ => wpAny_mono h₁ (fun i s₂ h₂ => ?_) fun _ _ x => x) fun _ _ x => x)
  obtain ⟨hT, h₂⟩ := h₂
  unfold subscriptTail
  refine wpAny_bind ?_
  rw [getitemInPython_of_ne hT.not_modules]
  refine wpAny_bind (wpAny_specialOf hT hl ?_)
  have fin : wpAny (model prog w) A (subscripted slice false o i) (fun r s₃ => wpAny (model prog w) A (letTemporaryGo value o r >>= fun _ => pure r) Q E s₃) E s₂ := by
    rw [hs o i]
    exact wpAny_operating (wpAny_mono h₂ (fun r s₃ h₃ => wpAny_bind (wpAny_letTemporaryGo (wpAny_pure h₃))) fun _ _ x => x)
  first
    | exact wpAny_pure (wpAny_bind fin)
    | exact wpAny_bind (wpAny_pure (wpAny_bind fin))
    | exact wpAny_bind fin
structure M2 (X : Cx) (o : Expr) (m : Str) (apos : Pos) (e f : Expr) (cpos : Pos) : Prop where
  base : attributeBase o m X.env (eval o X.env) = eval o X.env
  few : ((backTo cpos (starEach [e, f] X.env)).all (fun x => !x.1) && (backToKw cpos (keywordEach [] X.env)).all (fun x => x.1.isSome)
    && decide (([e, f] : List Expr).length + ([] : List Keyword).length + (if ([] : List Keyword).isEmpty then 0 else 1) < 30)) = true
  line : (apos.endLine == cpos.line) = true
  trees : backTo cpos (starEach [e, f] X.env) = [(false, eval e X.env), (false, eval f X.env)]
end L2
namespace L2
open PySem PySem.Spec PyProof.Rows
section
variable {X : Cx} {pins : List (Addr × Obj)} {σ : St} {H : Hp} {s : Shared} {h' : Heap}
theorem Inv.turnedL {t' : Nat} {ch : List Addr} (I : Inv X pins σ H s) (k : ∀ b o, b ∉ ch → s.heap.get? b = some o → h'.get? b = some o) (hf : ∀ b ∈ ch, FpOk X pins H b) : Inv X pins σ H { s with heap := h', toks := t' } := by
  have nit : ∀ b u, H b = some u → b ∉ ch := fun b u e z => by
    have q := (hf b z).1
    rw [q] at e; cases e
  refine I.step (g' := s.gens) (d' := s.drawn) (ch := ch) (fun b hb => ⟨(hf b hb).2.2.2.1, (hf b hb).2.1, (hf b hb).2.2.2.2.1, (hf b hb).2.2.2.2.2⟩) (fun b o _ _ hc e _ => k b o hc e) (fun b o _ _ hc e _ => ⟨o.slots, k b o hc e⟩)
    (fun _ _ _ _ n => n) (fun b o hc e => ⟨o, k b o hc e⟩) (fun _ _ e => e) (fun _ _ _ e => e) (fun b ps e => ⟨#[], by rw [e]; simp⟩) (fun m hm => ?_) (fun b u e => ?_) I.bare
  · obtain ⟨o, es, ep, ho, r⟩ := hm
    exact ⟨o, es, ep, k _ o (fun z => (hf _ z).2.1 rfl) ho, r⟩
  · refine (I.hok b u e).stay (fun c v hc q => k c v ?_ q) (fun _ q => q) fun _ _ q => q
    rcases hc with z | z
    · rw [z]; exact nit b u e
    · exact nit c _ z
theorem Inv.turnedNew {t' : Nat} {ch : List Addr} {T : Addr} {ob : HO} (I : Inv X pins σ H s) (k : ∀ b o, b ∉ ch → s.heap.get? b = some o → h'.get? b = some o) (hf : ∀ b ∈ ch, FpOk X pins H b) (hT : s.heap.objs.size ≤ T)
    (new : ObjOk X.prog X.w (upd H T ob) h' T ob) : Inv X pins σ (upd H T ob) { s with heap := h', toks := t' } := by
  have hn : H T = none := I.hok.fresh hT
  have nit : ∀ b u, H b = some u → b ∉ ch := fun b u e z => by
    have q := (hf b z).1
    rw [q] at e; cases e
  refine I.step (g' := s.gens) (d' := s.drawn) (ch := ch) (fun b hb => ⟨(hf b hb).2.2.2.1, (hf b hb).2.1, (hf b hb).2.2.2.2.1, (hf b hb).2.2.2.2.2⟩) (fun b o _ _ hc e _ => k b o hc e) (fun b o _ _ hc e _ => ⟨o.slots, k b o hc e⟩)
    (fun b o _ e n => ?_) (fun b o hc e => ⟨o, k b o hc e⟩) (fun b xs e => ?_) (fun b o u e => ?_) (fun b ps e => ⟨#[], ?_⟩) (fun m hm => ?_) (fun b u e => ?_) I.bare
  · rw [upd_ne (Nat.ne_of_lt (Nat.lt_of_lt_of_le (Heap.lt_size e) hT))]; exact n
  · rw [upd_ne (ne_of_none e hn)]; exact e
  · rw [upd_ne (ne_of_none e hn)]; exact e
  · rw [upd_ne (ne_of_none e hn), e]; simp
  · obtain ⟨o, es, ep, ho, r⟩ := hm
    exact ⟨o, es, ep, k _ o (fun z => (hf _ z).2.1 rfl) ho, r⟩
  · by_cases hb : b = T
    · subst hb
      rw [upd_same] at e
      cases e
      exact new
    · rw [upd_ne hb] at e
      refine (I.hok b u e).stay (fun c v hc q => k c v ?_ q) (fun c q => by rw [upd_ne (ne_of_none q hn)]; exact q) fun c xs q => by rw [upd_ne (ne_of_none q hn)]; exact q
      rcases hc with z | z
      · rw [z]; exact nit b u e
      · exact nit c _ z
end
section
variable {X : Cx}
theorem pi_one {tg : Expr} {pins : List (Addr × Obj)} {σ : St} {H : Hp} {s : Shared} {R : It → Hp → Prop} {J : It} {tn : Nat → Heap → Prop} {tk : Nat} (I : Inv X pins σ H s) (o : Obj)
    (T : Turn X.prog X.w X.K tg J [s.heap.objs.size] s.heap.objs.size tn) (st : tn 0 (s.heap.push o)) (q : R J H) : PIE X pins σ tg R (.ref s.heap.objs.size) { s with heap := s.heap.push o, toks := tk } := by
  refine ⟨s.heap.objs.size, [s.heap.objs.size], tn, J, H, rfl, I.kept fun b ob e => Heap.get?_push_of_some _ e, T, st, fun b hb => ?_, q⟩
  have e : b = s.heap.objs.size := by simpa using hb
  subst e
  exact I.fpOk (Nat.le_refl _) (I.hok.fresh (Nat.le_refl _))
end
def Itc (lo c : Int) (n : Nat) : It := ⟨fun i _ => i < n, fun i H x H' => H' = H ∧ x = .int (lo + (i : Nat) * c), fun i _ => n ≤ i⟩
theorem turn_rangeC {P : Program} {w : World} {K : PySem.W.Frag} {tg : Expr} (it : Addr) (lo c : Int) (n : Nat) : Turn P w K tg (Itc lo c n) [it] it (fun i h => IsRangeIter h it (lo + (i : Nat) * c) ((n : Int) - (i : Nat)) c) where
  mem := by simp
  obj := fun i h st b hb => by
    have e : b = it := by simpa using hb
    subst e
    exact ⟨_, st, fun v z => nomatch z⟩
  keep := fun i h h' st k => k it (by simp) _ st
  item := by
    intro X hP hw hK hc i pins s σ H E I hf st hg
    subst hP hw hK
    obtain ⟨f0, f1, f2, f3, f4, f5⟩ := hf it (by simp)
    have W := Walks.range (prog := X.prog) (w := X.w) (I.ok.hd hc) it lo c n
    refine W.item i s _ _ hg st fun v h' tk hv st' kk => ?_
    obtain ⟨t, rfl⟩ := hv
    have I1 : Inv X pins σ H { s with heap := h', toks := tk } := I.turned (fun b o hb e => kk b o (by simpa using hb) e) f0 f1 f3 f4 f5
    exact ⟨_, rfl, go_of (s := { s with heap := h', toks := tk }) (n := "range_iterator") st' rfl rfl (by decide) ⟨.int (lo + (i : Nat) * c), H, I1, ⟨t, rfl⟩, ⟨rfl, rfl⟩, st', fun b hb => (hf b hb).1⟩⟩
  done := by
    intro X hP hw hK hc i pins s σ H E I hf st hg
    subst hP hw hK
    obtain ⟨f0, f1, f2, f3, f4, f5⟩ := hf it (by simp)
    exact wpAny_pyNext_range_end (I.ok.hd hc) st (by have : n ≤ i := hg; omega) fun h' eb => ⟨rfl, I.turned (t' := s.toks) (fun b o hb e => eb b o hb e) f0 f1 f3 f4 f5⟩
  self := fun A i s Q E st h => wpAny_pyIter_rangeiter st h
def RgC (i j c : Int) (n : Nat) : Prop := c ≠ 0 ∧ c.natAbs < 1073741824 ∧ Builtin.Range.small i j c = true ∧ Builtin.Range.rangeSize i j c = n
theorem RgC.neg {i j : Int} (ha : -(2 ^ 62) ≤ i) (ha' : i < 2 ^ 62) (hb : -(2 ^ 62) ≤ j) (hb' : j < 2 ^ 62) : RgC i j (-1) (i - j).toNat :=
  ⟨by decide, by decide, PySem.W.small_down ha ha' hb hb', PySem.W.rangeSize_downNat i j⟩
def iRng3 (ta : TA) : TI := fun σ H R => ta σ H fun vs H1 => ∃ (i j c : Int) (n : Nat), vs = [.int i, .int j, .int c] ∧ RgC i j c n ∧ R (Itc i c n) H1
section
variable {X : Cx} {tg : Expr}
theorem pi_range3 {a b c : Expr} {ta : TA} {p pos : Pos} (hg : Gl X "range") (hm : X.mg "range" = none) (ha : PA X [a, b, c] ta)
    (hs : starEach [a, b, c] X.env = (false, eval a X.env) :: starEach [b, c] X.env := by rfl) (hpl : (backTo pos (starEach [b, c] X.env)).any (·.1) = false := by rfl) :
    PI X tg (.Call (.Name "range" p) [a, b, c] [] pos) (iRng3 ta) := by
  intro pins s σ H R I h
  refine Call_ (ld_blt I hg hm boot_range (PyProof.Rows.callWith_type1 (thn (ha pos pins s σ H _ I h) fun us s1 ⟨vs, H1, I1, r1, q1⟩ => ?_) hs hpl))
  obtain ⟨i, j, k, n, e, ⟨c0, c1, c2, c3⟩, q⟩ := q1
  subst e
  cases r1 with
  | cons r rr =>
    cases rr with
    | cons r' rr =>
      cases rr with
      | cons r'' rr =>
        cases rr
        obtain ⟨t, rfl⟩ := r
        obtain ⟨t', rfl⟩ := r'
        obtain ⟨t'', rfl⟩ := r''
        refine call_range_3 c0 ?_ (.inl (PyProof.noPylong_small c1))
        refine wpAny_pyIter_range (IsRange.new ..) c2 ?_
        have I2 : Inv X pins σ H1 { s1 with heap := s1.heap.push { cls := .type "range", data := .fields #[.int i t, .int j t', .int k t''] } } := I1.kept (t' := s1.toks) fun b o e => Heap.get?_push_of_some _ e
        refine pi_one (tk := s1.toks) I2 _ (turn_rangeC _ i k n) ?_ q
        have e1 : i + ((0 : Nat) : Int) * k = i := by simp
        have e2 : (n : Int) - ((0 : Nat) : Int) = Builtin.Range.rangeSize i j k := by rw [c3]; simp
        show IsRangeIter _ _ (i + ((0 : Nat) : Int) * k) ((n : Int) - ((0 : Nat) : Int)) k
        rw [e1, e2]
        exact Heap.get?_push_size _ rfl
end
theorem for_rangeC {lo c : Int} {n : Nat} {g : TG} {tb : TS} {D : Ends} {σ : St} {H : Hp} (Pv : Nat → St → Hp → Prop) (h0 : Pv 0 σ H)
    (hs : ∀ i σ H, i < n → Pv i σ H → g (.int (lo + (i : Nat) * c)) σ H fun σ2 H2 => tb { D with nx := Pv (i + 1), ct := Pv (i + 1), bk := D.nx } σ2 H2) (hd : ∀ σ H, Pv n σ H → D.nx σ H) :
    ∃ W : Nat → Nat → St → Hp → Prop, (∃ m, W 0 m σ H) ∧ ∀ i m σ H, W i m σ H →
      ((Itc lo c n).stop i H ∧ D.nx σ H) ∨ ((Itc lo c n).go i H ∧ ∃ N : St → Hp → Prop, (∀ σ' H', N σ' H' → ∃ m', m' < m ∧ W (i + 1) m' σ' H') ∧ ∀ x H', (Itc lo c n).yld i H x H' → g x σ H' fun σ2 H2 => tb { D with nx := N, ct := N, bk := D.nx } σ2 H2) := by
  refine ⟨fun i m σ H => m = n - i ∧ i ≤ n ∧ Pv i σ H, ⟨n, by simp, Nat.zero_le _, h0⟩, ?_⟩
  rintro i m σ H ⟨rfl, hi, p⟩
  by_cases hlt : i < n
  · refine .inr ⟨hlt, Pv (i + 1), fun σ' H' p' => ⟨n - (i + 1), by omega, rfl, hlt, p'⟩, fun x H' y => ?_⟩
    obtain ⟨e, y⟩ := y
    subst e y
    exact hs i σ _ hlt p
  · have e : i = n := by omega
    subst e
    exact .inl ⟨Nat.le_refl _, hd σ H p⟩
def Ite (K : PySem.W.Frag) (a : Addr) : It :=
  ⟨fun i H => ∃ (xs : List V) (x : V), SqL K H a xs ∧ xs[i]? = some x, fun i H v H' => ∃ T x, v = .ref T ∧ H T = none ∧ H' = upd H T (.tup [.int (i : Nat), x]) ∧ ∀ xs, SqL K H a xs → xs[i]? = some x, fun i H => ∃ xs : List V, SqL K H a xs ∧ xs.length ≤ i⟩
theorem turn_enum {P : Program} {w : World} {K : PySem.W.Frag} {elts : List Expr} {kk : Nat} {tpos : Pos} (a e it : Addr) :
    Turn P w K (.Tuple elts kk tpos) (Ite K a) [e, it] e (fun i h => (∃ old, IsEnum h e it ((i : Nat) : Int) old) ∧ h.IsListIter it a i ∧ e ≠ it) where
  mem := by simp
  obj := fun i h st b hb => by
    obtain ⟨⟨old, he⟩, ⟨o, ho, hc, hd⟩, _⟩ := st
    have e' : b = e ∨ b = it := by simpa using hb
    rcases e' with z | z
    · rw [z]; exact ⟨_, he, fun v q => nomatch q⟩
    · rw [z]; exact ⟨o, ho, fun v q => by rw [hd] at q; cases q⟩
  keep := fun i h h' st k => let ⟨⟨old, he⟩, hi, hne⟩ := st; ⟨⟨old, k e (by simp) _ he⟩, hi.at fun o q => k it (by simp) o q, hne⟩
  item := by
    intro X hP hw hK hc i pins s σ H E I hf st hg
    subst hP hw hK
    obtain ⟨⟨old, he⟩, hit, hne⟩ := st
    obtain ⟨xs, x, hq, hx⟩ := hg
    obtain ⟨its, rv, p, hz⟩ := I.list hq
    obtain ⟨u, hu, ru⟩ := rv.get hx
    have hel : e < s.heap.objs.size := Heap.lt_size he
    have hil : it < s.heap.objs.size := by obtain ⟨_, q, _⟩ := hit; exact Heap.lt_size q
    refine wpAny_pyNext_enum_item he hit p.isList (x := u) (by simpa using hu) hne fun h' ho hit' hT hsz hk => ?_
    refine ⟨_, rfl, wpAny_letOwnedTupleGo_enum (s := { s with heap := h', toks := s.toks + 1 }) ho fun h'' he' sb => ?_⟩
    have hT2 : h''.get? s.heap.objs.size = some { cls := .type "tuple", data := .seq #[.int i s.toks, u] } := (sb.2 _ (Nat.ne_of_gt hel)).trans hT
    have new : ObjOk X.prog X.w (upd H s.heap.objs.size (.tup [.int (i : Nat), x])) h'' s.heap.objs.size (.tup [.int (i : Nat), x]) :=
      ⟨by show 2 ≤ sizeLine; decide, [.int i s.toks, u], .cons ⟨_, rfl⟩ (.cons ru .nil), ⟨_, hT2, rfl, _, rfl⟩⟩
    have I1 : Inv X pins σ (upd H s.heap.objs.size (.tup [.int (i : Nat), x])) { s with heap := h'', toks := s.toks + 1 } :=
      I.turnedNew (ch := [e, it]) (fun b ob hb q => (sb.2 b (fun z => hb (by simp [z]))).trans (hk b ob (fun z => hb (by simp [z])) (fun z => hb (by simp [z])) q)) hf (Nat.le_refl _) new
    refine ⟨.ref s.heap.objs.size, _, I1, rfl, ⟨_, x, rfl, I.hok.fresh (Nat.le_refl _), rfl, fun ys hy => by rw [I.list_inj hy hq]; exact hx⟩, ⟨⟨u, ?_⟩, hit'.at fun o q => (sb.2 it (Ne.symm hne)).trans q, hne⟩, fun b hb => ?_⟩
    · have e1 : ((i + 1 : Nat) : Int) = (i : Int) + 1 := by omega
      rw [e1]; exact he'
    · have hb' : b < s.heap.objs.size := by
        have e' : b = e ∨ b = it := by simpa using hb
        rcases e' with z | z
        · rw [z]; exact hel
        · rw [z]; exact hil
      rw [upd_ne (Nat.ne_of_lt hb')]
      exact (hf b hb).1
  done := by
    intro X hP hw hK hc i pins s σ H E I hf st hg
    subst hP hw hK
    obtain ⟨⟨old, he⟩, hit, hne⟩ := st
    obtain ⟨xs, hq, hx⟩ := hg
    obtain ⟨its, rv, p, hz⟩ := I.list hq
    obtain ⟨f0, f1, f2, f3, f4, f5⟩ := hf it (by simp)
    have hl := rv.length
    exact wpAny_pyNext_enum_end (I.ok.hd hc) he hit p.isList (by simp; omega) fun h' eb => ⟨rfl, I.turned (t' := s.toks) (fun b o hb q => eb b o hb q) f0 f1 f3 f4 f5⟩
  self := fun A i s Q E st h => let ⟨⟨_, he⟩, _⟩ := st; wpAny_pyIter_enum he h
def iEnum (K : PySem.W.Frag) (ta : TA) : TI := fun σ H R => ta σ H fun vs H1 => ∃ a xs, vs = [.ref a] ∧ SqL K H1 a xs ∧ R (Ite K a) H1
theorem pi_enum {X : Cx} {e : Expr} {ta : TA} {p pos tpos : Pos} {elts : List Expr} {kk : Nat} (hg : Gl X "enumerate") (hm : X.mg "enumerate" = none) (ha : PA X [e] ta) (hs : starEach [e] X.env = [(false, eval e X.env)] := by rfl) :
    PI X (.Tuple elts kk tpos) (.Call (.Name "enumerate" p) [e] [] pos) (iEnum X.K ta) := by
  intro pins s σ H R I h
  refine Call_ (ld_blt I hg hm boot_enumerate (PyProof.Rows.callWith_type1 (thn (ha pos pins s σ H _ I h) fun us s1 ⟨vs, H1, I1, r1, q1⟩ => ?_) hs rfl))
  obtain ⟨a, xs, ex, hq, q⟩ := q1
  subst ex
  cases r1 with
  | cons r rr =>
    cases rr
    cases r
    obtain ⟨its, rv, p', hz⟩ := I1.list hq
    refine call_enumerate_list p'.isList fun h' he hit hsz hk => wpAny_pyIter_enum he ?_
    have I2 : Inv X pins σ H1 { s1 with heap := h' } := I1.kept (t' := s1.toks) hk
    refine ⟨s1.heap.objs.size + 1, [s1.heap.objs.size + 1, s1.heap.objs.size], _, _, H1, rfl, I2, turn_enum a (s1.heap.objs.size + 1) s1.heap.objs.size, ⟨⟨.none, he⟩, hit, Nat.succ_ne_self _⟩, fun b hb => ?_, q⟩
    have e' : b = s1.heap.objs.size + 1 ∨ b = s1.heap.objs.size := by simpa using hb
    have hle : s1.heap.objs.size ≤ b := by
      rcases e' with z | z
      · rw [z]; exact Nat.le_add_right _ _
      · rw [z]; exact Nat.le_refl _
    exact I1.fpOk hle (I1.hok.fresh hle)
theorem boot_zip5 : bootBuiltins "zip" = some (.type "zip") := by decide +kernel
end L2
section 
end 
section 
end 
namespace L2
open PySem PySem.Spec PyProof.Rows
abbrev KOf {K : PySem.W.Frag} {h : Heap} (_ : K.In h) : PySem.W.Frag := K
end L2
namespace L2
open PySem PySem.Spec PyProof.Rows
def inClass (s : Stmt) (j : Nat) : Stmt := match s with
  | .ClassDef _ _ _ body _ _ _ _ _ _ _ => body.getD j (.Pass ⟨0, 0, 0, 0⟩)
  | _ => .Pass ⟨0, 0, 0, 0⟩
def defArgs (s : Stmt) : Arguments := match s with
  | .FunctionDef _ a _ _ _ _ _ _ _ _ => a
  | _ => { posonlyargs := [], args := [], vararg := none, kwonlyargs := [], kw_defaults := [], kwarg := none, defaults := [] }
def defBody (s : Stmt) : List Stmt := match s with
  | .FunctionDef _ _ b _ _ _ _ _ _ _ => b
  | _ => []
def defScope (s : Stmt) : Scope := match s with
  | .FunctionDef _ _ _ _ _ _ sc _ _ _ => sc
  | _ => { kind := .function, names := [], isGenerator := false, isCoroutine := false }
abbrev CX0 : CXT := fun _ _ _ _ _ _ => False
abbrev E0 : XK := fun _ _ _ => False
theorem pass0 {X : Cx} : Passes CX0 X E0 := fun _ _ _ _ _ _ _ h => h.elim
structure Fun (K : PySem.W.Frag) (x qual : Str) (st : Stmt) (f : Addr) (fd : FuncData) : Prop where
  ex : ∃ (oc : Value) (od : Option Addr) (kV doc pm : Value) (an : Option Addr) (cdv ct : Value) (osl : Array (Option Value)),
    fd = PySem.W.fnOf x qual (defArgs st) (defBody st) (defScope st) .none kV doc pm an cdv ct ∧ K.lookup f = some ⟨oc, od, .func fd, osl⟩ ∧ PySem.W.codeIn K cdv qual = true
  kp : PySem.W.keepIn K (.ref f) = true
section
variable {P : Program} {w : World} {K : PySem.W.Frag} {mg : Str → Option Value} {base : Heap}
theorem Fun.ok {x qual : Str} {st : Stmt} {f : Addr} {fd : FuncData} {N ps : List Str} {k : Nat} {sp : Sp} (F : Fun K x qual st f fd) (S : FnScope N ps (defScope st)) (len : ∀ vs H Q E, sp vs H Q E → vs.length = ps.length)
    (hbody : ∀ (cdv : Value) (A : Around) (outer : List Env) (s : Shared) (H : Hp) (vs : List V) (Q : VK) (E : XK), Room k (A.deeper (envOfC qual (defScope st) s.heap.objs.size f cdv)) → sp vs H Q E →
      ∃ t, PSs (cxOf CX0 P w K mg base N qual (defScope st) f cdv A outer s H E).nox (defBody st) t ∧ t { nx := fun _ H' => Q .non H', rt := Q } (start N vs) H) : FnOk P w K mg base CX0 (k + 1) f fd ps sp := by
  obtain ⟨oc, od, kV, doc, pm, an, cdv, ct, osl, rfl, lk, hcd⟩ := F.ex
  refine fn_of lk hcd S len fun A outer s H vs Q E hr hsp => ?_
  obtain ⟨t, h, q⟩ := hbody cdv A outer s H vs Q E hr hsp
  exact ⟨t, h.nox, q⟩
theorem Fun.binds {x qual : Str} {st : Stmt} {f : Addr} {fd : FuncData} {ps : List Str} (F : Fun K x qual st f fd)
    (h : ∀ (kV doc pm : Value) (an : Option Addr) (cdv ct : Value) (us : List Value), us.length = ps.length → bindArgs (PySem.W.fnOf x qual (defArgs st) (defBody st) (defScope st) .none kV doc pm an cdv ct) ⟨us, []⟩ = pure (ps.zip us)) : Binds K fd ps [] := by
  obtain ⟨oc, od, kV, doc, pm, an, cdv, ct, osl, rfl, lk, hcd⟩ := F.ex
  exact .all (h kV doc pm an cdv ct)
theorem fun_mk {x qual : Str} {st : Stmt} {f : Addr} {oc : Value} {od an : Option Addr} {osl : Array (Option Value)} {kV doc pm cdv ct : Value} (l : K.lookup f = some ⟨oc, od, .func (PySem.W.fnOf x qual (defArgs st) (defBody st) (defScope st) .none kV doc pm an cdv ct), osl⟩)
    (c : PySem.W.codeIn K cdv qual = true) (k : PySem.W.keepIn K (.ref f) = true) : Fun K x qual st f (PySem.W.fnOf x qual (defArgs st) (defBody st) (defScope st) .none kV doc pm an cdv ct) := ⟨⟨oc, od, kV, doc, pm, an, cdv, ct, osl, rfl, l, c⟩, k⟩
end
section
variable {X : Cx}
theorem pv (i : Nat) {x : Str} {pos : Pos} (hN : X.N[i]? = some x := by rfl) (hv : Vis X.env.scope x := by first | exact Or.inl rfl | exact Or.inr (Or.inl rfl) | exact Or.inr (Or.inr rfl)) (hd : (x == ("__debug__" : Str)) = false := by decide)
    (hcd : (x == ("__classdict__" : Str)) = false := by decide) : PE X (.Name x pos) (tVar i) := pe_var hN hv hd hcd
end
theorem iteF {A B : Prop} (h : B) : if false = true then A else B := by
  rw [if_neg Bool.false_ne_true]
  exact h
theorem iteT {A B : Prop} (h : A) : if true = true then A else B := by
  rw [if_pos rfl]
  exact h
def Same (H H' : Hp) : Prop := ∀ b o, H b = some o → H' b = some o
theorem Same.trans {H H1 H2 : Hp} (a : Same H H1) (b : Same H1 H2) : Same H H2 := fun c o h => b c o (a c o h)
theorem Same.free {H H' : Hp} (e : Same H H') {l : Addr} (h : H' l = Option.none) : H l = Option.none := by
  cases q : H l with
  | none => rfl
  | some o =>
    rw [e l o q] at h
    cases h
theorem Same.seq {K : PySem.W.Frag} {H H' : Hp} {a : Addr} {xs : List V} (e : Same H H') (h : SqL K H a xs) : SqL K H' a xs := by
  rcases h with (h | ⟨o, h⟩) | h
  · exact .inl (.inl (e _ _ h))
  · exact .inl (.inr ⟨o, e _ _ h⟩)
  · exact .inr h
theorem at_of {xs : List V} {z : Int} {j : Nat} {v : V} (e : z = (j : Int)) (h : xs[j]? = some v) : atI xs z = some v := by
  rw [e]
  exact atI_nat h
theorem nd_ix {α : Type} {l : List α} (hN : l.Nodup) {i j : Nat} {x : α} (a : l[i]? = some x) (b : l[j]? = some x) : i = j := by
  obtain ⟨h1, e1⟩ := List.getElem?_eq_some_iff.mp a
  obtain ⟨h2, e2⟩ := List.getElem?_eq_some_iff.mp b
  exact (List.getElem_inj hN).mp (e1.trans e2.symm)
end L2
section
set_option Elab.async false
set_option linter.all false
set_option maxRecDepth 100000
set_option maxHeartbeats 2000000
namespace L2
open PySem PySem.Spec PyProof.Rows
open PySem.W (WData Codec OpenSpec Well WellAll ReadsW ReadsAllW)
mutual
inductive Dw (K : PySem.W.Frag) (H : Hp) : V → WData → Prop
  | non : Dw K H .non .none
  | bl (b : Bool) : Dw K H (.bl b) (.bool b)
  | int (i : Int) : Dw K H (.int i) (.int i)
  | str (x : Str) : Dw K H (.str x) (.str x)
  | byt (b : Array UInt8) : Dw K H (.byt b) (.bytes b.toList)
  | lst {a : Addr} {xs : List V} {ds : List WData} : SqL K H a xs → DwAll K H xs ds → Dw K H (.ref a) (.list ds)
  | tup {a : Addr} {xs : List V} {ds : List WData} : SqT K H a xs → DwAll K H xs ds → Dw K H (.ref a) (.tuple ds)
inductive DwAll (K : PySem.W.Frag) (H : Hp) : List V → List WData → Prop
  | nil : DwAll K H [] []
  | cons {v : V} {vs : List V} {d : WData} {ds : List WData} : Dw K H v d → DwAll K H vs ds → DwAll K H (v :: vs) (d :: ds)
end
theorem dw_ints {K : PySem.W.Frag} {H : Hp} : ∀ ns : List Int, DwAll K H (ns.map V.int) (ns.map WData.int)
  | [] => .nil
  | n :: r => .cons (.int n) (dw_ints r)
theorem ints_dw {K : PySem.W.Frag} {H : Hp} : ∀ (ns : List Int) (xs : List V), DwAll K H xs (ns.map WData.int) → xs = ns.map V.int
  | [], xs, h => by
    cases h
    rfl
  | n :: r, xs, h => by
    cases h with
    | cons h1 h2 =>
      cases h1
      rw [ints_dw r _ h2] <;> rfl
section
variable {P : Program} {w : World} {K : PySem.W.Frag} {H : Hp} {h : Heap} {R : PySem.W.WRecords} {cl : Str → Option Addr}
theorem sqL_at {a : Addr} {xs : List V} (hok : HOk P w H h) (KX : K.In h) (q : SqL K H a xs) : ∃ (its : List Value) (o : Obj) (n : Nat), Vals xs its ∧ h.get? a = some o ∧ o.cls = .type "list" ∧ o.data = .seq its.toArray n := by
  rcases q with q | ⟨o, its, n, e, hc, _, hd, _, hv⟩
  · obtain ⟨_, its, n, hv, e⟩ := (show ObjOk P w H h a (.lst xs) from q.ok hok)
    exact ⟨its, _, n, hv, e, rfl, rfl⟩
  · exact ⟨its.toList, o, n, hv, KX _ _ e, hc, by simp [hd]⟩
theorem sqT_at {a : Addr} {xs : List V} (hok : HOk P w H h) (KX : K.In h) (q : SqT K H a xs) : ∃ (its : List Value) (o : Obj) (n : Nat), Vals xs its ∧ h.get? a = some o ∧ o.cls = .type "tuple" ∧ o.data = .seq its.toArray n := by
  rcases q with q | ⟨o, its, n, e, hc, hd, _, hv⟩
  · obtain ⟨_, its, hv, o, e, hc, n, hd⟩ := (show ObjOk P w H h a (.tup xs) from q.ok hok)
    exact ⟨its, o, n, hv, e, hc, hd⟩
  · exact ⟨its.toList, o, n, hv, KX _ _ e, hc, by simp [hd]⟩
mutual
theorem Dw.reads (hok : HOk P w H h) (KX : K.In h) : ∀ (d : WData) (v : V) (u : Value), Dw K H v d → RelV v u → ∃ as, ReadsW R cl h u d as
  | .none, _, _, x, r => by
    cases x
    cases r
    exact ⟨_, ReadsW.none⟩
  | .bool b, _, _, x, r => by
    cases x
    cases r
    exact ⟨_, ReadsW.bool b⟩
  | .int i, _, _, x, r => by
    cases x
    obtain ⟨t, rfl⟩ := r
    exact ⟨_, ReadsW.int i t⟩
  | .str s, _, _, x, r => by
    cases x
    obtain ⟨t, rfl⟩ := r
    exact ⟨_, ReadsW.str s t⟩
  | .bytes b, _, _, x, r => by
    cases x
    obtain ⟨t, rfl⟩ := r
    exact ⟨_, ReadsW.bytes _ t⟩
  | .list ds, _, _, x, r => by
    cases x with
    | lst hs ha =>
      cases r
      obtain ⟨its, o, n, rv, ho, hc, hd⟩ := sqL_at hok KX hs
      obtain ⟨as, hr⟩ := Dw.readsAll hok KX ds _ its ha rv
      exact ⟨_, ReadsW.list ho hc hd hr⟩
  | .tuple ds, _, _, x, r => by
    cases x with
    | tup hs ha =>
      cases r
      obtain ⟨its, o, n, rv, ho, hc, hd⟩ := sqT_at hok KX hs
      obtain ⟨as, hr⟩ := Dw.readsAll hok KX ds _ its ha rv
      exact ⟨_, ReadsW.tuple ho hc hd hr⟩
  | .float _, _, _, x, _ => by cases x
  | .dict _, _, _, x, _ => by cases x
  | .bytearray _, _, _, x, _ => by cases x
  | .set _, _, _, x, _ => by cases x
  | .frozenset _, _, _, x, _ => by cases x
  | .obj _ _, _, _, x, _ => by cases x
theorem Dw.readsAll (hok : HOk P w H h) (KX : K.In h) : ∀ (ds : List WData) (vs : List V) (us : List Value), DwAll K H vs ds → Vals vs us → ∃ as, ReadsAllW R cl h us ds as
  | [], _, _, x, r => by
    cases x
    cases r
    exact ⟨_, ReadsAllW.nil⟩
  | d :: ds, _, _, x, r => by
    cases x with
    | cons h1 h2 =>
      cases r with
      | cons r1 r2 =>
        obtain ⟨as, q1⟩ := Dw.reads hok KX d _ _ h1 r1
        obtain ⟨bs, q2⟩ := Dw.readsAll hok KX ds _ _ h2 r2
        exact ⟨_, ReadsAllW.cons q1 q2⟩
end
end
mutual
def plW : WData → Bool
  | .none => true
  | .bool _ => true
  | .int _ => true
  | .str _ => true
  | .bytes _ => true
  | .list xs => plWs xs
  | .tuple xs => plWs xs
  | _ => false
def plWs : List WData → Bool
  | [] => true
  | x :: r => plW x && plWs r
end
theorem plWs_map {α : Type} {f : α → WData} (h : ∀ a, plW (f a) = true) : ∀ l : List α, plWs (l.map f) = true
  | [] => rfl
  | x :: r => by
    show (plW (f x) && plWs (r.map f)) = true
    rw [h x, plWs_map h r] <;> rfl
theorem pl_enc : ∀ (c : Codec) (a : c.denote), plW (c.enc a) = true
  | .unit, _ => rfl
  | .bool, _ => rfl
  | .int _ _, _ => rfl
  | .nat _ _, _ => rfl
  | .u8, _ => rfl
  | .bytes _ _, _ => rfl
  | .text _ _ _ _, _ => rfl
  | .list _ _ c, a => plWs_map (fun x => pl_enc c x) a
  | .pair c d, a => by
    show (plW (c.enc a.1) && (plW (d.enc a.2) && true)) = true
    rw [pl_enc c a.1, pl_enc d a.2] <;> rfl
  | .triple c d e, a => by
    show (plW (c.enc a.1) && (plW (d.enc a.2.1) && (plW (e.enc a.2.2) && true))) = true
    rw [pl_enc c a.1, pl_enc d a.2.1, pl_enc e a.2.2] <;> rfl
  | .option c, none => rfl
  | .option c, some x => pl_enc c x
theorem pl_encAll : ∀ (cs : List Codec) (a : Codec.denoteAll cs), plWs (Codec.encAll cs a) = true
  | [], _ => rfl
  | c :: cs, a => by
    show (plW (c.enc a.1) && plWs (Codec.encAll cs a.2)) = true
    rw [pl_enc c a.1, pl_encAll cs a.2] <;> rfl
theorem weight_mem : ∀ {xs : List WData} {d : WData}, d ∈ xs → d.weight ≤ WData.weightAll xs
  | [], d, h => absurd h (by simp)
  | x :: r, d, h => by
    show d.weight ≤ x.weight + 1 + WData.weightAll r
    rcases List.mem_cons.mp h with e | m
    · rw [e]
      omega
    · have z := weight_mem m
      omega
def toV : Value → V
  | .none => .non
  | .bool b => .bl b
  | .int i _ => .int i
  | .str x _ => .str x
  | .bytes b _ => .byt b
  | .ref a => .ref a
  | _ => .non
def OkU (A : List Addr) : Value → Prop
  | .none => True
  | .bool _ => True
  | .int _ _ => True
  | .str _ _ => True
  | .bytes _ _ => True
  | .ref a => a ∈ A
  | _ => False
theorem OkU.mono {A B : List Addr} (h : ∀ a ∈ A, a ∈ B) : ∀ {u : Value}, OkU A u → OkU B u := fun {u} x => by
  cases u with
  | ref a => exact h a x
  | none => trivial
  | bool b => trivial
  | int i t => trivial
  | str s t => trivial
  | bytes b t => trivial
  | _ => exact False.elim x
theorem relV_toV {A : List Addr} {u : Value} (x : OkU A u) : RelV (toV u) u := by
  cases u with
  | ref a => rfl
  | none => rfl
  | bool b => rfl
  | int i t => exact ⟨t, rfl⟩
  | str s t => exact ⟨t, rfl⟩
  | bytes b t => exact ⟨t, rfl⟩
  | _ => exact False.elim x
theorem vals_toV {A : List Addr} : ∀ {vs : List Value}, (∀ u ∈ vs, OkU A u) → Vals (vs.map toV) vs
  | [], _ => .nil
  | u :: r, h => .cons (relV_toV (h u (List.mem_cons_self ..))) (vals_toV fun x hx => h x (List.mem_cons_of_mem _ hx))
def ArgOb (h : Heap) (A : List Addr) (a : Addr) : Prop := ∃ vs : List Value, vs.length ≤ sizeLine ∧ (∀ u ∈ vs, OkU A u) ∧
  (h.get? a = some { cls := .type "list", data := .seq vs.toArray } ∨ h.get? a = some { cls := .type "tuple", data := .seq vs.toArray })
theorem ArgOb.mono {h : Heap} {A B : List Addr} {a : Addr} (k : ∀ a ∈ A, a ∈ B) (x : ArgOb h A a) : ArgOb h B a := by
  obtain ⟨vs, h1, h2, h3⟩ := x
  exact ⟨vs, h1, fun u hu => (h2 u hu).mono k, h3⟩
theorem wellAll_len {P : Params} {h : Heap} : ∀ {vs : List Value} {ds : List WData}, WellAll P h vs ds → vs.length = ds.length
  | _, _, .nil => rfl
  | _, _, .cons _ b => by
    show _ + 1 = _ + 1
    rw [wellAll_len b]
theorem well_list {P : Params} {h : Heap} {v : Value} {ds : List WData} (x : Well P h v (.list ds)) : ∃ (a : Addr) (vs : List Value), v = .ref a ∧ h.get? a = some { cls := .type "list", data := .seq vs.toArray } ∧ WellAll P h vs ds := by
  cases x with
  | list ho hall => exact ⟨_, _, rfl, ho, hall⟩
theorem well_tuple {P : Params} {h : Heap} {v : Value} {ds : List WData} (x : Well P h v (.tuple ds)) : ∃ (a : Addr) (vs : List Value), v = .ref a ∧ h.get? a = some { cls := .type "tuple", data := .seq vs.toArray } ∧ WellAll P h vs ds := by
  cases x with
  | tuple ho hall => exact ⟨_, _, rfl, ho, hall⟩
theorem well_cons {P : Params} {h : Heap} {us : List Value} {d : WData} {ds : List WData} (x : WellAll P h us (d :: ds)) : ∃ (v : Value) (vs : List Value), us = v :: vs ∧ Well P h v d ∧ WellAll P h vs ds := by
  cases x with
  | cons a b => exact ⟨_, _, rfl, a, b⟩
theorem line_of {n : Nat} (h : n ≤ 1048576) : n ≤ sizeLine := Nat.le_trans h (by decide)
section
variable {P : Params} {h : Heap}
mutual
theorem area_one : ∀ (d : WData) (v : Value), Well P h v d → plW d = true → d.weight ≤ 1048576 → ∃ A : List Addr, OkU A v ∧ ∀ a ∈ A, ArgOb h A a
  | .none, _, x, _, _ => by
    cases x
    exact ⟨[], trivial, fun a m => absurd m (by simp)⟩
  | .bool b, _, x, _, _ => by
    cases x
    exact ⟨[], trivial, fun a m => absurd m (by simp)⟩
  | .int i, _, x, _, _ => by
    cases x
    exact ⟨[], trivial, fun a m => absurd m (by simp)⟩
  | .str s, _, x, _, _ => by
    cases x
    exact ⟨[], trivial, fun a m => absurd m (by simp)⟩
  | .bytes b, _, x, _, _ => by
    cases x
    exact ⟨[], trivial, fun a m => absurd m (by simp)⟩
  | .list ds, _, x, p, z => by
    obtain ⟨a, vs, rfl, ho, hall⟩ := well_list x
    have z2 : WData.weightAll ds ≤ 1048576 := z
    obtain ⟨A, h1, h2⟩ := area_all ds _ hall p fun d hd => Nat.le_trans (weight_mem hd) z2
    have k : ∀ b ∈ A, b ∈ a :: A := fun b hb => List.mem_cons_of_mem _ hb
    refine ⟨a :: A, List.mem_cons_self .., fun b hb => ?_⟩
    rcases List.mem_cons.mp hb with e | m
    · rw [e]
      exact ⟨vs, line_of (by rw [wellAll_len hall]; exact Nat.le_trans (PySem.W.length_le_weightAllW ds) z2), fun u hu => (h1 u hu).mono k, .inl ho⟩
    · exact (h2 b m).mono k
  | .tuple ds, _, x, p, z => by
    obtain ⟨a, vs, rfl, ho, hall⟩ := well_tuple x
    have z2 : WData.weightAll ds ≤ 1048576 := z
    obtain ⟨A, h1, h2⟩ := area_all ds _ hall p fun d hd => Nat.le_trans (weight_mem hd) z2
    have k : ∀ b ∈ A, b ∈ a :: A := fun b hb => List.mem_cons_of_mem _ hb
    refine ⟨a :: A, List.mem_cons_self .., fun b hb => ?_⟩
    rcases List.mem_cons.mp hb with e | m
    · rw [e]
      exact ⟨vs, line_of (by rw [wellAll_len hall]; exact Nat.le_trans (PySem.W.length_le_weightAllW ds) z2), fun u hu => (h1 u hu).mono k, .inr ho⟩
    · exact (h2 b m).mono k
  | .float _, _, _, p, _ => Bool.noConfusion (show false = true from p)
  | .dict _, _, _, p, _ => Bool.noConfusion (show false = true from p)
  | .bytearray _, _, _, p, _ => Bool.noConfusion (show false = true from p)
  | .set _, _, _, p, _ => Bool.noConfusion (show false = true from p)
  | .frozenset _, _, _, p, _ => Bool.noConfusion (show false = true from p)
  | .obj _ _, _, _, p, _ => Bool.noConfusion (show false = true from p)
theorem area_all : ∀ (ds : List WData) (vs : List Value), WellAll P h vs ds → plWs ds = true → (∀ d ∈ ds, d.weight ≤ 1048576) → ∃ A : List Addr, (∀ u ∈ vs, OkU A u) ∧ ∀ a ∈ A, ArgOb h A a
  | [], _, x, _, _ => by
    cases x
    exact ⟨[], fun u m => absurd m (by simp), fun a m => absurd m (by simp)⟩
  | d :: ds, _, x, p, z => by
    obtain ⟨v, vs, rfl, x1, x2⟩ := well_cons x
    have q : plW d = true ∧ plWs ds = true := Bool.and_eq_true_iff.mp p
    obtain ⟨A, a1, a2⟩ := area_one d v x1 q.1 (z d (List.mem_cons_self ..))
    obtain ⟨B, b1, b2⟩ := area_all ds vs x2 q.2 fun e he => z e (List.mem_cons_of_mem _ he)
    have kA : ∀ b ∈ A, b ∈ A ++ B := fun b hb => List.mem_append.mpr (.inl hb)
    have kB : ∀ b ∈ B, b ∈ A ++ B := fun b hb => List.mem_append.mpr (.inr hb)
    refine ⟨A ++ B, fun u hu => ?_, fun b hb => ?_⟩
    · rcases List.mem_cons.mp hu with e | m
      · rw [e]
        exact a1.mono kA
      · exact (b1 u m).mono kB
    · rcases List.mem_append.mp hb with m | m
      · exact (a2 b m).mono kA
      · exact (b2 b m).mono kB
end
end
def hoOf (o : Obj) : Option HO := match o.data with
  | .seq vs _ => if (o.cls == Value.type "list") = true then some (.frz o (.lst (vs.toList.map toV))) else some (.frz o (.tup (vs.toList.map toV)))
  | _ => none
def argH (K : PySem.W.Frag) (h : Heap) (A : List Addr) : Hp := fun b => if b ∈ A then (if (K.lookup b).isNone = true then (h.get? b).bind hoOf else none) else none
def OnlyF (H : Hp) : Prop := ∀ b, H b = none ∨ ∃ o u, H b = some (.frz o u)
theorem hoOf_lst (vs : List Value) : hoOf { cls := .type "list", data := .seq vs.toArray } = some (.frz { cls := .type "list", data := .seq vs.toArray } (.lst (vs.map toV))) := by
  show (if (Value.type "list" == Value.type "list") = true then some (HO.frz { cls := .type "list", data := .seq vs.toArray } (.lst (vs.toArray.toList.map toV))) else some (HO.frz { cls := .type "list", data := .seq vs.toArray } (.tup (vs.toArray.toList.map toV)))) = _
  rw [if_pos (beq_self_eq_true _)]
theorem hoOf_tup (vs : List Value) : hoOf { cls := .type "tuple", data := .seq vs.toArray } = some (.frz { cls := .type "tuple", data := .seq vs.toArray } (.tup (vs.map toV))) := by
  show (if (Value.type "tuple" == Value.type "list") = true then some (HO.frz { cls := .type "tuple", data := .seq vs.toArray } (.lst (vs.toArray.toList.map toV))) else some (HO.frz { cls := .type "tuple", data := .seq vs.toArray } (.tup (vs.toArray.toList.map toV)))) = _
  rw [if_neg (by decide)]
section
variable {P : Program} {w : World} {K : PySem.W.Frag} {h : Heap} {A : List Addr}
theorem argH_at {b : Addr} {o : Obj} (hb : b ∈ A) (hk : K.lookup b = none) (e : h.get? b = some o) : argH K h A b = hoOf o := by
  unfold argH
  rw [if_pos hb, hk, if_pos (show (none : Option Obj).isNone = true from rfl), e] <;> rfl
theorem of_argH {b : Addr} {u : HO} (q : argH K h A b = some u) : b ∈ A ∧ K.lookup b = none := by
  unfold argH at q
  by_cases hb : b ∈ A
  · rw [if_pos hb] at q
    cases hk : K.lookup b with
    | none => exact ⟨hb, rfl⟩
    | some o =>
      rw [hk, if_neg (by simp)] at q
      cases q
  · rw [if_neg hb] at q
    cases q
theorem argH_is (ar : ∀ a ∈ A, ArgOb h A a) {b : Addr} {u : HO} (q : argH K h A b = some u) : K.lookup b = none ∧ ∃ vs : List Value, vs.length ≤ sizeLine ∧ (∀ u ∈ vs, OkU A u) ∧
    ((h.get? b = some { cls := .type "list", data := .seq vs.toArray } ∧ u = .frz { cls := .type "list", data := .seq vs.toArray } (.lst (vs.map toV))) ∨
     (h.get? b = some { cls := .type "tuple", data := .seq vs.toArray } ∧ u = .frz { cls := .type "tuple", data := .seq vs.toArray } (.tup (vs.map toV)))) := by
  obtain ⟨hb, hk⟩ := of_argH q
  obtain ⟨vs, h1, h2, h3⟩ := ar b hb
  refine ⟨hk, vs, h1, h2, ?_⟩
  rcases h3 with e | e
  · rw [argH_at hb hk e, hoOf_lst] at q
    exact .inl ⟨e, (Option.some.inj q).symm⟩
  · rw [argH_at hb hk e, hoOf_tup] at q
    exact .inr ⟨e, (Option.some.inj q).symm⟩
theorem argH_only (ar : ∀ a ∈ A, ArgOb h A a) : OnlyF (argH K h A) := fun b => by
  cases q : argH K h A b with
  | none => exact .inl rfl
  | some u =>
    obtain ⟨_, vs, _, _, ⟨_, e⟩ | ⟨_, e⟩⟩ := argH_is ar q
    · exact .inr ⟨_, _, by rw [e]⟩
    · exact .inr ⟨_, _, by rw [e]⟩
theorem argH_ok (ar : ∀ a ∈ A, ArgOb h A a) : HOk P w (argH K h A) h := fun b u q => by
  obtain ⟨_, vs, h1, h2, ⟨e, rfl⟩ | ⟨e, rfl⟩⟩ := argH_is ar q
  · exact ⟨e, by rw [List.length_map]; exact h1, vs, _, vals_toV h2, e⟩
  · exact ⟨e, by rw [List.length_map]; exact h1, vs, vals_toV h2, _, e, rfl, _, rfl⟩
theorem seq_inj {c c' : Value} {vs us : List Value} (e : (some { cls := c, data := .seq vs.toArray } : Option Obj) = some { cls := c', data := .seq us.toArray }) : c = c' ∧ vs = us := by
  have e1 := Option.some.inj e
  have e2 : c = c' := congrArg Obj.cls e1
  have e3 : Data.seq vs.toArray = Data.seq us.toArray := congrArg Obj.data e1
  injection e3 with e4
  refine ⟨e2, ?_⟩
  have e5 := congrArg Array.toList e4
  simpa using e5
theorem argL (KX : K.In h) (ar : ∀ a ∈ A, ArgOb h A a) {a : Addr} {vs : List Value} (ha : a ∈ A) (e : h.get? a = some { cls := .type "list", data := .seq vs.toArray }) : (∀ u ∈ vs, OkU A u) ∧ SqL K (argH K h A) a (vs.map toV) := by
  obtain ⟨us, h1, h2, h3⟩ := ar a ha
  have hu : us = vs := by
    rcases h3 with q | q
    · rw [e] at q
      exact (seq_inj q).2.symm
    · rw [e] at q
      exact absurd (Value.type.inj (seq_inj q).1) (by decide)
  subst hu
  refine ⟨h2, ?_⟩
  cases hk : K.lookup a with
  | none => exact .inl (.inr ⟨_, by rw [argH_at ha hk e, hoOf_lst]⟩)
  | some o =>
    have e2 := KX a o hk
    rw [e] at e2
    obtain rfl := Option.some.inj e2
    exact .inr ⟨_, us.toArray, _, hk, rfl, rfl, rfl, by rw [List.size_toArray]; exact h1, by simpa using vals_toV h2⟩
theorem argT (KX : K.In h) (ar : ∀ a ∈ A, ArgOb h A a) {a : Addr} {vs : List Value} (ha : a ∈ A) (e : h.get? a = some { cls := .type "tuple", data := .seq vs.toArray }) : (∀ u ∈ vs, OkU A u) ∧ SqT K (argH K h A) a (vs.map toV) := by
  obtain ⟨us, h1, h2, h3⟩ := ar a ha
  have hu : us = vs := by
    rcases h3 with q | q
    · rw [e] at q
      exact absurd (Value.type.inj (seq_inj q).1) (by decide)
    · rw [e] at q
      exact (seq_inj q).2.symm
  subst hu
  refine ⟨h2, ?_⟩
  cases hk : K.lookup a with
  | none => exact .inl (.inr ⟨_, by rw [argH_at ha hk e, hoOf_tup]⟩)
  | some o =>
    have e2 := KX a o hk
    rw [e] at e2
    obtain rfl := Option.some.inj e2
    exact .inr ⟨_, us.toArray, _, hk, rfl, rfl, by rw [List.size_toArray]; exact h1, by simpa using vals_toV h2⟩
mutual
theorem dw_one {Pm : Params} (KX : K.In h) (ar : ∀ a ∈ A, ArgOb h A a) : ∀ (d : WData) (v : Value), Well Pm h v d → plW d = true → OkU A v → Dw K (argH K h A) (toV v) d
  | .none, _, x, _, _ => by
    cases x
    exact .non
  | .bool b, _, x, _, _ => by
    cases x
    exact .bl b
  | .int i, _, x, _, _ => by
    cases x
    exact .int i
  | .str s, _, x, _, _ => by
    cases x
    exact .str s
  | .bytes b, _, x, _, _ => by
    cases x
    have z := Dw.byt (K := K) (H := argH K h A) b.toArray
    exact z
  | .list ds, _, x, p, hu => by
    obtain ⟨a, vs, rfl, ho, hall⟩ := well_list x
    obtain ⟨h2, hs⟩ := argL KX ar hu ho
    exact .lst hs (dw_all KX ar ds _ hall p h2)
  | .tuple ds, _, x, p, hu => by
    obtain ⟨a, vs, rfl, ho, hall⟩ := well_tuple x
    obtain ⟨h2, hs⟩ := argT KX ar hu ho
    exact .tup hs (dw_all KX ar ds _ hall p h2)
  | .float _, _, _, p, _ => Bool.noConfusion (show false = true from p)
  | .dict _, _, _, p, _ => Bool.noConfusion (show false = true from p)
  | .bytearray _, _, _, p, _ => Bool.noConfusion (show false = true from p)
  | .set _, _, _, p, _ => Bool.noConfusion (show false = true from p)
  | .frozenset _, _, _, p, _ => Bool.noConfusion (show false = true from p)
  | .obj _ _, _, _, p, _ => Bool.noConfusion (show false = true from p)
theorem dw_all {Pm : Params} (KX : K.In h) (ar : ∀ a ∈ A, ArgOb h A a) : ∀ (ds : List WData) (vs : List Value), WellAll Pm h vs ds → plWs ds = true → (∀ u ∈ vs, OkU A u) → DwAll K (argH K h A) (vs.map toV) ds
  | [], _, x, _, _ => by
    cases x
    exact .nil
  | d :: ds, _, x, p, hu => by
    obtain ⟨v, vs, rfl, x1, x2⟩ := well_cons x
    have q : plW d = true ∧ plWs ds = true := Bool.and_eq_true_iff.mp p
    exact .cons (dw_one KX ar d v x1 q.1 (hu _ (List.mem_cons_self ..))) (dw_all KX ar ds vs x2 q.2 fun u m => hu u (List.mem_cons_of_mem _ m))
end
end
theorem spec_call {P : Program} {w : World} {K : PySem.W.Frag} {mg mb : Str → Option Value} {CX : CXT} {k : Nat} {fa : Addr} {fd : FuncData} {ps : List Str} {sp : Sp} {s₁ : Shared} {vals : List Value} {ds : List WData} {R : PySem.W.WRecords} {cl : Str → Option Addr} {d0 : WData}
    (KX : K.In s₁.heap) (hns : s₁.heap.Ns mainGlobals mg) (hb : s₁.heap.Ns builtinsNs mb) (hbb : ∀ x : Str, x ≠ "__name__" → mb x = bootBuiltins x) (hlim : s₁.heap.NoLimit) (hg : s₁.gens = #[])
    (hwl : WellAll w.params s₁.heap vals ds) (hpl : plWs ds = true) (hwt : ∀ d ∈ ds, d.weight ≤ 1048576) (hr : Room k callerA)
    (F : ∀ base : Heap, K.In base → base.Ns mainGlobals mg → FnOk P w K mg base CX k fa fd ps sp) (hbind : ∀ (s : Shared) (us : List Value), us.length = ps.length → BindsTo s fd ⟨us, []⟩ (ps.zip us)) (hlen : ds.length = ps.length)
    (hsp : ∀ (H : Hp) (xs : List V), OnlyF H → DwAll K H xs ds → sp xs H (fun v H' => Dw K H' v d0) fun _ _ _ => False)
    (hCX : ∀ H e s', CX [] H s₁ (fun _ _ _ => False) e s' → False) :
    codeAny (model P w) callerA (.call (.ref fa) ⟨vals, []⟩) (fun r s' => ∃ u as, r = .ok (.ret u) ∧ ReadsW R cl s'.heap u d0 as ∧ OldK s₁.heap s'.heap ∧ s'.os = s₁.os ∧ AllBare s'.gens) s₁ := by
  obtain ⟨A, ho, ar⟩ := area_all ds vals hwl hpl hwt
  have hO : OnlyF (argH K s₁.heap A) := argH_only ar
  have hok : HOk P w (argH K s₁.heap A) s₁.heap := argH_ok ar
  have hS := dw_all KX ar ds vals hwl hpl ho
  have hV := vals_toV ho
  have hK : ∀ b u, argH K s₁.heap A b = some u → K.lookup b = none := fun b u q => (argH_is ar q).1
  have noA : ∀ {b : Addr} {o : Obj} {es : Array DictEntry} {ep : Nat}, s₁.heap.get? b = some o → o.data = .dict es ep → argH K s₁.heap A b = none := fun {b o es ep} e d => by
    cases q : argH K s₁.heap A b with
    | none => rfl
    | some u =>
      obtain ⟨_, vs, _, _, ⟨e2, _⟩ | ⟨e2, _⟩⟩ := argH_is ar q
      · rw [e2] at e
        cases e
        have d' : Data.seq vs.toArray _ = Data.dict es ep := d
        cases d'
      · rw [e2] at e
        cases e
        have d' : Data.seq vs.toArray _ = Data.dict es ep := d
        cases d'
  generalize argH K s₁.heap A = H at hO hok hS hK noA
  have base_of : ∀ {b : Addr} {o : Obj}, s₁.heap.get? b = some o → H b = none → (hidT s₁.heap H).get? b = some o := fun e n => hidT_get e n
  have nsK : ∀ {b : Addr} {m : Str → Option Value}, s₁.heap.Ns b m → (hidT s₁.heap H).Ns b m := fun {b m} ⟨o, es, ep, e, d, r⟩ => ⟨o, es, ep, base_of e (noA e d), d, r⟩
  have nK : ∀ b o, K.lookup b = some o → H b = none := fun b o e => by
    cases q : H b with
    | none => rfl
    | some u =>
      rw [hK b u q] at e
      cases e
  have hKb : K.In (hidT s₁.heap H) := fun b o e => base_of (KX b o e) (nK b o e)
  have hM : Mod K mg (hidT s₁.heap H) := ⟨hKb, nsK hns, ⟨mb, nsK hb, hbb⟩, let ⟨mc, h1, h2⟩ := hlim; ⟨mc, nsK h1, h2⟩⟩
  have e0 : Env0 P w K mg (hidT s₁.heap H) callerA [] s₁ H := ⟨rfl, hM, fun b o e => of_hidT e, Nat.le_of_eq (hidT_size _ _), trivial, fun b hb => absurd (show b ∈ ([] : List Addr) from hb) (by simp), hok, .of_eq hg⟩
  have hl : vals.length = ps.length := by rw [wellAll_len hwl]; exact hlen
  refine codeAny_mono ((F _ hKb (nsK hns)).run callerA [] s₁ H ⟨vals, []⟩ vals (vals.map toV) _ _ hr e0 (hbind s₁ vals hl) hV (hsp H _ hO hS)) fun r s' x => ?_
  cases r with
  | error e => exact (hCX H e s' x).elim
  | ok fl =>
    cases fl with
    | next => exact False.elim x
    | brk => exact False.elim x
    | cont => exact False.elim x
    | ret u =>
      obtain ⟨v, H', os, bare, un, hok', r', q⟩ := x
      have kept : ∀ b o, s₁.heap.get? b = some o → s'.heap.get? b = some o := fun b o e => by
        cases q2 : H b with
        | none => exact un.keep b o e q2 (by intro z; exact absurd (show b ∈ ([] : List Addr) from z) (by simp)) (by simp)
        | some u2 =>
          rcases hO b with z | ⟨ob, u3, z⟩
          · rw [q2] at z
            cases z
          · have z2 := un.frzs b ob _ z
            obtain ⟨e1, _⟩ := hok b _ z
            obtain ⟨e2, _⟩ := hok' b _ z2
            rw [e] at e1
            cases e1
            exact e2
      have KX' : K.In s'.heap := fun b o e => kept b o (KX b o e)
      obtain ⟨as, hrd⟩ := Dw.reads (R := R) (cl := cl) hok' KX' d0 v u q r'
      exact ⟨u, as, rfl, hrd, OldK.of_keep kept, os, bare⟩
theorem layable_weight {ds : List WData} (h : WData.layableAll ds = true) : ∀ d ∈ ds, d.weight ≤ 1048576 := fun d hd =>
  (PySem.W.layableW_iff.mp (List.all_eq_true.mp h d hd)).2.2
theorem encAll_len : ∀ (cs : List Codec) (a : Codec.denoteAll cs), (Codec.encAll cs a).length = cs.length
  | [], _ => rfl
  | c :: cs, a => by
    show (Codec.encAll cs a.2).length + 1 = cs.length + 1
    rw [encAll_len cs a.2]
theorem walk_spec {r : OpenSpec} {k : Nat} {q : Program} {loose : List Str} {XP : (Str → Option Value) → Heap → Prop} {YP : World → Heap → Prop} {d : DefRec} {K : Params → PySem.W.Frag} {CX : World → CXT} {ps : List Str} {sp : World → Sp}
    (hwell : r.wellSaid = true) (hdf : d.params.defaults = []) (hlen : r.args.length = ps.length) (hr : Room k callerA)
    (hY : ∀ (w : World) (h : Heap), YP w h → (K w.params).In h)
    (F : ∀ (w : World) (mg : Str → Option Value) (fa : Addr) (h : Heap), YP w h → (K w.params).In h → h.Ns mainGlobals mg → mg d.name = some (.ref fa) →
      ∃ fd : FuncData, (∀ (s : Shared) (us : List Value), us.length = ps.length → BindsTo s fd ⟨us, []⟩ (ps.zip us)) ∧
        ∀ base : Heap, (K w.params).In base → base.Ns mainGlobals mg → FnOk r.prog w (K w.params) mg base (CX w) k fa fd ps (sp w))
    (hsp : ∀ (w : World) (H : Hp) (xs : List V) (a : Codec.denoteAll r.args), OnlyF H → Codec.withinAll r.args a = true → Codec.app r.args r.asked a = true → DwAll (K w.params) H xs (Codec.encAll r.args a) →
      sp w xs H (fun v H' => Dw (K w.params) H' v (r.ret.enc (Codec.app r.args r.f a))) fun _ _ _ => False)
    (hCX : ∀ (w : World) (H : Hp) (s : Shared) (e : Value) (s' : Shared), CX w [] H s (fun _ _ _ => False) e s' → False) :
    PySem.W.WalkOS q loose XP YP r d [] (fun f vs => PySem.call f vs) := by
  intro w s_0 s₁ mg mb G Y fa o pm cd doc dV kV ho hd hcd hD hmg hg args vals as hpre hlay hrd hwl hlo
  obtain ⟨a, e1, e2⟩ := PySem.W.os_pre_some hpre
  obtain ⟨e3, hwi⟩ := Codec.encAll_of_decAll r.args args a e1
  subst e3
  have KX := hY w _ Y
  obtain ⟨fd, hb, hF⟩ := F w mg fa _ Y KX G.T.g hmg
  refine PySem.W.enter_call (codeAny_mono (spec_call (R := []) (cl := classAt s_0.heap) (d0 := r.ret.enc (Codec.app r.args r.f a)) KX G.T.g G.T.b G.T.builtins G.T.nolimit hg hwl (pl_encAll _ _) (layable_weight hlay) hr hF hb (by rw [encAll_len]; exact hlen)
    (fun H xs hO hS => hsp w H xs a hO hwi e2 hS) fun H e s' => hCX w H s₁ e s') fun r' s' hq => ?_)
  obtain ⟨u, as', rfl, h1, h2, h3, h4⟩ := hq
  exact ⟨.inl ⟨u, _, as', rfl, fun _ => rfl, h1, (OpenSpec.post_iff hwell hwi _ _).mpr rfl, fun z => Bool.noConfusion (show false = true from z)⟩, h2, h3, h4⟩
theorem walk_specK {r : OpenSpec} {k : Nat} {q : Program} {loose : List Str} {XP : (Str → Option Value) → Heap → Prop} {YP : World → Heap → Prop} {d : DefRec} {K : Params → PySem.W.Frag} {CX : CXT} {ps : List Str} {sp : PySem.W.Frag → Sp}
    (hwell : r.wellSaid = true) (hdf : d.params.defaults = []) (hlen : r.args.length = ps.length) (hr : Room k callerA)
    (hY : ∀ (w : World) (h : Heap), YP w h → (K w.params).In h)
    (F : ∀ (w : World) (mg : Str → Option Value) (fa : Addr) (h : Heap), YP w h → (K w.params).In h → h.Ns mainGlobals mg → mg d.name = some (.ref fa) →
      ∃ fd : FuncData, (∀ (s : Shared) (us : List Value), us.length = ps.length → BindsTo s fd ⟨us, []⟩ (ps.zip us)) ∧
        ∀ base : Heap, (K w.params).In base → base.Ns mainGlobals mg → FnOk r.prog w (K w.params) mg base CX k fa fd ps (sp (K w.params)))
    (hsp : ∀ (K : PySem.W.Frag) (H : Hp) (xs : List V) (a : Codec.denoteAll r.args), OnlyF H → Codec.withinAll r.args a = true → Codec.app r.args r.asked a = true → DwAll K H xs (Codec.encAll r.args a) →
      sp K xs H (fun v H' => Dw K H' v (r.ret.enc (Codec.app r.args r.f a))) fun _ _ _ => False)
    (hCX : ∀ (H : Hp) (s : Shared) (e : Value) (s' : Shared), CX [] H s (fun _ _ _ => False) e s' → False) :
    PySem.W.WalkOS q loose XP YP r d [] (fun f vs => PySem.call f vs) :=
  walk_spec (K := K) (CX := fun _ => CX) (sp := fun w => sp (K w.params)) hwell hdf hlen hr hY F (fun w H xs a h1 h2 h3 h4 => hsp (K w.params) H xs a h1 h2 h3 h4) fun _ H s e s' => hCX H s e s'
end L2
end
end
section
set_option Elab.async false
set_option linter.all false
set_option maxRecDepth 100000
set_option maxHeartbeats 2000000
namespace Nw
open PySem PySem.Spec PyProof.Rows L2
section
variable {X : Cx}
theorem pe_gint {x : Str} {i : Int} {pos : Pos} (hg : Gl X x) (h : ∃ t, X.mg x = some (Value.int i t)) (hd : (x == ("__debug__" : Str)) = false := by decide) : PE X (.Name x pos) (tC (.int i)) := by
  obtain ⟨t, h⟩ := h
  exact pe_glob hg h ⟨t, rfl⟩ hd
end
structure FnT (K : PySem.W.Frag) (mg : Str → Option Value) (x : Str) (st : Stmt) (ps : List Str) (f : Addr) (fd : FuncData) : Prop where
  F : Fun K x x st f fd
  mg : mg x = some (.ref f)
  b : Binds K fd ps []
structure ClT (K : PySem.W.Frag) (mg : Str → Option Value) (x qual : Str) (st : Stmt) (ps : List Str) (C f : Addr) (fd : FuncData) : Prop where
  cl : Cls K C
  mkr : Mk K C f
  mg : mg x = some (.ref C)
  F : Fun K "__init__" qual st f fd
  b : Binds K fd ps []
def top (i : Nat) : Stmt := PySem.Challenge.pw_nursewire_s01_answers.main.body.getD i (.Pass ⟨0, 0, 0, 0⟩)
abbrev s_check_of : Stmt := top 13
abbrev n_check_of : List Str := ["octets", "total", "place", "octet"]
abbrev p_check_of : List Str := ["octets"]
theorem sc_check_of : FnScope n_check_of p_check_of (defScope s_check_of) := ⟨rfl, rfl, rfl, by decide +kernel, rfl, by decide +kernel, by decide +kernel⟩
abbrev s_number_to_octets : Stmt := top 14
abbrev n_number_to_octets : List Str := ["number", "how_many", "octets", "worth"]
abbrev p_number_to_octets : List Str := ["number", "how_many"]
theorem sc_number_to_octets : FnScope n_number_to_octets p_number_to_octets (defScope s_number_to_octets) := ⟨rfl, rfl, rfl, by decide +kernel, rfl, by decide +kernel, by decide +kernel⟩
abbrev s_octets_to_number : Stmt := top 15
abbrev n_octets_to_number : List Str := ["octets", "number", "octet"]
abbrev p_octets_to_number : List Str := ["octets"]
theorem sc_octets_to_number : FnScope n_octets_to_number p_octets_to_number (defScope s_octets_to_number) := ⟨rfl, rfl, rfl, by decide +kernel, rfl, by decide +kernel, by decide +kernel⟩
abbrev s_body_of : Stmt := top 16
abbrev n_body_of : List Str := ["told", "head"]
abbrev p_body_of : List Str := ["told"]
theorem sc_body_of : FnScope n_body_of p_body_of (defScope s_body_of) := ⟨rfl, rfl, rfl, by decide +kernel, rfl, by decide +kernel, by decide +kernel⟩
abbrev s_make_frame : Stmt := top 17
abbrev n_make_frame : List Str := ["told", "body"]
abbrev p_make_frame : List Str := ["told"]
theorem sc_make_frame : FnScope n_make_frame p_make_frame (defScope s_make_frame) := ⟨rfl, rfl, rfl, by decide +kernel, rfl, by decide +kernel, by decide +kernel⟩
abbrev s_read_data : Stmt := top 18
abbrev n_read_data : List Str := ["body", "length"]
abbrev p_read_data : List Str := ["body"]
theorem sc_read_data : FnScope n_read_data p_read_data (defScope s_read_data) := ⟨rfl, rfl, rfl, by decide +kernel, rfl, by decide +kernel, by decide +kernel⟩
abbrev s_read_body : Stmt := top 19
abbrev n_read_body : List Str := ["body"]
abbrev p_read_body : List Str := ["body"]
theorem sc_read_body : FnScope n_read_body p_read_body (defScope s_read_body) := ⟨rfl, rfl, rfl, by decide +kernel, rfl, by decide +kernel, by decide +kernel⟩
abbrev s_read_frame : Stmt := top 20
abbrev n_read_frame : List Str := ["octets", "body"]
abbrev p_read_frame : List Str := ["octets"]
theorem sc_read_frame : FnScope n_read_frame p_read_frame (defScope s_read_frame) := ⟨rfl, rfl, rfl, by decide +kernel, rfl, by decide +kernel, by decide +kernel⟩
abbrev s_counted : Stmt := top 27
abbrev n_counted : List Str := ["row"]
abbrev p_counted : List Str := ["row"]
theorem sc_counted : FnScope n_counted p_counted (defScope s_counted) := ⟨rfl, rfl, rfl, by decide +kernel, rfl, by decide +kernel, by decide +kernel⟩
abbrev s_look_at_net : Stmt := top 28
abbrev n_look_at_net : List Str := ["ward", "numbers", "row", "told", "packet"]
abbrev p_look_at_net : List Str := ["ward", "numbers", "row"]
theorem sc_look_at_net : FnScope n_look_at_net p_look_at_net (defScope s_look_at_net) := ⟨rfl, rfl, rfl, by decide +kernel, rfl, by decide +kernel, by decide +kernel⟩
abbrev s_look_at_packet : Stmt := top 29
abbrev n_look_at_packet : List Str := ["ward", "numbers", "row"]
abbrev p_look_at_packet : List Str := ["ward", "numbers", "row"]
theorem sc_look_at_packet : FnScope n_look_at_packet p_look_at_packet (defScope s_look_at_packet) := ⟨rfl, rfl, rfl, by decide +kernel, rfl, by decide +kernel, by decide +kernel⟩
abbrev s_look_at_sender : Stmt := top 30
abbrev n_look_at_sender : List Str := ["ward", "numbers", "row", "machine", "power"]
abbrev p_look_at_sender : List Str := ["ward", "numbers", "row"]
theorem sc_look_at_sender : FnScope n_look_at_sender p_look_at_sender (defScope s_look_at_sender) := ⟨rfl, rfl, rfl, by decide +kernel, rfl, by decide +kernel, by decide +kernel⟩
abbrev s_look_at_station : Stmt := top 31
abbrev n_look_at_station : List Str := ["ward", "numbers", "row", "desk", "held"]
abbrev p_look_at_station : List Str := ["ward", "numbers", "row"]
theorem sc_look_at_station : FnScope n_look_at_station p_look_at_station (defScope s_look_at_station) := ⟨rfl, rfl, rfl, by decide +kernel, rfl, by decide +kernel, by decide +kernel⟩
abbrev s_event_at : Stmt := top 32
abbrev n_event_at : List Str := ["events", "place"]
abbrev p_event_at : List Str := ["events", "place"]
theorem sc_event_at : FnScope n_event_at p_event_at (defScope s_event_at) := ⟨rfl, rfl, rfl, by decide +kernel, rfl, by decide +kernel, by decide +kernel⟩
abbrev s_look_at_copy : Stmt := top 33
abbrev n_look_at_copy : List Str := ["ward", "numbers", "row"]
abbrev p_look_at_copy : List Str := ["ward", "numbers", "row"]
theorem sc_look_at_copy : FnScope n_look_at_copy p_look_at_copy (defScope s_look_at_copy) := ⟨rfl, rfl, rfl, by decide +kernel, rfl, by decide +kernel, by decide +kernel⟩
abbrev s_look_at_event : Stmt := top 34
abbrev n_look_at_event : List Str := ["ward", "numbers", "row"]
abbrev p_look_at_event : List Str := ["ward", "numbers", "row"]
theorem sc_look_at_event : FnScope n_look_at_event p_look_at_event (defScope s_look_at_event) := ⟨rfl, rfl, rfl, by decide +kernel, rfl, by decide +kernel, by decide +kernel⟩
abbrev s_look_whether_whole : Stmt := top 35
abbrev n_look_whether_whole : List Str := ["ward", "numbers", "row"]
abbrev p_look_whether_whole : List Str := ["ward", "numbers", "row"]
theorem sc_look_whether_whole : FnScope n_look_whether_whole p_look_whether_whole (defScope s_look_whether_whole) := ⟨rfl, rfl, rfl, by decide +kernel, rfl, by decide +kernel, by decide +kernel⟩
abbrev s_look_at_frame : Stmt := top 36
abbrev n_look_at_frame : List Str := ["ward", "numbers", "row", "check", "told"]
abbrev p_look_at_frame : List Str := ["ward", "numbers", "row"]
theorem sc_look_at_frame : FnScope n_look_at_frame p_look_at_frame (defScope s_look_at_frame) := ⟨rfl, rfl, rfl, by decide +kernel, rfl, by decide +kernel, by decide +kernel⟩
abbrev s_look_at_totals : Stmt := top 37
abbrev n_look_at_totals : List Str := ["ward", "numbers", "row"]
abbrev p_look_at_totals : List Str := ["ward", "numbers", "row"]
theorem sc_look_at_totals : FnScope n_look_at_totals p_look_at_totals (defScope s_look_at_totals) := ⟨rfl, rfl, rfl, by decide +kernel, rfl, by decide +kernel, by decide +kernel⟩
abbrev s_look : Stmt := top 39
abbrev n_look : List Str := ["ward", "place", "numbers", "row", "handler"]
abbrev p_look : List Str := ["ward", "place", "numbers", "row"]
theorem sc_look : FnScope n_look p_look (defScope s_look) := ⟨rfl, rfl, rfl, by decide +kernel, rfl, by decide +kernel, by decide +kernel⟩
abbrev s_Packet_init : Stmt := inClass (top 43) 0
abbrev n_Packet_init : List Str := ["self", "goes_to", "machine", "octets"]
abbrev p_Packet_init : List Str := ["self", "goes_to", "machine", "octets"]
theorem sc_Packet_init : FnScope n_Packet_init p_Packet_init (defScope s_Packet_init) := ⟨rfl, rfl, rfl, by decide +kernel, rfl, by decide +kernel, by decide +kernel⟩
abbrev s_Machine_init : Stmt := inClass (top 44) 0
abbrev n_Machine_init : List Str := ["self"]
abbrev p_Machine_init : List Str := ["self"]
theorem sc_Machine_init : FnScope n_Machine_init p_Machine_init (defScope s_Machine_init) := ⟨rfl, rfl, rfl, by decide +kernel, rfl, by decide +kernel, by decide +kernel⟩
abbrev s_Desk_init : Stmt := inClass (top 45) 0
abbrev n_Desk_init : List Str := ["self"]
abbrev p_Desk_init : List Str := ["self"]
theorem sc_Desk_init : FnScope n_Desk_init p_Desk_init (defScope s_Desk_init) := ⟨rfl, rfl, rfl, by decide +kernel, rfl, by decide +kernel, by decide +kernel⟩
abbrev s_Ward_init : Stmt := inClass (top 46) 0
abbrev n_Ward_init : List Str := ["self"]
abbrev p_Ward_init : List Str := ["self"]
theorem sc_Ward_init : FnScope n_Ward_init p_Ward_init (defScope s_Ward_init) := ⟨rfl, rfl, rfl, by decide +kernel, rfl, by decide +kernel, by decide +kernel⟩
abbrev s_send : Stmt := top 49
abbrev n_send : List Str := ["ward", "goes_to", "number", "told"]
abbrev p_send : List Str := ["ward", "goes_to", "number", "told"]
theorem sc_send : FnScope n_send p_send (defScope s_send) := ⟨rfl, rfl, rfl, by decide +kernel, rfl, by decide +kernel, by decide +kernel⟩
abbrev s_send_ask : Stmt := top 50
abbrev n_send_ask : List Str := ["ward", "number"]
abbrev p_send_ask : List Str := ["ward", "number"]
theorem sc_send_ask : FnScope n_send_ask p_send_ask (defScope s_send_ask) := ⟨rfl, rfl, rfl, by decide +kernel, rfl, by decide +kernel, by decide +kernel⟩
abbrev s_pump : Stmt := top 51
abbrev n_pump : List Str := ["ward", "number", "machine", "limit", "sent", "place"]
abbrev p_pump : List Str := ["ward", "number"]
theorem sc_pump : FnScope n_pump p_pump (defScope s_pump) := ⟨rfl, rfl, rfl, by decide +kernel, rfl, by decide +kernel, by decide +kernel⟩
abbrev s_log_event : Stmt := top 52
abbrev n_log_event : List Str := ["ward", "number", "event"]
abbrev p_log_event : List Str := ["ward", "number", "event"]
theorem sc_log_event : FnScope n_log_event p_log_event (defScope s_log_event) := ⟨rfl, rfl, rfl, by decide +kernel, rfl, by decide +kernel, by decide +kernel⟩
abbrev s_station_acks : Stmt := top 53
abbrev n_station_acks : List Str := ["ward", "number", "desk"]
abbrev p_station_acks : List Str := ["ward", "number"]
theorem sc_station_acks : FnScope n_station_acks p_station_acks (defScope s_station_acks) := ⟨rfl, rfl, rfl, by decide +kernel, rfl, by decide +kernel, by decide +kernel⟩
abbrev s_find_aside : Stmt := top 54
abbrev n_find_aside : List Str := ["desk", "place", "k", "held"]
abbrev p_find_aside : List Str := ["desk", "place"]
theorem sc_find_aside : FnScope n_find_aside p_find_aside (defScope s_find_aside) := ⟨rfl, rfl, rfl, by decide +kernel, rfl, by decide +kernel, by decide +kernel⟩
abbrev s_take_in : Stmt := top 55
abbrev n_take_in : List Str := ["ward", "desk", "event", "followed", "k", "held"]
abbrev p_take_in : List Str := ["ward", "desk", "event"]
theorem sc_take_in : FnScope n_take_in p_take_in (defScope s_take_in) := ⟨rfl, rfl, rfl, by decide +kernel, rfl, by decide +kernel, by decide +kernel⟩
abbrev s_data_at_station : Stmt := top 56
abbrev n_data_at_station : List Str := ["ward", "number", "place", "event", "desk", "had", "outcome"]
abbrev p_data_at_station : List Str := ["ward", "number", "place", "event"]
theorem sc_data_at_station : FnScope n_data_at_station p_data_at_station (defScope s_data_at_station) := ⟨rfl, rfl, rfl, by decide +kernel, rfl, by decide +kernel, by decide +kernel⟩
abbrev s_ack_at_machine : Stmt := top 57
abbrev n_ack_at_machine : List Str := ["ward", "number", "turn", "many", "machine"]
abbrev p_ack_at_machine : List Str := ["ward", "number", "turn", "many"]
theorem sc_ack_at_machine : FnScope n_ack_at_machine p_ack_at_machine (defScope s_ack_at_machine) := ⟨rfl, rfl, rfl, by decide +kernel, rfl, by decide +kernel, by decide +kernel⟩
abbrev s_arrive_at_station : Stmt := top 58
abbrev n_arrive_at_station : List Str := ["ward", "told", "number"]
abbrev p_arrive_at_station : List Str := ["ward", "told"]
theorem sc_arrive_at_station : FnScope n_arrive_at_station p_arrive_at_station (defScope s_arrive_at_station) := ⟨rfl, rfl, rfl, by decide +kernel, rfl, by decide +kernel, by decide +kernel⟩
abbrev s_arrive_at_machine : Stmt := top 59
abbrev n_arrive_at_machine : List Str := ["ward", "number", "told"]
abbrev p_arrive_at_machine : List Str := ["ward", "number", "told"]
theorem sc_arrive_at_machine : FnScope n_arrive_at_machine p_arrive_at_machine (defScope s_arrive_at_machine) := ⟨rfl, rfl, rfl, by decide +kernel, rfl, by decide +kernel, by decide +kernel⟩
abbrev s_arrive : Stmt := top 60
abbrev n_arrive : List Str := ["ward", "packet", "told", "outcome"]
abbrev p_arrive : List Str := ["ward", "packet"]
theorem sc_arrive : FnScope n_arrive p_arrive (defScope s_arrive) := ⟨rfl, rfl, rfl, by decide +kernel, rfl, by decide +kernel, by decide +kernel⟩
abbrev s_tick_machine : Stmt := top 61
abbrev n_tick_machine : List Str := ["ward", "number", "machine"]
abbrev p_tick_machine : List Str := ["ward", "number"]
theorem sc_tick_machine : FnScope n_tick_machine p_tick_machine (defScope s_tick_machine) := ⟨rfl, rfl, rfl, by decide +kernel, rfl, by decide +kernel, by decide +kernel⟩
abbrev s_tick : Stmt := top 62
abbrev n_tick : List Str := ["ward", "number"]
abbrev p_tick : List Str := ["ward"]
theorem sc_tick : FnScope n_tick p_tick (defScope s_tick) := ⟨rfl, rfl, rfl, by decide +kernel, rfl, by decide +kernel, by decide +kernel⟩
abbrev s_calm_round : Stmt := top 63
abbrev n_calm_round : List Str := ["ward", "arriving", "packet"]
abbrev p_calm_round : List Str := ["ward"]
theorem sc_calm_round : FnScope n_calm_round p_calm_round (defScope s_calm_round) := ⟨rfl, rfl, rfl, by decide +kernel, rfl, by decide +kernel, by decide +kernel⟩
abbrev s_open_ward : Stmt := top 84
abbrev n_open_ward : List Str := ["ward", "numbers", "row", "number"]
abbrev p_open_ward : List Str := ["ward", "numbers", "row"]
theorem sc_open_ward : FnScope n_open_ward p_open_ward (defScope s_open_ward) := ⟨rfl, rfl, rfl, by decide +kernel, rfl, by decide +kernel, by decide +kernel⟩
abbrev s_add_to_log : Stmt := top 85
abbrev n_add_to_log : List Str := ["ward", "numbers", "row", "machine"]
abbrev p_add_to_log : List Str := ["ward", "numbers", "row"]
theorem sc_add_to_log : FnScope n_add_to_log p_add_to_log (defScope s_add_to_log) := ⟨rfl, rfl, rfl, by decide +kernel, rfl, by decide +kernel, by decide +kernel⟩
abbrev s_tick_often : Stmt := top 86
abbrev n_tick_often : List Str := ["ward", "numbers", "row", "done"]
abbrev p_tick_often : List Str := ["ward", "numbers", "row"]
theorem sc_tick_often : FnScope n_tick_often p_tick_often (defScope s_tick_often) := ⟨rfl, rfl, rfl, by decide +kernel, rfl, by decide +kernel, by decide +kernel⟩
abbrev s_deliver_packet : Stmt := top 87
abbrev n_deliver_packet : List Str := ["ward", "numbers", "row", "packet"]
abbrev p_deliver_packet : List Str := ["ward", "numbers", "row"]
theorem sc_deliver_packet : FnScope n_deliver_packet p_deliver_packet (defScope s_deliver_packet) := ⟨rfl, rfl, rfl, by decide +kernel, rfl, by decide +kernel, by decide +kernel⟩
abbrev s_drop_packet : Stmt := top 88
abbrev n_drop_packet : List Str := ["ward", "numbers", "row"]
abbrev p_drop_packet : List Str := ["ward", "numbers", "row"]
theorem sc_drop_packet : FnScope n_drop_packet p_drop_packet (defScope s_drop_packet) := ⟨rfl, rfl, rfl, by decide +kernel, rfl, by decide +kernel, by decide +kernel⟩
abbrev s_double_packet : Stmt := top 89
abbrev n_double_packet : List Str := ["ward", "numbers", "row", "packet", "twin"]
abbrev p_double_packet : List Str := ["ward", "numbers", "row"]
theorem sc_double_packet : FnScope n_double_packet p_double_packet (defScope s_double_packet) := ⟨rfl, rfl, rfl, by decide +kernel, rfl, by decide +kernel, by decide +kernel⟩
abbrev s_spoil_packet : Stmt := top 90
abbrev n_spoil_packet : List Str := ["ward", "numbers", "row", "packet", "k"]
abbrev p_spoil_packet : List Str := ["ward", "numbers", "row"]
theorem sc_spoil_packet : FnScope n_spoil_packet p_spoil_packet (defScope s_spoil_packet) := ⟨rfl, rfl, rfl, by decide +kernel, rfl, by decide +kernel, by decide +kernel⟩
abbrev s_cut_power : Stmt := top 91
abbrev n_cut_power : List Str := ["ward", "numbers", "row", "machine"]
abbrev p_cut_power : List Str := ["ward", "numbers", "row"]
theorem sc_cut_power : FnScope n_cut_power p_cut_power (defScope s_cut_power) := ⟨rfl, rfl, rfl, by decide +kernel, rfl, by decide +kernel, by decide +kernel⟩
abbrev s_bring_back : Stmt := top 92
abbrev n_bring_back : List Str := ["ward", "numbers", "row", "machine"]
abbrev p_bring_back : List Str := ["ward", "numbers", "row"]
theorem sc_bring_back : FnScope n_bring_back p_bring_back (defScope s_bring_back) := ⟨rfl, rfl, rfl, by decide +kernel, rfl, by decide +kernel, by decide +kernel⟩
abbrev s_lose_copy : Stmt := top 93
abbrev n_lose_copy : List Str := ["ward", "numbers", "row", "desk", "had"]
abbrev p_lose_copy : List Str := ["ward", "numbers", "row"]
theorem sc_lose_copy : FnScope n_lose_copy p_lose_copy (defScope s_lose_copy) := ⟨rfl, rfl, rfl, by decide +kernel, rfl, by decide +kernel, by decide +kernel⟩
abbrev s_blink_station : Stmt := top 94
abbrev n_blink_station : List Str := ["ward", "numbers", "row", "gone", "desk"]
abbrev p_blink_station : List Str := ["ward", "numbers", "row"]
theorem sc_blink_station : FnScope n_blink_station p_blink_station (defScope s_blink_station) := ⟨rfl, rfl, rfl, by decide +kernel, rfl, by decide +kernel, by decide +kernel⟩
abbrev s_calm_down : Stmt := top 95
abbrev n_calm_down : List Str := ["ward", "numbers", "row", "done", "desk"]
abbrev p_calm_down : List Str := ["ward", "numbers", "row"]
theorem sc_calm_down : FnScope n_calm_down p_calm_down (defScope s_calm_down) := ⟨rfl, rfl, rfl, by decide +kernel, rfl, by decide +kernel, by decide +kernel⟩
abbrev s_count_numbers : Stmt := top 97
abbrev n_count_numbers : List Str := ["place"]
abbrev p_count_numbers : List Str := ["place"]
theorem sc_count_numbers : FnScope n_count_numbers p_count_numbers (defScope s_count_numbers) := ⟨rfl, rfl, rfl, by decide +kernel, rfl, by decide +kernel, by decide +kernel⟩
abbrev s_has_row : Stmt := top 98
abbrev n_has_row : List Str := ["place"]
abbrev p_has_row : List Str := ["place"]
theorem sc_has_row : FnScope n_has_row p_has_row (defScope s_has_row) := ⟨rfl, rfl, rfl, by decide +kernel, rfl, by decide +kernel, by decide +kernel⟩
abbrev s_in_ranges : Stmt := top 99
abbrev n_in_ranges : List Str := ["place", "numbers", "row", "number", "limits", "octet"]
abbrev p_in_ranges : List Str := ["place", "numbers", "row"]
theorem sc_in_ranges : FnScope n_in_ranges p_in_ranges (defScope s_in_ranges) := ⟨rfl, rfl, rfl, by decide +kernel, rfl, by decide +kernel, by decide +kernel⟩
abbrev s_common_refusal : Stmt := top 100
abbrev n_common_refusal : List Str := ["ward", "place", "numbers", "row"]
abbrev p_common_refusal : List Str := ["ward", "place", "numbers", "row"]
theorem sc_common_refusal : FnScope n_common_refusal p_common_refusal (defScope s_common_refusal) := ⟨rfl, rfl, rfl, by decide +kernel, rfl, by decide +kernel, by decide +kernel⟩
abbrev s_perform : Stmt := top 101
abbrev n_perform : List Str := ["ward", "place", "numbers", "row", "refusal", "handler"]
abbrev p_perform : List Str := ["ward", "place", "numbers", "row"]
theorem sc_perform : FnScope n_perform p_perform (defScope s_perform) := ⟨rfl, rfl, rfl, by decide +kernel, rfl, by decide +kernel, by decide +kernel⟩
abbrev s_answers : Stmt := top 103
abbrev n_answers : List Str := ["calls", "ward", "given", "at", "place", "row_at", "numbers", "row", "answer"]
abbrev p_answers : List Str := ["calls"]
theorem sc_answers : FnScope n_answers p_answers (defScope s_answers) := ⟨rfl, rfl, rfl, by decide +kernel, rfl, by decide +kernel, by decide +kernel⟩
structure Adr where
  f_check_of : Addr
  d_check_of : FuncData
  f_number_to_octets : Addr
  d_number_to_octets : FuncData
  f_octets_to_number : Addr
  d_octets_to_number : FuncData
  f_body_of : Addr
  d_body_of : FuncData
  f_make_frame : Addr
  d_make_frame : FuncData
  f_read_data : Addr
  d_read_data : FuncData
  f_read_body : Addr
  d_read_body : FuncData
  f_read_frame : Addr
  d_read_frame : FuncData
  f_counted : Addr
  d_counted : FuncData
  f_look_at_net : Addr
  d_look_at_net : FuncData
  f_look_at_packet : Addr
  d_look_at_packet : FuncData
  f_look_at_sender : Addr
  d_look_at_sender : FuncData
  f_look_at_station : Addr
  d_look_at_station : FuncData
  f_event_at : Addr
  d_event_at : FuncData
  f_look_at_copy : Addr
  d_look_at_copy : FuncData
  f_look_at_event : Addr
  d_look_at_event : FuncData
  f_look_whether_whole : Addr
  d_look_whether_whole : FuncData
  f_look_at_frame : Addr
  d_look_at_frame : FuncData
  f_look_at_totals : Addr
  d_look_at_totals : FuncData
  f_look : Addr
  d_look : FuncData
  f_Packet_init : Addr
  d_Packet_init : FuncData
  f_Machine_init : Addr
  d_Machine_init : FuncData
  f_Desk_init : Addr
  d_Desk_init : FuncData
  f_Ward_init : Addr
  d_Ward_init : FuncData
  f_send : Addr
  d_send : FuncData
  f_send_ask : Addr
  d_send_ask : FuncData
  f_pump : Addr
  d_pump : FuncData
  f_log_event : Addr
  d_log_event : FuncData
  f_station_acks : Addr
  d_station_acks : FuncData
  f_find_aside : Addr
  d_find_aside : FuncData
  f_take_in : Addr
  d_take_in : FuncData
  f_data_at_station : Addr
  d_data_at_station : FuncData
  f_ack_at_machine : Addr
  d_ack_at_machine : FuncData
  f_arrive_at_station : Addr
  d_arrive_at_station : FuncData
  f_arrive_at_machine : Addr
  d_arrive_at_machine : FuncData
  f_arrive : Addr
  d_arrive : FuncData
  f_tick_machine : Addr
  d_tick_machine : FuncData
  f_tick : Addr
  d_tick : FuncData
  f_calm_round : Addr
  d_calm_round : FuncData
  f_open_ward : Addr
  d_open_ward : FuncData
  f_add_to_log : Addr
  d_add_to_log : FuncData
  f_tick_often : Addr
  d_tick_often : FuncData
  f_deliver_packet : Addr
  d_deliver_packet : FuncData
  f_drop_packet : Addr
  d_drop_packet : FuncData
  f_double_packet : Addr
  d_double_packet : FuncData
  f_spoil_packet : Addr
  d_spoil_packet : FuncData
  f_cut_power : Addr
  d_cut_power : FuncData
  f_bring_back : Addr
  d_bring_back : FuncData
  f_lose_copy : Addr
  d_lose_copy : FuncData
  f_blink_station : Addr
  d_blink_station : FuncData
  f_calm_down : Addr
  d_calm_down : FuncData
  f_count_numbers : Addr
  d_count_numbers : FuncData
  f_has_row : Addr
  d_has_row : FuncData
  f_in_ranges : Addr
  d_in_ranges : FuncData
  f_common_refusal : Addr
  d_common_refusal : FuncData
  f_perform : Addr
  d_perform : FuncData
  f_answers : Addr
  d_answers : FuncData
  c_Packet : Addr
  c_Machine : Addr
  c_Desk : Addr
  c_Ward : Addr
  t_LOOKS : Addr
  t_RANGES : Addr
  t_ROW_LIMITS : Addr
  t_FREE_CALLS : Addr
  t_MACHINE_CALLS : Addr
  t_PACKET_CALLS : Addr
  t_HANDLERS : Addr
structure Txt (K : PySem.W.Frag) (mg : Str → Option Value) (a : Adr) : Prop where
  c_DATA : ∃ t, mg "DATA" = some (Value.int (68) t)
  c_ACK : ∃ t, mg "ACK" = some (Value.int (65) t)
  c_ASK : ∃ t, mg "ASK" = some (Value.int (72) t)
  c_CHECK_MODULUS : ∃ t, mg "CHECK_MODULUS" = some (Value.int (65521) t)
  c_CHECK_OCTETS : ∃ t, mg "CHECK_OCTETS" = some (Value.int (2) t)
  c_LEAST_FRAME : ∃ t, mg "LEAST_FRAME" = some (Value.int (4) t)
  c_EVENT_LIMIT : ∃ t, mg "EVENT_LIMIT" = some (Value.int (16) t)
  c_PLACE_OCTETS : ∃ t, mg "PLACE_OCTETS" = some (Value.int (4) t)
  c_TURN_OCTETS : ∃ t, mg "TURN_OCTETS" = some (Value.int (2) t)
  c_DATA_HEAD : ∃ t, mg "DATA_HEAD" = some (Value.int (7) t)
  c_ACK_BODY : ∃ t, mg "ACK_BODY" = some (Value.int (8) t)
  c_ASK_BODY : ∃ t, mg "ASK_BODY" = some (Value.int (2) t)
  c_NO_EVENT : ∃ t, mg "NO_EVENT" = some (Value.int (-13) t)
  c_IS_NO_FRAME : ∃ t, mg "IS_NO_FRAME" = some (Value.int (0) t)
  c_IS_DATA : ∃ t, mg "IS_DATA" = some (Value.int (1) t)
  c_IS_ACK : ∃ t, mg "IS_ACK" = some (Value.int (2) t)
  c_IS_ASK : ∃ t, mg "IS_ASK" = some (Value.int (3) t)
  c_TO_STATION : ∃ t, mg "TO_STATION" = some (Value.int (0) t)
  c_TO_MACHINE : ∃ t, mg "TO_MACHINE" = some (Value.int (1) t)
  c_NET_LIMIT : ∃ t, mg "NET_LIMIT" = some (Value.int (200) t)
  c_OUT_OF_RANGE : ∃ t, mg "OUT_OF_RANGE" = some (Value.int (-1) t)
  c_NOTHING_OPEN : ∃ t, mg "NOTHING_OPEN" = some (Value.int (-2) t)
  c_NO_MACHINE : ∃ t, mg "NO_MACHINE" = some (Value.int (-3) t)
  c_NO_PACKET : ∃ t, mg "NO_PACKET" = some (Value.int (-4) t)
  c_OPEN_ALREADY : ∃ t, mg "OPEN_ALREADY" = some (Value.int (-5) t)
  c_NO_POWER : ∃ t, mg "NO_POWER" = some (Value.int (-6) t)
  c_LOG_FULL : ∃ t, mg "LOG_FULL" = some (Value.int (-7) t)
  c_NET_FULL : ∃ t, mg "NET_FULL" = some (Value.int (-8) t)
  c_SPOILED_ALREADY : ∃ t, mg "SPOILED_ALREADY" = some (Value.int (-9) t)
  c_NO_BYTE : ∃ t, mg "NO_BYTE" = some (Value.int (-10) t)
  c_HAS_POWER : ∃ t, mg "HAS_POWER" = some (Value.int (-11) t)
  c_LAST_TURN : ∃ t, mg "LAST_TURN" = some (Value.int (-12) t)
  c_LOG_LIMIT : ∃ t, mg "LOG_LIMIT" = some (Value.int (200) t)
  c_TURN_LIMIT : ∃ t, mg "TURN_LIMIT" = some (Value.int (50) t)
  b_len : mg "len" = none
  b_range : mg "range" = none
  b_enumerate : mg "enumerate" = none
  b_min : mg "min" = none
  b_max : mg "max" = none
  b_zip : mg "zip" = none
  b_all : mg "all" = none
  b_list : mg "list" = none
  b_any : mg "any" = none
  b_sum : mg "sum" = none
  b_int : mg "int" = none
  check_of : FnT K mg "check_of" s_check_of p_check_of a.f_check_of a.d_check_of
  number_to_octets : FnT K mg "number_to_octets" s_number_to_octets p_number_to_octets a.f_number_to_octets a.d_number_to_octets
  octets_to_number : FnT K mg "octets_to_number" s_octets_to_number p_octets_to_number a.f_octets_to_number a.d_octets_to_number
  body_of : FnT K mg "body_of" s_body_of p_body_of a.f_body_of a.d_body_of
  make_frame : FnT K mg "make_frame" s_make_frame p_make_frame a.f_make_frame a.d_make_frame
  read_data : FnT K mg "read_data" s_read_data p_read_data a.f_read_data a.d_read_data
  read_body : FnT K mg "read_body" s_read_body p_read_body a.f_read_body a.d_read_body
  read_frame : FnT K mg "read_frame" s_read_frame p_read_frame a.f_read_frame a.d_read_frame
  counted : FnT K mg "counted" s_counted p_counted a.f_counted a.d_counted
  look_at_net : FnT K mg "look_at_net" s_look_at_net p_look_at_net a.f_look_at_net a.d_look_at_net
  look_at_packet : FnT K mg "look_at_packet" s_look_at_packet p_look_at_packet a.f_look_at_packet a.d_look_at_packet
  look_at_sender : FnT K mg "look_at_sender" s_look_at_sender p_look_at_sender a.f_look_at_sender a.d_look_at_sender
  look_at_station : FnT K mg "look_at_station" s_look_at_station p_look_at_station a.f_look_at_station a.d_look_at_station
  event_at : FnT K mg "event_at" s_event_at p_event_at a.f_event_at a.d_event_at
  look_at_copy : FnT K mg "look_at_copy" s_look_at_copy p_look_at_copy a.f_look_at_copy a.d_look_at_copy
  look_at_event : FnT K mg "look_at_event" s_look_at_event p_look_at_event a.f_look_at_event a.d_look_at_event
  look_whether_whole : FnT K mg "look_whether_whole" s_look_whether_whole p_look_whether_whole a.f_look_whether_whole a.d_look_whether_whole
  look_at_frame : FnT K mg "look_at_frame" s_look_at_frame p_look_at_frame a.f_look_at_frame a.d_look_at_frame
  look_at_totals : FnT K mg "look_at_totals" s_look_at_totals p_look_at_totals a.f_look_at_totals a.d_look_at_totals
  look : FnT K mg "look" s_look p_look a.f_look a.d_look
  send : FnT K mg "send" s_send p_send a.f_send a.d_send
  send_ask : FnT K mg "send_ask" s_send_ask p_send_ask a.f_send_ask a.d_send_ask
  pump : FnT K mg "pump" s_pump p_pump a.f_pump a.d_pump
  log_event : FnT K mg "log_event" s_log_event p_log_event a.f_log_event a.d_log_event
  station_acks : FnT K mg "station_acks" s_station_acks p_station_acks a.f_station_acks a.d_station_acks
  find_aside : FnT K mg "find_aside" s_find_aside p_find_aside a.f_find_aside a.d_find_aside
  take_in : FnT K mg "take_in" s_take_in p_take_in a.f_take_in a.d_take_in
  data_at_station : FnT K mg "data_at_station" s_data_at_station p_data_at_station a.f_data_at_station a.d_data_at_station
  ack_at_machine : FnT K mg "ack_at_machine" s_ack_at_machine p_ack_at_machine a.f_ack_at_machine a.d_ack_at_machine
  arrive_at_station : FnT K mg "arrive_at_station" s_arrive_at_station p_arrive_at_station a.f_arrive_at_station a.d_arrive_at_station
  arrive_at_machine : FnT K mg "arrive_at_machine" s_arrive_at_machine p_arrive_at_machine a.f_arrive_at_machine a.d_arrive_at_machine
  arrive : FnT K mg "arrive" s_arrive p_arrive a.f_arrive a.d_arrive
  tick_machine : FnT K mg "tick_machine" s_tick_machine p_tick_machine a.f_tick_machine a.d_tick_machine
  tick : FnT K mg "tick" s_tick p_tick a.f_tick a.d_tick
  calm_round : FnT K mg "calm_round" s_calm_round p_calm_round a.f_calm_round a.d_calm_round
  open_ward : FnT K mg "open_ward" s_open_ward p_open_ward a.f_open_ward a.d_open_ward
  add_to_log : FnT K mg "add_to_log" s_add_to_log p_add_to_log a.f_add_to_log a.d_add_to_log
  tick_often : FnT K mg "tick_often" s_tick_often p_tick_often a.f_tick_often a.d_tick_often
  deliver_packet : FnT K mg "deliver_packet" s_deliver_packet p_deliver_packet a.f_deliver_packet a.d_deliver_packet
  drop_packet : FnT K mg "drop_packet" s_drop_packet p_drop_packet a.f_drop_packet a.d_drop_packet
  double_packet : FnT K mg "double_packet" s_double_packet p_double_packet a.f_double_packet a.d_double_packet
  spoil_packet : FnT K mg "spoil_packet" s_spoil_packet p_spoil_packet a.f_spoil_packet a.d_spoil_packet
  cut_power : FnT K mg "cut_power" s_cut_power p_cut_power a.f_cut_power a.d_cut_power
  bring_back : FnT K mg "bring_back" s_bring_back p_bring_back a.f_bring_back a.d_bring_back
  lose_copy : FnT K mg "lose_copy" s_lose_copy p_lose_copy a.f_lose_copy a.d_lose_copy
  blink_station : FnT K mg "blink_station" s_blink_station p_blink_station a.f_blink_station a.d_blink_station
  calm_down : FnT K mg "calm_down" s_calm_down p_calm_down a.f_calm_down a.d_calm_down
  count_numbers : FnT K mg "count_numbers" s_count_numbers p_count_numbers a.f_count_numbers a.d_count_numbers
  has_row : FnT K mg "has_row" s_has_row p_has_row a.f_has_row a.d_has_row
  in_ranges : FnT K mg "in_ranges" s_in_ranges p_in_ranges a.f_in_ranges a.d_in_ranges
  common_refusal : FnT K mg "common_refusal" s_common_refusal p_common_refusal a.f_common_refusal a.d_common_refusal
  perform : FnT K mg "perform" s_perform p_perform a.f_perform a.d_perform
  answers : FnT K mg "answers" s_answers p_answers a.f_answers a.d_answers
  Packet : ClT K mg "Packet" "Packet.__init__" s_Packet_init p_Packet_init a.c_Packet a.f_Packet_init a.d_Packet_init
  n_Packet_goes_to : NoAttr K a.c_Packet "goes_to"
  n_Packet_machine : NoAttr K a.c_Packet "machine"
  n_Packet_octets : NoAttr K a.c_Packet "octets"
  n_Packet_spoiled : NoAttr K a.c_Packet "spoiled"
  Machine : ClT K mg "Machine" "Machine.__init__" s_Machine_init p_Machine_init a.c_Machine a.f_Machine_init a.d_Machine_init
  n_Machine_log : NoAttr K a.c_Machine "log"
  n_Machine_power : NoAttr K a.c_Machine "power"
  n_Machine_turn : NoAttr K a.c_Machine "turn"
  n_Machine_acked : NoAttr K a.c_Machine "acked"
  n_Machine_next_place : NoAttr K a.c_Machine "next_place"
  n_Machine_timer : NoAttr K a.c_Machine "timer"
  Desk : ClT K mg "Desk" "Desk.__init__" s_Desk_init p_Desk_init a.c_Desk a.f_Desk_init a.d_Desk_init
  n_Desk_turn : NoAttr K a.c_Desk "turn"
  n_Desk_copied : NoAttr K a.c_Desk "copied"
  n_Desk_aside : NoAttr K a.c_Desk "aside"
  Ward : ClT K mg "Ward" "Ward.__init__" s_Ward_init p_Ward_init a.c_Ward a.f_Ward_init a.d_Ward_init
  n_Ward_machines : NoAttr K a.c_Ward "machines"
  n_Ward_desks : NoAttr K a.c_Ward "desks"
  n_Ward_window : NoAttr K a.c_Ward "window"
  n_Ward_wait : NoAttr K a.c_Ward "wait"
  n_Ward_packets : NoAttr K a.c_Ward "packets"
  n_Ward_lost : NoAttr K a.c_Ward "lost"
  n_Ward_bad : NoAttr K a.c_Ward "bad"
  n_Ward_again : NoAttr K a.c_Ward "again"
  n_Ward_news : NoAttr K a.c_Ward "news"
  g_LOOKS : mg "LOOKS" = some (Value.ref a.t_LOOKS)
  g_RANGES : mg "RANGES" = some (Value.ref a.t_RANGES)
  g_ROW_LIMITS : mg "ROW_LIMITS" = some (Value.ref a.t_ROW_LIMITS)
  g_FREE_CALLS : mg "FREE_CALLS" = some (Value.ref a.t_FREE_CALLS)
  g_MACHINE_CALLS : mg "MACHINE_CALLS" = some (Value.ref a.t_MACHINE_CALLS)
  g_PACKET_CALLS : mg "PACKET_CALLS" = some (Value.ref a.t_PACKET_CALLS)
  g_HANDLERS : mg "HANDLERS" = some (Value.ref a.t_HANDLERS)
end Nw
end
section
set_option Elab.async false
set_option linter.all false
set_option maxRecDepth 100000
set_option maxHeartbeats 2000000
namespace Nw
open PySem PySem.Spec PyProof.Rows L2
def bV (b : List Nat) : List V := b.map fun (n : Nat) => V.int (n : Int)
theorem bV_get {b : List Nat} {i : Nat} {x : V} (h : (bV b)[i]? = some x) : ∃ n, b[i]? = some n ∧ x = .int (n : Int) := by
  unfold bV at h
  rw [List.getElem?_map] at h
  cases e : b[i]? with
  | none => rw [e] at h; cases h
  | some n => rw [e] at h; exact ⟨n, rfl, (Option.some.inj h).symm⟩
theorem bV_len (b : List Nat) : (bV b).length = b.length := by unfold bV; rw [List.length_map]
theorem take_snoc {α : Type} : ∀ {l : List α} {i : Nat} {x : α}, l[i]? = some x → l.take (i + 1) = l.take i ++ [x]
  | [], i, x, h => by simp at h
  | a :: l, 0, x, h => by
    have e : a = x := Option.some.inj h
    subst e
    rfl
  | a :: l, i + 1, x, h => by
    have ih := take_snoc (l := l) (i := i) (x := x) h
    show a :: l.take (i + 1) = a :: l.take i ++ [x]
    rw [ih]
    rfl
theorem upd_upd {H : Hp} {p : Addr} {o u : HO} : upd (upd H p o) p u = upd H p u := by
  funext b
  by_cases h : b = p
  · subst h; rw [upd_same, upd_same]
  · rw [upd_ne h, upd_ne h, upd_ne h]
section
variable {P : Program} {w : World} {K : PySem.W.Frag} {mg : Str → Option Value} {base : Heap} {a : Adr}
def sp_octets_to_number (K : PySem.W.Frag) : Sp := fun vs H Q _ => ∃ (l : Addr) (b : List Nat), vs = [.ref l] ∧ SqL K H l (bV b) ∧ Q (.int (Vbdlao.number b : Nat)) H
theorem number_snoc (b : List Nat) (c : Nat) : Vbdlao.number (b ++ [c]) = 256 * Vbdlao.number b + c := by
  unfold Vbdlao.number
  rw [List.foldl_append]
  rfl
theorem ok_octets_to_number (T : Txt K mg a) : FnOk P w K mg base CX0 1 a.f_octets_to_number a.d_octets_to_number p_octets_to_number (sp_octets_to_number K) := by
  refine T.octets_to_number.F.ok sc_octets_to_number (fun vs H Q E h => ?_) (fun cdv A outer s H vs Q E hr h => ?_)
  · obtain ⟨l, b, rfl, _⟩ := h
    rfl
  · obtain ⟨l, b, rfl, hS, k⟩ := h
    refine ⟨_, (pss_cons (ps_set (i := 1) sc_octets_to_number.nd rfl (Or.inl rfl) pe_int)
      (pss_cons (ps_for PassesOwn.never rfl (pi_list (pv 0)) (pg_name (i := 2) sc_octets_to_number.nd rfl (Or.inl rfl)) (pss_one (ps_set (i := 1) sc_octets_to_number.nd rfl (Or.inl rfl) (pe_op op_add (pe_op op_mul (pv 1) pe_int) (pv 2)))))
      (pss_one (ps_ret (pv 1))))), ?_⟩
    refine ⟨_, rfl, l, rfl, ⟨_, hS⟩, for_list (K := K) (a := l) (xs := bV b) (fun i σ H' => H' = H ∧ ∃ v, σ = [some (.ref l), some (.int (Vbdlao.number (b.take i) : Nat)), v]) ⟨rfl, none, rfl⟩ (fun i σ H' _ ⟨e, _⟩ => by rw [e]; exact hS) ?_ ?_⟩
    · rintro i y σ H' hi ⟨rfl, v, rfl⟩
      obtain ⟨n, hn, rfl⟩ := bV_get hi
      refine ⟨_, rfl, _, _, rfl, rfl, .inr ⟨by decide, by decide⟩, _, rfl, _, _, rfl, rfl, rfl, some (.int n), ?_⟩
      rw [take_snoc hn, number_snoc]
      have e : ((256 * Vbdlao.number (b.take i) + n : Nat) : Int) = (Vbdlao.number (b.take i) : Int) * 256 + (n : Int) := by omega
      rw [e]
      rfl
    · rintro σ H' ⟨rfl, v, rfl⟩
      refine ⟨_, rfl, ?_⟩
      rw [bV_len, List.take_length]
      exact k
def octs (k n : Nat) : List Nat := (List.range k).map fun j => n / 2 ^ (8 * (k - 1 - j)) % 256
theorem octs_two (n : Nat) : octs 2 n = Vbdlao.two n := by
  show [n / 2 ^ 8 % 256, n / 2 ^ 0 % 256] = [n / 256 % 256, n % 256]
  simp
theorem octs_four (n : Nat) : octs 4 n = Vbdlao.four n := by
  show [n / 2 ^ 24 % 256, n / 2 ^ 16 % 256, n / 2 ^ 8 % 256, n / 2 ^ 0 % 256] = [n / 16777216 % 256, n / 65536 % 256, n / 256 % 256, n % 256]
  simp
theorem octs_len (k n : Nat) : (octs k n).length = k := by unfold octs; simp
theorem octs_get {k n i : Nat} (h : i < k) : (octs k n)[i]? = some (n / 2 ^ (8 * (k - 1 - i)) % 256) := by
  unfold octs
  rw [List.getElem?_map, List.getElem?_range h]
  rfl
theorem bV_append (b c : List Nat) : bV (b ++ c) = bV b ++ bV c := by unfold bV; rw [List.map_append]
theorem Same.refl (H : Hp) : Same H H := fun _ _ e => e
theorem Same.new {H : Hp} {p : Addr} {o : HO} (h : H p = none) : Same H (upd H p o) := fun b u e => by
  rw [upd_ne (ne_of_none e h)]
  exact e
def sp_number_to_octets : Sp := fun vs H Q _ => ∃ (n k : Nat), vs = [.int n, .int k] ∧ 0 < k ∧ k ≤ 8 ∧ ∀ (p : Addr) (H' : Hp), H p = none → Same H H' → H' p = some (.lst (bV (octs k n))) → Q (.ref p) H'
theorem ok_number_to_octets (T : Txt K mg a) : FnOk P w K mg base CX0 1 a.f_number_to_octets a.d_number_to_octets p_number_to_octets sp_number_to_octets := by
  refine T.number_to_octets.F.ok sc_number_to_octets (fun vs H Q E h => ?_) (fun cdv A outer s H vs Q E hr h => ?_)
  · obtain ⟨n, k, rfl, _⟩ := h
    rfl
  · obtain ⟨n, k, rfl, hk0, hk8, q⟩ := h
    refine ⟨_, (pss_cons (ps_set (i := 2) sc_number_to_octets.nd rfl (Or.inl rfl) (pe_lst pa_nil))
      (pss_cons (ps_for PassesOwn.never rfl (pi_range3 rfl T.b_range (pa_cons (pe_op op_sub (pv 1) pe_int) (pa_cons (pe_un un_neg pe_int) (pa_cons (pe_un un_neg pe_int) pa_nil)))) (pg_name (i := 3) sc_number_to_octets.nd rfl (Or.inl rfl)) (pss_one (ps_expr (pe_bm PySem.F.plainAttrs_list PySem.F.slot_list_append PySem.F.type_list_append mt_append (pv 2) (pa_cons (pe_op op_and (pe_op op_shr (pv 0) (pe_op op_mul pe_int (pv 3))) pe_int) pa_nil)))))
      (pss_one (ps_ret (pv 2))))), ?_⟩
    refine ⟨Nat.zero_le _, fun p hp => ?_⟩
    refine ⟨_, rfl, _, _, rfl, rfl, _, rfl, _, rfl, ((k : Int) - 1), -1, -1, k, rfl, ?_, ?_⟩
    · have e := RgC.neg (i := (k : Int) - 1) (j := -1) (by omega) (by omega) (by decide) (by decide)
      have e2 : ((k : Int) - 1 - -1).toNat = k := by omega
      rw [e2] at e
      exact e
    refine for_rangeC (fun i σ H' => H' = upd H p (.lst (bV ((octs k n).take i))) ∧ ∃ v, σ = [some (.int n), some (.int k), some (.ref p), v]) ⟨rfl, none, rfl⟩ ?_ ?_
    · rintro i σ H' hi ⟨rfl, v, rfl⟩
      refine ⟨_, rfl, .inl ⟨rfl, _, SqL.of upd_same⟩, _, rfl, _, rfl, _, _, rfl, rfl, .inl ⟨by decide, by decide⟩, _, _, rfl, rfl, ?_, _, _, rfl, rfl, p, _, _, rfl, rfl, upd_same, ?_, ?_⟩
      · show (0 : Int) ≤ 8 * ((k : Int) - 1 + (i : Nat) * (-1))
        omega
      · rw [bV_len, List.length_take]
        exact Nat.lt_of_le_of_lt (Nat.min_le_left _ _) (Nat.lt_of_lt_of_le hi (Nat.le_trans hk8 (by decide)))
      · refine ⟨?_, some (.int ((k : Int) - 1 + (i : Nat) * (-1))), rfl⟩
        rw [take_snoc (octs_get hi), bV_append, upd_upd]
        congr 3
        show [V.int _] = [V.int _]
        rw [bitAnd_m8]
        have e3 : (8 * ((k : Int) - 1 + (i : Nat) * (-1))).toNat = 8 * (k - 1 - i) := by omega
        rw [e3]
        congr 2
    · rintro σ H' ⟨rfl, v, rfl⟩
      refine ⟨_, rfl, q p _ hp (Same.new hp) ?_⟩
      have e : (octs k n).take k = octs k n := List.take_of_length_le (by rw [octs_len]; exact Nat.le_refl _)
      rw [e]
      exact upd_same
end
end Nw
end
section
set_option Elab.async false
set_option linter.all false
set_option maxRecDepth 100000
set_option maxHeartbeats 2000000
namespace Nw
open PySem PySem.Spec PyProof.Rows L2
section
variable {prog : Program} {w : World} {A : Around} {E : Value → Shared → Prop} {s : Shared}
theorem kwt_weight (T : String) (xs : List Value) (ks : List (Str × Value)) : (Code.builtin "type.__call__" ⟨.type T :: xs, ks⟩).weight = 0 := rfl
theorem kwt_units (T : String) (xs : List Value) (ks : List (Str × Value)) : (Code.builtin "type.__call__" ⟨.type T :: xs, ks⟩).cUnits = 1 := rfl
theorem kwt_meets {T nid iid : String} {Bn Bi : Builtin} {xs : List Value} {ks : List (Str × Value)} {S : PySem.Spec} {Q Qn : Value → Shared → Prop} (ft : TypeCalled T nid iid)
    (hct : checkTypeCall T ⟨xs, ks⟩ = pure ()) (hcn : checkBuiltinCall nid ⟨.type T :: xs, ks⟩ = pure ()) (en : entryFor table nid = some Bn) (ei : entryFor table iid = some Bi)
    (g : Meets (Bn ⟨.type T :: xs, ks⟩) S) (h : S A.in1 (wants Qn E) s)
    (hx : ∀ ob s1, Qn ob s1 → s1.TypeIs ob T ∧ argsOk iid ⟨ob :: xs, ks⟩ ∧ ∃ Si, Meets (Bi ⟨ob :: xs, ks⟩) Si ∧ Si A.in1 (wants (fun r s2 => r = .none ∧ Q ob s2) E) s1) :
    wpAny (model prog w) A (call (.type T) xs ks) Q E s := by
  obtain ⟨c0, tl0, hm0⟩ := ft.mro
  have hma := ft.made
  have hsu := ft.sub
  refine wpAny_call (codeAny_of_tree (show wpAny _ _ (callAny (.type T) _) _ _ _ from ?_))
  refine wpAny_pure ⟨Code.quiet_builtin _ (by decide +kernel), codeAny_builtin F.entry_type_call (?_)⟩
  rw [Around.under_plain (kwt_weight T xs ks) (kwt_units T xs ks)]
  have hn1 := ft.notType
  have hc2 := ft.canCreate
  repeat (any_goals (first | assumption | wp_step))
  refine codeAny_mono (codeAny_call_builtin ft.plain en (wpAny_of_eq hcn (g prog w A.in1 _ s h))) fun r1 s1 q1 => ?_
  cases r1 with
  | error e => exact q1
  | ok f1 =>
    cases f1 with
    | ret ob =>
      obtain ⟨hT, hok, Si, gi, hsi⟩ := hx _ _ q1
      have hl1 := ft.init.lookup
      have hb1 := ft.init.bind ob
      repeat (any_goals (first | assumption | wp_step))
      refine codeAny_mono (codeAny_call_builtin ft.init.plain ei (ft.init.check _ _ _ _ _ _ _ _ hT hok (gi prog w A.in1 _ s1 hsi))) fun r2 s2 q2 => ?_
      cases r2 with
      | error e => exact q2
      | ok f2 =>
        cases f2 with
        | ret r =>
          obtain ⟨e, hq⟩ := q2
          subst e
          repeat (any_goals (first | assumption | wp_step))
        | _ => exact q2.elim
    | _ => exact q1.elim
theorem kwt_init {T nid : String} {self x : Value} {rest : List Value} {ks : List (Str × Value)} (hl : typeLookup (.type T) "__init__" = pure (some (.builtin "object.__init__")))
    (hm : Bind.madeBy (.type T) = pure (some nid)) (hne : (some nid != some "object.__new__") = true) :
    Meets (Builtin.«object.__init__» ⟨self :: x :: rest, ks⟩) (fun _ R s => s.TypeIs self T ∧ R (.ok (.ret .none)) s) := by
  refine Meets.of_wp fun prog w A R s hs => ?_
  obtain ⟨hT, hq⟩ := hs
  repeat (any_goals (first | assumption | wp_step))
  exact ⟨_, rfl, hq⟩
theorem enS_type (a b : Value) : checkTypeCall "enumerate" ⟨[a], [("start", b)]⟩ = pure () := by kernel_rfl
theorem enS_new (a b : Value) : checkBuiltinCall "enumerate.__new__" ⟨[.type "enumerate", a], [("start", b)]⟩ = pure () := by kernel_rfl
theorem enS_args (ob a b : Value) : argsOk "object.__init__" ⟨[ob, a], [("start", b)]⟩ := by first | (intro h; kernel_rfl) | kernel_rfl | exact F.args_object_init_2 _ _
theorem enS_meets (l : Addr) (xs : Array Value) (n : Nat) (dc : Option Addr) (sl : Array (Option Value)) (t : Tok) :
    Meets (Builtin.«enumerate.__new__» ⟨[.type "enumerate", .ref l], [("start", .int 1 t)]⟩) (fun _ R s => s.heap.get? l = some { cls := .type "list", dict := dc, data := .seq xs n, slots := sl } ∧
      R (.ok (.ret (.ref (s.heap.push { cls := .type "list_iterator", data := .fields #[.ref l, .int 0 0] }).objs.size)))
        { s with heap := (s.heap.push { cls := .type "list_iterator", data := .fields #[.ref l, .int 0 0] }).push { cls := .type "enumerate", data := .fields #[.none, .bool false, .ref s.heap.objs.size, rawInt 1, .none, .none] } }) :=
  .of_wp fun prog w A R s h => by
    obtain ⟨hp, gg, dd, tk, os⟩ := s
    obtain ⟨hl, h⟩ := h
    have hsu := F.called_enumerate.sub
    have hL : Heap.IsList (Shared.heap ⟨hp, gg, dd, tk, os⟩) l xs := ⟨_, hl, rfl, n, rfl⟩
    wp_walk using AutoSeq1.wpAny_loadPart' hl
    refine wpAny_stack_any fun st => wpAny_pure ?_
    split
    · rename_i c _ _ _ _ _
      cases (c == Value.type "enumerate")
      · wp_walk using AutoSeq1.wpAny_loadPart' hl, wpAny_pyIter_list hL
        exact ⟨_, rfl, h⟩
      · wp_walk using AutoSeq1.wpAny_loadPart' hl, wpAny_pyIter_list hL
        exact ⟨_, rfl, h⟩
    · wp_walk using AutoSeq1.wpAny_loadPart' hl, wpAny_pyIter_list hL
      exact ⟨_, rfl, h⟩
theorem enS_call {l : Addr} {xs : Array Value} {t : Tok} {Q : Value → Shared → Prop} (hL : s.heap.IsList l xs)
    (h : ∀ h', IsEnum h' (s.heap.objs.size + 1) s.heap.objs.size 1 .none → h'.IsListIter s.heap.objs.size l 0 → (∀ b o, s.heap.get? b = some o → h'.get? b = some o) → Q (.ref (s.heap.objs.size + 1)) { s with heap := h' }) :
    wpAny (model prog w) A (call (.type "enumerate") [.ref l] [("start", .int 1 t)]) Q E s := by
  obtain ⟨⟨c0, dc0, dt0, sl0⟩, hl, hc, n0, hd⟩ := hL
  replace hc : c0 = .type "list" := hc
  replace hd : dt0 = .seq xs n0 := hd
  subst hc hd
  refine kwt_meets F.called_enumerate (enS_type _ _) (enS_new _ _) F.entry_enumerate_new F.entry_object_init (enS_meets l xs n0 dc0 sl0 t)
    (Qn := fun ob s1 => s1.TypeIs ob "enumerate" ∧ Q ob s1) ⟨hl, ?_⟩ fun ob s1 hq => ⟨hq.1, enS_args ob _ _, _, kwt_init F.called_enumerate.init.lookup F.called_enumerate.made (by decide), hq.1, rfl, hq.2⟩
  have hz : (s.heap.push { cls := .type "list_iterator", data := .fields #[.ref l, .int 0 0] }).objs.size = s.heap.objs.size + 1 := Heap.size_push ..
  show _ ∧ _
  rw [hz]
  have he : IsEnum ((s.heap.push { cls := .type "list_iterator", data := .fields #[.ref l, .int 0 0] }).push
      { cls := .type "enumerate", data := .fields #[.none, .bool false, .ref s.heap.objs.size, rawInt 1, .none, .none] }) (s.heap.objs.size + 1) s.heap.objs.size 1 .none := by
    have e := Heap.get?_push_size (s.heap.push { cls := .type "list_iterator", data := .fields #[.ref l, .int 0 0] })
      (o := { cls := .type "enumerate", data := .fields #[.none, .bool false, .ref s.heap.objs.size, rawInt 1, .none, .none] }) rfl
    rw [hz] at e
    exact e
  exact ⟨⟨_, he, rfl⟩, h _ he ⟨_, Heap.get?_push_of_some _ (Heap.get?_push_size _ rfl), rfl, rfl⟩ fun b o x => Heap.get?_push_of_some _ (Heap.get?_push_of_some _ x)⟩
end
section
variable {prog : Program} {w : World} {A : Around} {E : Value → Shared → Prop} {s : Shared}
theorem enJ_next {en ir ls : Addr} {jc : Int} {i : Nat} {ys : Array Value} {vx vo : Value} {Q : Value → Shared → Prop}
    (hen : IsEnum s.heap en ir jc vo) (hir : s.heap.IsListIter ir ls i) (hls : s.heap.IsList ls ys) (hvx : ys[i]? = some vx) (hnq : en ≠ ir)
    (hgo : ∀ h', IsEnumOut h' en ir (jc + 1) vx s.heap.objs.size → h'.IsListIter ir ls (i + 1) →
      h'.get? s.heap.objs.size = some { cls := .type "tuple", data := .seq #[.int jc s.toks, vx] } → h'.objs.size = s.heap.objs.size + 1 →
      (∀ bb oo, bb ≠ en → bb ≠ ir → s.heap.get? bb = some oo → h'.get? bb = some oo) → Q (.ref s.heap.objs.size) { s with heap := h', toks := s.toks + 1 }) :
    wpAny (model prog w) A (Builtin.«enumerate.__next__» ⟨[.ref en], []⟩) (fun fin s' => ∃ v, fin = .done (.ret v) ∧ Q v s') E s := by
  obtain ⟨hq0, g0, d0, t0, o0⟩ := s
  show wpAny _ _ (field (.ref en) 2 >>= _) _ _ _
  refine wpAny_bind (wpAny_field hen rfl (x := .ref ir) rfl ?_)
  refine wpAny_bind (wpAny_nextOf_list_item hir hls hvx fun k1 hitx1 hsx1 => ?_)
  replace hsx1 : Heap.SameBut ir hq0 k1 := hsx1
  have hex1 : IsEnum k1 en ir jc vo := (hsx1.2 en hnq).trans hen
  show wpAny _ _ (field (.ref en) 3 >>= _) _ _ ⟨k1, g0, d0, t0, o0⟩
  refine wpAny_bind (wpAny_field hex1 rfl (x := rawInt jc) rfl ?_)
  show wpAny _ _ (field (.ref en) 4 >>= _) _ _ ⟨k1, g0, d0, t0, o0⟩
  refine wpAny_bind (wpAny_field hex1 rfl (x := .none) rfl ?_)
  show wpAny _ _ (mkInt jc >>= _) _ _ ⟨k1, g0, d0, t0, o0⟩
  refine wpAny_bind (wpAny_mkInt ?_)
  show wpAny _ _ (setField (.ref en) 3 (rawInt (jc + 1)) >>= _) _ _ ⟨k1, g0, d0, t0 + 1, o0⟩
  refine wpAny_bind (wpAny_setField_rec hex1 (by simp) fun k2 hex2 hsx2 => ?_)
  replace hsx2 : Heap.SameBut en k1 k2 := hsx2
  replace hex2 : IsEnum k2 en ir (jc + 1) vo := hex2
  show wpAny _ _ (setField (.ref en) 4 .none >>= _) _ _ ⟨k2, g0, d0, t0 + 1, o0⟩
  refine wpAny_bind (wpAny_setField_rec hex2 (by simp) fun k3 hex3 hsx3 => ?_)
  replace hsx3 : Heap.SameBut en k2 k3 := hsx3
  replace hex3 : IsEnum k3 en ir (jc + 1) vo := hex3
  show wpAny _ _ (newTuple [.int jc t0, vx] >>= _) _ _ ⟨k3, g0, d0, t0 + 1, o0⟩
  refine wpAny_bind (wpAny_newTuple ?_)
  have hex4 : IsEnum (k3.push { cls := .type "tuple", data := .seq #[.int jc t0, vx] }) en ir (jc + 1) vo := Heap.get?_push_of_some _ hex3
  generalize hhx4 : k3.push { cls := .type "tuple", data := .seq #[.int jc t0, vx] } = k4 at hex4
  have hzz : k3.objs.size = hq0.objs.size := by rw [hsx3.1, hsx2.1, hsx1.1]
  have hll : en < hq0.objs.size := Heap.lt_size hen
  have htx4 : k4.get? hq0.objs.size = some { cls := .type "tuple", data := .seq #[.int jc t0, vx] } := by rw [← hhx4, ← hzz]; exact Heap.get?_push_size _ rfl
  have hzx4 : k4.objs.size = hq0.objs.size + 1 := by rw [← hhx4, Heap.size_push, hzz]
  have hkx4 : ∀ bb oo, bb ≠ en → bb ≠ ir → hq0.get? bb = some oo → k4.get? bb = some oo := fun bb oo hbn hbr hbb => by
    rw [← hhx4]; exact Heap.get?_push_of_some _ (hsx3.extBut bb oo hbn (hsx2.extBut bb oo hbn (hsx1.extBut bb oo hbr hbb)))
  have hitx4 : k4.IsListIter ir ls (i + 1) := by
    rw [← hhx4]; obtain ⟨oo, ho, r⟩ := (hitx1.extBut hsx2.extBut (Ne.symm hnq)).extBut hsx3.extBut (Ne.symm hnq); exact ⟨oo, Heap.get?_push_of_some _ ho, r⟩
  show wpAny _ _ (Builtin.SmallTypes.ownedTupleIsFree (.ref en) >>= _) _ _ ⟨k4, g0, d0, t0 + 1, o0⟩
  rw [hzz]
  clear hhx4 hex3 hsx3 hex2 hsx2 hex1 hsx1 hitx1 hzz k3 k2 k1
  refine wpAny_bind ?_
  · unfold Builtin.SmallTypes.ownedTupleIsFree
    refine wpAny_bind (wpAny_field hex4 rfl (x := .none) rfl (wpAny_pure ?_))
    simp only [if_true]
    refine wpAny_bind (wpAny_rule ?_)
    refine wpAny_bind (wpAny_field hex4 rfl (x := vo) rfl ?_)
    refine wpAny_bind (wpAny_setField_rec hex4 (by simp) fun k5 hex5 hsx5 => ?_)
    replace hsx5 : Heap.SameBut en k4 k5 := hsx5
    replace hex5 : IsEnum k5 en ir (jc + 1) vx := hex5
    show wpAny _ _ (Builtin.SmallTypes.ownedTupleHandOut (.ref en) (.ref hq0.objs.size) >>= _) _ _ ⟨k5, g0, d0, t0 + 1, o0⟩
    refine wpAny_bind ?_
    · unfold Builtin.SmallTypes.ownedTupleHandOut
      refine wpAny_bind (wpAny_setField_rec hex5 (by simp) fun k6 hex6 hsx6 => ?_)
      replace hsx6 : Heap.SameBut en k5 k6 := hsx6
      replace hex6 : IsEnumOut k6 en ir (jc + 1) vx hq0.objs.size := hex6
      refine wpAny_setField_rec hex6 (by simp) fun k7 hex7 hsx7 => ?_
      replace hsx7 : Heap.SameBut en k6 k7 := hsx7
      replace hex7 : IsEnumOut k7 en ir (jc + 1) vx hq0.objs.size := hex7
      refine wpAny_bind (wpAny_letGo (wpAny_pure ⟨_, rfl, hgo k7 hex7 ?_ ?_ ?_ ?_⟩))
      · exact ((hitx4.extBut hsx5.extBut (Ne.symm hnq)).extBut hsx6.extBut (Ne.symm hnq)).extBut hsx7.extBut (Ne.symm hnq)
      · exact hsx7.extBut _ _ (Nat.ne_of_gt hll) (hsx6.extBut _ _ (Nat.ne_of_gt hll) (hsx5.extBut _ _ (Nat.ne_of_gt hll) htx4))
      · rw [hsx7.1, hsx6.1, hsx5.1, hzx4]
      · exact fun bb oo hbn hbr hbb => hsx7.extBut bb oo hbn (hsx6.extBut bb oo hbn (hsx5.extBut bb oo hbn (hkx4 bb oo hbn hbr hbb)))
theorem enJ_item {en ir ls : Addr} {jc : Int} {i : Nat} {ys : Array Value} {vx vo : Value} {Q : Option Value → Shared → Prop}
    (hen : IsEnum s.heap en ir jc vo) (hir : s.heap.IsListIter ir ls i) (hls : s.heap.IsList ls ys) (hvx : ys[i]? = some vx) (hnq : en ≠ ir)
    (hgo : ∀ h', IsEnumOut h' en ir (jc + 1) vx s.heap.objs.size → h'.IsListIter ir ls (i + 1) →
      h'.get? s.heap.objs.size = some { cls := .type "tuple", data := .seq #[.int jc s.toks, vx] } → h'.objs.size = s.heap.objs.size + 1 →
      (∀ bb oo, bb ≠ en → bb ≠ ir → s.heap.get? bb = some oo → h'.get? bb = some oo) → Q (some (.ref s.heap.objs.size)) { s with heap := h', toks := s.toks + 1 }) :
    wpAny (model prog w) A (pyNext (.ref en)) Q E s := by
  have hTy : s.TypeIs (.ref en) "enumerate" := ⟨_, hen, rfl⟩
  unfold pyNext
  exact wpAny_bind (wpAny_attempt (wpAny_callSpecial?_slot (name := Str.ofString "__next__") hTy F.slot_enumerate_next
    (wpAny_call_entry F.slot_enumerate_next hTy F.entry_enumerate_next
      (enJ_next hen hir hls hvx hnq fun h' a bb c d0 k => wpAny_pure (hgo h' a bb c d0 k)) (F.args_enumerate_next_1 _))))
theorem enJ_end {en ir ls : Addr} {jc : Int} {i : Nat} {ys : Array Value} {vo : Value} {Q : Option Value → Shared → Prop} (hhd : A.handled = none)
    (hen : IsEnum s.heap en ir jc vo) (hir : s.heap.IsListIter ir ls i) (hls : s.heap.IsList ls ys) (hvx : ys[i]? = none)
    (hgo : ∀ h', Heap.ExtBut ir s.heap h' → Q none { s with heap := h' }) : wpAny (model prog w) A (pyNext (.ref en)) Q E s := by
  have hTy : s.TypeIs (.ref en) "enumerate" := ⟨_, hen, rfl⟩
  unfold pyNext
  refine wpAny_bind (wpAny_attempt (wpAny_callSpecial?_slot (name := Str.ofString "__next__") hTy F.slot_enumerate_next
    (wpAny_call_entry F.slot_enumerate_next hTy F.entry_enumerate_next ?_ (F.args_enumerate_next_1 _))))
  show wpAny _ _ (field (.ref en) 2 >>= _) _ _ _
  refine wpAny_bind (wpAny_field hen rfl (x := .ref ir) rfl ?_)
  refine wpAny_bind (wpAny_nextOf_list_end hhd hir hls hvx fun h' vx he' hx' => ?_)
  obtain ⟨oo, ho, hc⟩ := hx'
  refine wpAny_bind (wpAny_isInstance (T := "StopIteration") (b := true) ⟨oo, ho, hc⟩ isSubtype_stop ?_)
  exact wpAny_pure (hgo _ he')
end
def Ite1 (K : PySem.W.Frag) (a : Addr) : It :=
  ⟨fun i H => ∃ (xs : List V) (x : V), SqL K H a xs ∧ xs[i]? = some x, fun i H v H' => ∃ T x, v = .ref T ∧ H T = none ∧ H' = upd H T (.tup [.int ((i : Nat) + 1 : Int), x]) ∧ ∀ xs, SqL K H a xs → xs[i]? = some x, fun i H => ∃ xs : List V, SqL K H a xs ∧ xs.length ≤ i⟩
theorem turn_enum1 {P : Program} {w : World} {K : PySem.W.Frag} {elts : List Expr} {kk : Nat} {tpos : Pos} (a e it : Addr) :
    Turn P w K (.Tuple elts kk tpos) (Ite1 K a) [e, it] e (fun i h => (∃ old, IsEnum h e it ((i : Nat) + 1 : Int) old) ∧ h.IsListIter it a i ∧ e ≠ it) where
  mem := by simp
  obj := fun i h st b hb => by
    obtain ⟨⟨old, he⟩, ⟨o, ho, hc, hd⟩, _⟩ := st
    have e' : b = e ∨ b = it := by simpa using hb
    rcases e' with z | z
    · rw [z]; exact ⟨_, he, fun v q => nomatch q⟩
    · rw [z]; exact ⟨o, ho, fun v q => by rw [hd] at q; cases q⟩
  keep := fun i h h' st k => let ⟨⟨old, he⟩, hi, hne⟩ := st; ⟨⟨old, k e (by simp) _ he⟩, hi.at fun o q => k it (by simp) o q, hne⟩
  item := by
    intro X hP hw hK hc i pins s σ H E I hf st hg
    subst hP hw hK
    obtain ⟨⟨old, he⟩, hit, hne⟩ := st
    obtain ⟨xs, x, hq, hx⟩ := hg
    obtain ⟨its, rv, p, hz⟩ := I.list hq
    obtain ⟨u, hu, ru⟩ := rv.get hx
    have hel : e < s.heap.objs.size := Heap.lt_size he
    have hil : it < s.heap.objs.size := by obtain ⟨_, q, _⟩ := hit; exact Heap.lt_size q
    refine enJ_item he hit p.isList (vx := u) (by simpa using hu) hne fun h' ho hit' hT hsz hk => ?_
    refine ⟨_, rfl, wpAny_letOwnedTupleGo_enum (s := { s with heap := h', toks := s.toks + 1 }) ho fun h'' he' sb => ?_⟩
    have hT2 : h''.get? s.heap.objs.size = some { cls := .type "tuple", data := .seq #[.int ((i : Nat) + 1 : Int) s.toks, u] } := (sb.2 _ (Nat.ne_of_gt hel)).trans hT
    have new : ObjOk X.prog X.w (upd H s.heap.objs.size (.tup [.int ((i : Nat) + 1 : Int), x])) h'' s.heap.objs.size (.tup [.int ((i : Nat) + 1 : Int), x]) :=
      ⟨by show 2 ≤ sizeLine; decide, [.int ((i : Nat) + 1 : Int) s.toks, u], .cons ⟨_, rfl⟩ (.cons ru .nil), ⟨_, hT2, rfl, _, rfl⟩⟩
    have I1 : Inv X pins σ (upd H s.heap.objs.size (.tup [.int ((i : Nat) + 1 : Int), x])) { s with heap := h'', toks := s.toks + 1 } :=
      I.turnedNew (ch := [e, it]) (fun b ob hb q => (sb.2 b (fun z => hb (by simp [z]))).trans (hk b ob (fun z => hb (by simp [z])) (fun z => hb (by simp [z])) q)) hf (Nat.le_refl _) new
    refine ⟨.ref s.heap.objs.size, _, I1, rfl, ⟨_, x, rfl, I.hok.fresh (Nat.le_refl _), rfl, fun ys hy => by rw [I.list_inj hy hq]; exact hx⟩, ⟨⟨u, ?_⟩, hit'.at fun o q => (sb.2 it (Ne.symm hne)).trans q, hne⟩, fun b hb => ?_⟩
    · have e1 : (((i + 1 : Nat) : Int) + 1) = ((i : Nat) + 1 : Int) + 1 := by omega
      rw [e1]; exact he'
    · have hb' : b < s.heap.objs.size := by
        have e' : b = e ∨ b = it := by simpa using hb
        rcases e' with z | z
        · rw [z]; exact hel
        · rw [z]; exact hil
      rw [upd_ne (Nat.ne_of_lt hb')]
      exact (hf b hb).1
  done := by
    intro X hP hw hK hc i pins s σ H E I hf st hg
    subst hP hw hK
    obtain ⟨⟨old, he⟩, hit, hne⟩ := st
    obtain ⟨xs, hq, hx⟩ := hg
    obtain ⟨its, rv, p, hz⟩ := I.list hq
    obtain ⟨f0, f1, f2, f3, f4, f5⟩ := hf it (by simp)
    have hl := rv.length
    exact enJ_end (I.ok.hd hc) he hit p.isList (by simp; omega) fun h' eb => ⟨rfl, I.turned (t' := s.toks) (fun b o hb q => eb b o hb q) f0 f1 f3 f4 f5⟩
  self := fun A i s Q E st h => let ⟨⟨_, he⟩, _⟩ := st; wpAny_pyIter_enum he h
def iEnum1 (K : PySem.W.Frag) (ta : TA) : TI := fun σ H R => ta σ H fun vs H1 => ∃ a xs, vs = [.ref a] ∧ SqL K H1 a xs ∧ R (Ite1 K a) H1
theorem kwt_callWith {M : Model} {A : Around} {E : Value → Shared → Prop} {s : Shared} {pos : Pos} {T : String} {args : List (Bool × Sem Value)} {kws : List (Option Str × Sem Value)} {Q : Value → Shared → Prop}
    (hp : args.any (·.1) = false) (hk : kws.any (·.1.isNone) = false) (h : wpAny M A (evalArgs (.type T) true args kws) (fun a s1 => wpAny M A (call (.type T) a.pos a.kw) Q E s1) E s) :
    wpAny M A (callWith pos (.type T) [] args kws) Q E s := by
  unfold callWith
  refine wpAny_bind (wpAny_holding (wpAny_mono h (fun a s1 h1 => wpAny_bind (wpAny_standAt ?_)) fun _ _ z => z))
  simp only [hp, hk, Bool.or_false]
  refine wpAny_bind (wpAny_pure ?_)
  exact wpAny_bind (wpAny_mono h1 (fun r s2 hr => wpAny_bind (wpAny_holding (wpAny_point (wpAny_pure hr)))) fun _ _ z => z)
theorem pi_enumS {X : Cx} {e : Expr} {ta : TA} {p pos tpos kp cp : Pos} {cj : Nat} {elts : List Expr} {kk : Nat} (hg : Gl X "enumerate") (hm : X.mg "enumerate" = none) (ha : PA X [e] ta) (hs : starEach [e] X.env = [(false, eval e X.env)] := by rfl) :
    PI X (.Tuple elts kk tpos) (.Call (.Name "enumerate" p) [e] [⟨some "start", .Constant (.int 1) cj cp, kp⟩] pos) (iEnum1 X.K ta) := by
  intro pins s σ H R I h
  refine wpAny_Call_Name_kw (ld_blt I hg hm boot_enumerate (kwt_callWith ?_ rfl ?_))
  · rw [hs]; rfl
  have h2 := ha pos pins s σ H _ I h
  rw [hs] at h2 ⊢
  refine evalArgs_kwB rfl (thn h2 fun us s1 ⟨vs, H1, I1, r1, q1⟩ => ?_)
  refine kws_cons (wpAny_Constant_int (kws_nil ?_))
  obtain ⟨a, xs, ex, hq, q⟩ := q1
  subst ex
  have I1 := I1.tok (s1.toks + 1)
  cases r1 with
  | cons r rr =>
    cases rr
    cases r
    obtain ⟨its, rv, p', hz⟩ := I1.list hq
    refine enS_call p'.isList fun h' he hit hk => wpAny_pyIter_enum he ?_
    have I2 : Inv X pins σ H1 { s1 with heap := h', toks := s1.toks + 1 } := I1.kept (t' := s1.toks + 1) hk
    refine ⟨s1.heap.objs.size + 1, [s1.heap.objs.size + 1, s1.heap.objs.size], _, _, H1, rfl, I2, turn_enum1 a (s1.heap.objs.size + 1) s1.heap.objs.size, ⟨⟨.none, he⟩, hit, Nat.succ_ne_self _⟩, fun b hb => ?_, q⟩
    have e' : b = s1.heap.objs.size + 1 ∨ b = s1.heap.objs.size := by simpa using hb
    have hle : s1.heap.objs.size ≤ b := by
      rcases e' with z | z
      · rw [z]; exact Nat.le_add_right _ _
      · rw [z]; exact Nat.le_refl _
    exact I1.fpOk hle (I1.hok.fresh hle)
theorem for_enum1 {K : PySem.W.Frag} {a : Addr} {xs : List V} {g : TG} {tb : TS} {D : Ends} {σ : L2.St} {H : Hp} (Pv : Nat → L2.St → Hp → Prop) (h0 : Pv 0 σ H) (hl : ∀ i σ H, i ≤ xs.length → Pv i σ H → SqL K H a xs)
    (hs : ∀ i x T σ H, xs[i]? = some x → Pv i σ H → H T = none → g (.ref T) σ (upd H T (.tup [.int ((i : Nat) + 1 : Int), x])) fun σ2 H2 => tb { D with nx := Pv (i + 1), ct := Pv (i + 1), bk := D.nx } σ2 H2) (hd : ∀ σ H, Pv xs.length σ H → D.nx σ H) :
    ∃ W : Nat → Nat → L2.St → Hp → Prop, (∃ m, W 0 m σ H) ∧ ∀ i m σ H, W i m σ H →
      ((Ite1 K a).stop i H ∧ D.nx σ H) ∨ ((Ite1 K a).go i H ∧ ∃ N : L2.St → Hp → Prop, (∀ σ' H', N σ' H' → ∃ m', m' < m ∧ W (i + 1) m' σ' H') ∧ ∀ x H', (Ite1 K a).yld i H x H' → g x σ H' fun σ2 H2 => tb { D with nx := N, ct := N, bk := D.nx } σ2 H2) := by
  refine ⟨fun i m σ H => m = xs.length - i ∧ i ≤ xs.length ∧ Pv i σ H, ⟨xs.length, by simp, Nat.zero_le _, h0⟩, ?_⟩
  rintro i m σ H ⟨rfl, hi, p⟩
  have q := hl i σ H hi p
  by_cases hlt : i < xs.length
  · refine .inr ⟨⟨xs, xs[i], q, by simp [hlt]⟩, Pv (i + 1), fun σ' H' p' => ⟨xs.length - (i + 1), by omega, rfl, hlt, p'⟩, fun x H' y => ?_⟩
    obtain ⟨T, z, rfl, hT, rfl, y⟩ := y
    exact hs i z T σ H (y xs q) p hT
  · have e : i = xs.length := by omega
    subst e
    exact .inl ⟨⟨xs, q, Nat.le_refl _⟩, hd σ H p⟩
theorem for_enum {K : PySem.W.Frag} {a : Addr} {xs : List V} {g : TG} {tb : TS} {D : Ends} {σ : L2.St} {H : Hp} (Pv : Nat → L2.St → Hp → Prop) (h0 : Pv 0 σ H) (hl : ∀ i σ H, i ≤ xs.length → Pv i σ H → SqL K H a xs)
    (hs : ∀ i x T σ H, xs[i]? = some x → Pv i σ H → H T = none → g (.ref T) σ (upd H T (.tup [.int (i : Nat), x])) fun σ2 H2 => tb { D with nx := Pv (i + 1), ct := Pv (i + 1), bk := D.nx } σ2 H2) (hd : ∀ σ H, Pv xs.length σ H → D.nx σ H) :
    ∃ W : Nat → Nat → L2.St → Hp → Prop, (∃ m, W 0 m σ H) ∧ ∀ i m σ H, W i m σ H →
      ((Ite K a).stop i H ∧ D.nx σ H) ∨ ((Ite K a).go i H ∧ ∃ N : L2.St → Hp → Prop, (∀ σ' H', N σ' H' → ∃ m', m' < m ∧ W (i + 1) m' σ' H') ∧ ∀ x H', (Ite K a).yld i H x H' → g x σ H' fun σ2 H2 => tb { D with nx := N, ct := N, bk := D.nx } σ2 H2) := by
  refine ⟨fun i m σ H => m = xs.length - i ∧ i ≤ xs.length ∧ Pv i σ H, ⟨xs.length, by simp, Nat.zero_le _, h0⟩, ?_⟩
  rintro i m σ H ⟨rfl, hi, p⟩
  have q := hl i σ H hi p
  by_cases hlt : i < xs.length
  · refine .inr ⟨⟨xs, xs[i], q, by simp [hlt]⟩, Pv (i + 1), fun σ' H' p' => ⟨xs.length - (i + 1), by omega, rfl, hlt, p'⟩, fun x H' y => ?_⟩
    obtain ⟨T, z, rfl, hT, rfl, y⟩ := y
    exact hs i z T σ H (y xs q) p hT
  · have e : i = xs.length := by omega
    subst e
    exact .inl ⟨⟨xs, q, Nat.le_refl _⟩, hd σ H p⟩
end Nw
end
section
set_option Elab.async false
set_option linter.all false
set_option maxRecDepth 100000
set_option maxHeartbeats 2000000
namespace Nw
open PySem PySem.Spec PyProof.Rows L2
def sumFrom : Nat → List Nat → Nat
  | _, [] => 0
  | k, b :: l => k * b + sumFrom (k + 1) l
theorem check_sum : ∀ (l : List Nat) (k : Nat), Vbdlao.checkFrom k l = sumFrom k l % 65521
  | [], _ => rfl
  | b :: l, k => by
    show (k * b + Vbdlao.checkFrom (k + 1) l) % 65521 = (k * b + sumFrom (k + 1) l) % 65521
    rw [check_sum l (k + 1), Nat.add_mod_mod]
theorem sum_snoc : ∀ (l : List Nat) (k x : Nat), sumFrom k (l ++ [x]) = sumFrom k l + (k + l.length) * x
  | [], k, x => by show k * x + 0 = 0 + (k + 0) * x; simp
  | b :: l, k, x => by
    show k * b + sumFrom (k + 1) (l ++ [x]) = k * b + sumFrom (k + 1) l + (k + (l.length + 1)) * x
    rw [sum_snoc l (k + 1) x, show k + 1 + l.length = k + (l.length + 1) by omega]
    omega
section
variable {P : Program} {w : World} {K : PySem.W.Frag} {mg : Str → Option Value} {base : Heap} {a : Adr}
def sp_check_of (K : PySem.W.Frag) : Sp := fun vs H Q _ => ∃ (l : Addr) (b : List Nat), vs = [.ref l] ∧ SqL K H l (bV b) ∧ b.length ≤ 1000000 ∧ ∀ H' : Hp, Same H H' → Q (.int (Vbdlao.check b : Nat)) H'
theorem ok_check_of (T : Txt K mg a) : FnOk P w K mg base CX0 1 a.f_check_of a.d_check_of p_check_of (sp_check_of K) := by
  refine T.check_of.F.ok sc_check_of (fun vs H Q E h => ?_) (fun cdv A outer s H vs Q E hr h => ?_)
  · obtain ⟨l, b, rfl, _⟩ := h
    rfl
  · obtain ⟨l, b, rfl, hS, hb, k⟩ := h
    refine ⟨_, (pss_cons (ps_set (i := 1) sc_check_of.nd rfl (Or.inl rfl) pe_int)
      (pss_cons (ps_for PassesOwn.never rfl (pi_enumS rfl T.b_enumerate (pa_cons (pv 0) pa_nil)) (pg_tup rfl (pgs_cons (pg_name (i := 2) sc_check_of.nd rfl (Or.inl rfl)) (pgs_cons (pg_name (i := 3) sc_check_of.nd rfl (Or.inl rfl)) pgs_nil))) (pss_one (ps_aug (i := 1) sc_check_of.nd rfl (Or.inl rfl) (pe_op op_mul (pv 3) (pv 2)) ip_add)))
      (pss_one (ps_ret (pe_op op_mod (pv 1) (pe_gint rfl T.c_CHECK_MODULUS)))))), ?_⟩
    refine ⟨_, rfl, l, _, rfl, hS, for_enum1 (K := K) (a := l) (xs := bV b) (fun i σ H' => Same H H' ∧ ∃ v u, σ = [some (.ref l), some (.int (sumFrom 1 (b.take i) : Nat)), v, u]) ⟨Same.refl H, none, none, rfl⟩ (fun i σ H' _ ⟨e, _⟩ => e.seq hS) ?_ ?_⟩
    · rintro i y T σ H' hi ⟨e, v, u, rfl⟩ hT
      obtain ⟨n, hn, rfl⟩ := bV_get hi
      have hil : i < b.length := (List.getElem?_eq_some_iff.mp hn).1
      refine ⟨T, _, rfl, SqT.of upd_same, rfl, _, _, rfl, _, _, rfl, rfl, ?_⟩
      refine ⟨_, rfl, _, rfl, _, rfl, _, _, rfl, rfl, .inr ⟨by omega, by omega⟩, _, _, rfl, rfl, e.trans (Same.new hT), some (.int ((i : Nat) + 1 : Int)), some (.int n), ?_⟩
      rw [take_snoc hn, sum_snoc, List.length_take, Nat.min_eq_left (Nat.le_of_lt hil)]
      have e2 : ((sumFrom 1 (b.take i) + (1 + i) * n : Nat) : Int) = (sumFrom 1 (b.take i) : Nat) + (n : Int) * ((i : Nat) + 1 : Int) := by
        rw [Int.natCast_add, Int.natCast_mul, Int.mul_comm (n : Int)]
        congr 2
        omega
      rw [e2]
      rfl
    · rintro σ H' ⟨e, v, u, rfl⟩
      refine ⟨_, rfl, _, _, rfl, rfl, (by show (0 : Int) < 65521; decide), ?_⟩
      rw [bV_len, List.take_length]
      have e3 : (Vbdlao.check b : Int) = (sumFrom 1 b : Nat) % 65521 := by
        show ((Vbdlao.checkFrom 1 b : Nat) : Int) = _
        rw [check_sum, Int.natCast_emod]
        rfl
      rw [e3] at k
      exact k H' e
end
end Nw
end
section
set_option Elab.async false
set_option linter.all false
set_option maxRecDepth 100000
set_option maxHeartbeats 2000000
namespace Nw
open PySem PySem.Spec PyProof.Rows L2
open Vbdlao (frameOf bytesOf closed two four check number)
abbrev VFrame := Vbdlao.Frame
section
variable {A B : Prop}
theorem ifc {c : Prop} [Decidable c] (h1 : c → A) (h2 : ¬ c → B) : if decide c = true then A else B := by
  by_cases h : c
  · rw [decide_eq_true h, if_pos rfl]; exact h1 h
  · rw [decide_eq_false h, if_neg Bool.false_ne_true]; exact h2 h
theorem ifT {c : Prop} [Decidable c] (hc : c) (h : A) : if decide c = true then A else B := ifc (fun _ => h) fun n => absurd hc n
theorem ifF {c : Prop} [Decidable c] (hc : ¬ c) (h : B) : if decide c = true then A else B := ifc (fun y => absurd y hc) fun _ => h
theorem ifnc {c : Prop} [Decidable c] (h1 : ¬ c → A) (h2 : c → B) : if (!decide c) = true then A else B := by
  by_cases h : c
  · rw [decide_eq_true h]; exact iteF (h2 h)
  · rw [decide_eq_false h]; exact iteT (h1 h)
theorem ifEq {i j : Int} (h1 : i = j → A) (h2 : i ≠ j → B) : if decide (V.int i = V.int j) = true then A else B :=
  ifc (fun h => h1 (V.int.inj h)) fun h => h2 fun e => h (congrArg V.int e)
theorem ifNe {i j : Int} (h1 : i ≠ j → A) (h2 : i = j → B) : if (!decide (V.int i = V.int j)) = true then A else B :=
  ifnc (fun h => h1 fun e => h (congrArg V.int e)) fun h => h2 (V.int.inj h)
theorem ifb {b : Bool} (h1 : b = true → A) (h2 : b = false → B) : if b = true then A else B := by
  cases b with
  | true => rw [if_pos rfl]; exact h1 rfl
  | false => rw [if_neg Bool.false_ne_true]; exact h2 rfl
theorem ifnb {b : Bool} (h1 : b = false → A) (h2 : b = true → B) : if (!b) = true then A else B := by
  cases b with
  | true => exact iteF (h2 rfl)
  | false => exact iteT (h1 rfl)
end
theorem two_len (n : Nat) : (two n).length = 2 := rfl
theorem four_len (n : Nat) : (four n).length = 4 := rfl
def ToldAt (H : Hp) (t : Addr) : VFrame → Prop
  | .data m i e => ∃ l, H t = some (.tup [.int 68, .int m, .int i, .ref l]) ∧ H l = some (.lst (bV e))
  | .ack m u n => H t = some (.tup [.int 65, .int m, .int u, .int n])
  | .ask m => H t = some (.tup [.int 72, .int m])
def bodyOf : VFrame → List Nat
  | .data m i e => 68 :: m :: (four i ++ (e.length :: e))
  | .ack m t n => 65 :: m :: (two t ++ four n)
  | .ask m => [72, m]
theorem bytes_body (f : VFrame) : bytesOf f = closed (bodyOf f) := by cases f <;> rfl
def small : VFrame → Prop
  | .data _ _ e => e.length ≤ 16
  | _ => True
theorem body_len {f : VFrame} (h : small f) : (bodyOf f).length ≤ 23 := by
  cases f with
  | data m i e =>
    have h' : e.length ≤ 16 := h
    show ((four i ++ (e.length :: e)).length + 1 + 1) ≤ 23
    rw [List.length_append, four_len, List.length_cons]
    omega
  | ack m t n => show 8 ≤ 23; decide
  | ask m => show 2 ≤ 23; decide
section
variable {P : Program} {w : World} {K : PySem.W.Frag} {mg : Str → Option Value} {base : Heap} {a : Adr}
def newList (H : Hp) (b : List Nat) (Q : VK) : Prop := ∀ (p : Addr) (H' : Hp), H p = none → Same H H' → H' p = some (.lst (bV b)) → Q (.ref p) H'
def sp_body_of : Sp := fun vs H Q _ => ∃ (t : Addr) (f : VFrame), vs = [.ref t] ∧ ToldAt H t f ∧ small f ∧ newList H (bodyOf f) Q
theorem len_le {n m : Nat} (h : n ≤ m) (hm : m ≤ sizeLine := by decide) : n ≤ sizeLine := Nat.le_trans h hm
theorem ok_body_of (T : Txt K mg a) : FnOk P w K mg base CX0 2 a.f_body_of a.d_body_of p_body_of sp_body_of := by
  refine T.body_of.F.ok sc_body_of (fun vs H Q E h => ?_) (fun cdv A outer s H vs Q E hr h => ?_)
  · obtain ⟨l, b, rfl, _⟩ := h
    rfl
  · obtain ⟨t, f, rfl, hT, hsm, k⟩ := h
    refine ⟨_, (pss_cons (ps_set (i := 1) sc_body_of.nd rfl (Or.inl rfl) (pe_lst (pa_cons (pe_ix ix_tup (pv 0) pe_int (fun _ _ => rfl)) (pa_cons (pe_ix ix_tup (pv 0) pe_int (fun _ _ => rfl)) pa_nil))))
      (pss_cons (ps_if (pt_cmpR op_eq (pe_ix ix_tup (pv 0) pe_int (fun _ _ => rfl)) (pe_gint rfl T.c_DATA) (nomark _)) (pss_one (ps_ret (pe_op op_cat (pe_op op_cat (pe_op op_cat (pv 1) (pe_call (ok_number_to_octets T) (hr.mono (by decide)) rfl T.number_to_octets.mg T.number_to_octets.F.kp T.number_to_octets.b .nil pass0 (pa_cons (pe_ix ix_tup (pv 0) pe_int (fun _ _ => rfl)) (pa_cons (pe_gint rfl T.c_PLACE_OCTETS) pa_nil)))) (pe_lst (pa_cons (pe_callB call_len_seq rfl T.b_len PySem.boot_len (pa_cons (pe_ix ix_tup (pv 0) pe_int (fun _ _ => rfl)) pa_nil)) pa_nil))) (pe_ix ix_tup (pv 0) pe_int (fun _ _ => rfl))))) pss_nil)
      (pss_cons (ps_if (pt_cmpR op_eq (pe_ix ix_tup (pv 0) pe_int (fun _ _ => rfl)) (pe_gint rfl T.c_ACK) (nomark _)) (pss_one (ps_ret (pe_op op_cat (pe_op op_cat (pv 1) (pe_call (ok_number_to_octets T) (hr.mono (by decide)) rfl T.number_to_octets.mg T.number_to_octets.F.kp T.number_to_octets.b .nil pass0 (pa_cons (pe_ix ix_tup (pv 0) pe_int (fun _ _ => rfl)) (pa_cons (pe_gint rfl T.c_TURN_OCTETS) pa_nil)))) (pe_call (ok_number_to_octets T) (hr.mono (by decide)) rfl T.number_to_octets.mg T.number_to_octets.F.kp T.number_to_octets.b .nil pass0 (pa_cons (pe_ix ix_tup (pv 0) pe_int (fun _ _ => rfl)) (pa_cons (pe_gint rfl T.c_PLACE_OCTETS) pa_nil)))))) pss_nil)
      (pss_one (ps_ret (pv 1)))))), ?_⟩
    cases f with
    | data m i e =>
      obtain ⟨l, ht, hl⟩ := hT
      have hsm : e.length ≤ 16 := hsm
      refine ⟨_, rfl, t, _, _, _, rfl, rfl, SqT.of ht, rfl, _, rfl, t, _, _, _, rfl, rfl, SqT.of ht, rfl, (by show 2 ≤ sizeLine; decide), fun h0 hn0 => ?_⟩
      have s0 : Same H (upd H h0 (.lst [.int 68, .int m])) := Same.new hn0
      refine ⟨_, rfl, t, _, _, _, rfl, rfl, SqT.of (s0 _ _ ht), rfl, rfl, _, rfl, ifT rfl ?_⟩
      refine ⟨_, rfl, _, rfl, t, _, _, _, rfl, rfl, SqT.of (s0 _ _ ht), rfl, i, 4, rfl, by decide, by decide, fun h1 H1 hn1 s1 e1 => ?_⟩
      refine ⟨h0, h1, _, _, rfl, rfl, s1 _ _ upd_same, e1, (by show 2 + (bV (octs 4 i)).length ≤ sizeLine; rw [bV_len, octs_len]; decide), fun h2 hn2 => ?_⟩
      have s2 : Same H1 _ := Same.new (o := .lst ([.int 68, .int m] ++ bV (octs 4 i))) hn2
      refine ⟨_, rfl, t, _, _, _, rfl, rfl, SqT.of (s2 _ _ (s1 _ _ (s0 _ _ ht))), rfl, l, _, rfl, .inl (SqL.of (s2 _ _ (s1 _ _ (s0 _ _ hl)))), (by show 1 ≤ sizeLine; decide), fun h3 hn3 => ?_⟩
      have s3 : Same (upd H1 h2 _) _ := Same.new (o := .lst [.int ((bV e).length : Nat)]) hn3
      refine ⟨h2, h3, _, _, rfl, rfl, s3 _ _ upd_same, upd_same, (by show (_ ++ bV (octs 4 i)).length + 1 ≤ sizeLine; rw [List.length_append, bV_len, octs_len]; show 2 + 4 + 1 ≤ sizeLine; decide), fun h4 hn4 => ?_⟩
      have s4 := Same.new (o := .lst ([.int 68, .int m] ++ bV (octs 4 i) ++ [.int ((bV e).length : Nat)])) hn4
      have sl : Same H _ := s0.trans (s1.trans (s2.trans (s3.trans s4)))
      refine ⟨_, rfl, t, _, _, _, rfl, rfl, SqT.of (sl _ _ ht), rfl, h4, l, _, _, rfl, rfl, upd_same, sl _ _ hl, ?_, fun h5 hn5 => ?_⟩
      · rw [List.length_append, List.length_append, bV_len, bV_len, octs_len]
        show 2 + 4 + 1 + e.length ≤ sizeLine
        exact len_le (m := 23) (by omega)
      · refine k h5 _ (sl.free hn5) (sl.trans (Same.new hn5)) ?_
        rw [upd_same, bV_len]
        congr 2
        show _ = bV (68 :: m :: (four i ++ (e.length :: e)))
        rw [octs_four]
        simp only [bV, List.map_cons, List.map_append, List.append_assoc, List.cons_append, List.nil_append]
        rfl
    | ack m u n =>
      have ht : H t = some (.tup [.int 65, .int m, .int u, .int n]) := hT
      refine ⟨_, rfl, t, _, _, _, rfl, rfl, SqT.of ht, rfl, _, rfl, t, _, _, _, rfl, rfl, SqT.of ht, rfl, (by show 2 ≤ sizeLine; decide), fun h0 hn0 => ?_⟩
      have s0 : Same H (upd H h0 (.lst [.int 65, .int m])) := Same.new hn0
      refine ⟨_, rfl, t, _, _, _, rfl, rfl, SqT.of (s0 _ _ ht), rfl, rfl, _, rfl, ifF (by intro z; cases z) ?_⟩
      refine ⟨_, rfl, t, _, _, _, rfl, rfl, SqT.of (s0 _ _ ht), rfl, rfl, _, rfl, ifT rfl ?_⟩
      refine ⟨_, rfl, _, rfl, t, _, _, _, rfl, rfl, SqT.of (s0 _ _ ht), rfl, u, 2, rfl, by decide, by decide, fun h1 H1 hn1 s1 e1 => ?_⟩
      refine ⟨h0, h1, _, _, rfl, rfl, s1 _ _ upd_same, e1, (by show 2 + (bV (octs 2 u)).length ≤ sizeLine; rw [bV_len, octs_len]; decide), fun h2 hn2 => ?_⟩
      have s2 : Same H1 _ := Same.new (o := .lst ([.int 65, .int m] ++ bV (octs 2 u))) hn2
      refine ⟨_, rfl, t, _, _, _, rfl, rfl, SqT.of (s2 _ _ (s1 _ _ (s0 _ _ ht))), rfl, n, 4, rfl, by decide, by decide, fun h3 H3 hn3 s3 e3 => ?_⟩
      refine ⟨h2, h3, _, _, rfl, rfl, s3 _ _ upd_same, e3, (by show (_ ++ bV (octs 2 u)).length + (bV (octs 4 n)).length ≤ sizeLine; rw [List.length_append, bV_len, octs_len, bV_len, octs_len]; show 2 + 2 + 4 ≤ sizeLine; decide), fun h4 hn4 => ?_⟩
      have sl : Same H H3 := s0.trans (s1.trans (s2.trans s3))
      refine k h4 _ (sl.free hn4) (sl.trans (Same.new hn4)) ?_
      rw [upd_same]
      congr 2
      show _ = bV (65 :: m :: (two u ++ four n))
      rw [octs_four, octs_two]
      simp only [bV, List.map_cons, List.map_append, List.append_assoc, List.cons_append, List.nil_append]
      rfl
    | ask m =>
      have ht : H t = some (.tup [.int 72, .int m]) := hT
      refine ⟨_, rfl, t, _, _, _, rfl, rfl, SqT.of ht, rfl, _, rfl, t, _, _, _, rfl, rfl, SqT.of ht, rfl, (by show 2 ≤ sizeLine; decide), fun h0 hn0 => ?_⟩
      have s0 : Same H (upd H h0 (.lst [.int 72, .int m])) := Same.new hn0
      refine ⟨_, rfl, t, _, _, _, rfl, rfl, SqT.of (s0 _ _ ht), rfl, rfl, _, rfl, ifF (by intro z; cases z) ?_⟩
      refine ⟨_, rfl, t, _, _, _, rfl, rfl, SqT.of (s0 _ _ ht), rfl, rfl, _, rfl, ifF (by intro z; cases z) ?_⟩
      refine ⟨_, rfl, ?_⟩
      exact k h0 _ hn0 s0 upd_same
end
end Nw
end
section
set_option Elab.async false
set_option linter.all false
set_option maxRecDepth 100000
set_option maxHeartbeats 2000000
namespace Nw
open PySem PySem.Spec PyProof.Rows L2
open Vbdlao (frameOf bytesOf closed two four check number)
theorem bV_drop (b : List Nat) (i : Nat) : (bV b).drop i = bV (b.drop i) := by unfold bV; rw [List.map_drop]
theorem bV_take (b : List Nat) (i : Nat) : (bV b).take i = bV (b.take i) := by unfold bV; rw [List.map_take]
theorem cut_nn {b : List Nat} {i j : Nat} (hi : i ≤ b.length) (hj : j ≤ b.length) : cutV (bV b) (some (i : Int)) (some (j : Int)) = bV ((b.drop i).take (j - i)) := by
  unfold cutV
  rw [HT.sIx_nat, HT.sIx_nat, bV_len, Nat.min_eq_left hi, Nat.min_eq_left hj, bV_drop, bV_take]
theorem cut_n {b : List Nat} {i : Nat} (hi : i ≤ b.length) : cutV (bV b) (some (i : Int)) none = bV (b.drop i) := by
  unfold cutV
  rw [HT.sIx_nat, HT.sIx_none, bV_len, Nat.min_eq_left hi, bV_drop, bV_take, List.take_of_length_le]
  rw [List.length_drop]
  exact Nat.le_refl _
theorem cut_to2 {b : List Nat} (h : 2 ≤ b.length) : cutV (bV b) none (some (-2 : Int)) = bV (b.take (b.length - 2)) := by
  unfold cutV
  rw [HT.sIx_none, List.drop_zero, Nat.sub_zero, bV_len]
  have e : HT.sIx b.length b.length (some (-2 : Int)) = b.length - 2 := by
    show (if (-2 : Int) < 0 then ((-2 : Int) + (b.length : Int)).toNat else min (-2 : Int).toNat b.length) = b.length - 2
    rw [if_pos (by decide)]
    omega
  rw [e, bV_take]
theorem cut_fr2 {b : List Nat} (h : 2 ≤ b.length) : cutV (bV b) (some (-2 : Int)) none = bV (b.drop (b.length - 2)) := by
  unfold cutV
  have e : HT.sIx b.length 0 (some (-2 : Int)) = b.length - 2 := by
    show (if (-2 : Int) < 0 then ((-2 : Int) + (b.length : Int)).toNat else min (-2 : Int).toNat b.length) = b.length - 2
    rw [if_pos (by decide)]
    omega
  rw [bV_len, e, HT.sIx_none, bV_drop, bV_take, List.take_of_length_le]
  rw [List.length_drop]
  exact Nat.le_refl _
theorem bV_at {b : List Nat} {j n : Nat} {z : Int} (e : z = (j : Int)) (h : b[j]? = some n) : atI (bV b) z = some (.int n) := at_of e (by unfold bV; rw [List.getElem?_map, h]; rfl)
def bodyRead (body : List Nat) : Option VFrame := match body with
  | 68 :: m :: x :: y :: z :: w :: n :: e => if n = e.length ∧ n ≤ Vbdlao.EVENT then some (.data m (number [x, y, z, w]) e) else none
  | [65, m, t, u, x, y, z, w] => some (.ack m (number [t, u]) (number [x, y, z, w]))
  | [72, m] => some (.ask m)
  | _ => none
theorem frame_body (b : List Nat) : frameOf b = if b.length < 4 then none else if number (b.drop (b.length - 2)) ≠ check (b.take (b.length - 2)) then none else bodyRead (b.take (b.length - 2)) := rfl
theorem br_short {r : List Nat} (h : r.length < 6) : bodyRead (68 :: r) = none := by
  match r, h with
  | [], _ => rfl
  | [_], _ => rfl
  | [_, _], _ => rfl
  | [_, _, _], _ => rfl
  | [_, _, _, _], _ => rfl
  | [_, _, _, _, _], _ => rfl
  | _ :: _ :: _ :: _ :: _ :: _ :: _, h => exact absurd h (by simp only [List.length_cons]; omega)
theorem br_long {r : List Nat} (h : 6 ≤ r.length) : ∃ m x y z w n e, r = m :: x :: y :: z :: w :: n :: e := by
  match r, h with
  | m :: x :: y :: z :: w :: n :: e, _ => exact ⟨m, x, y, z, w, n, e, rfl⟩
  | [], h => exact absurd h (by decide)
  | [_], h => exact absurd h (by simp)
  | [_, _], h => exact absurd h (by simp)
  | [_, _, _], h => exact absurd h (by simp)
  | [_, _, _, _], h => exact absurd h (by simp)
  | [_, _, _, _, _], h => exact absurd h (by simp)
def ToldNew (H H' : Hp) (t : Addr) : VFrame → Prop
  | .data m i e => ∃ l, H' t = some (.tup [.int 68, .int m, .int i, .ref l]) ∧ H' l = some (.lst (bV e)) ∧ H l = none
  | .ack m u n => H' t = some (.tup [.int 65, .int m, .int u, .int n])
  | .ask m => H' t = some (.tup [.int 72, .int m])
def toldOut (H : Hp) (o : Option VFrame) (Q : VK) : Prop := match o with
  | none => ∀ H', Same H H' → Q .non H'
  | some f => ∀ t H', Same H H' → ToldNew H H' t f → Q (.ref t) H'
theorem toldOut.same {H H1 : Hp} {o : Option VFrame} {Q : VK} (h : toldOut H o Q) (e : Same H H1) : toldOut H1 o Q := by
  cases o with
  | none => exact fun H' e' => h H' (e.trans e')
  | some f =>
    refine fun t H' e' hn => h t H' (e.trans e') ?_
    cases f with
    | data m i ev =>
      obtain ⟨l, h1, h2, h3⟩ := hn
      exact ⟨l, h1, h2, e.free h3⟩
    | ack m u n => exact hn
    | ask m => exact hn
section
variable {P : Program} {w : World} {K : PySem.W.Frag} {mg : Str → Option Value} {base : Heap} {a : Adr}
def sp_make_frame : Sp := fun vs H Q _ => ∃ (t : Addr) (f : VFrame), vs = [.ref t] ∧ ToldAt H t f ∧ small f ∧ newList H (bytesOf f) Q
theorem ok_make_frame (T : Txt K mg a) : FnOk P w K mg base CX0 3 a.f_make_frame a.d_make_frame p_make_frame sp_make_frame := by
  refine T.make_frame.F.ok sc_make_frame (fun vs H Q E h => ?_) (fun cdv A outer s H vs Q E hr h => ?_)
  · obtain ⟨l, b, rfl, _⟩ := h
    rfl
  · obtain ⟨t, f, rfl, hT, hsm, k⟩ := h
    refine ⟨_, (pss_cons (ps_set (i := 1) sc_make_frame.nd rfl (Or.inl rfl) (pe_call (ok_body_of T) (hr.mono (by decide)) rfl T.body_of.mg T.body_of.F.kp T.body_of.b .nil pass0 (pa_cons (pv 0) pa_nil)))
      (pss_one (ps_ret (pe_op op_cat (pv 1) (pe_call (ok_number_to_octets T) (hr.mono (by decide)) rfl T.number_to_octets.mg T.number_to_octets.F.kp T.number_to_octets.b .nil pass0 (pa_cons (pe_call (ok_check_of T) (hr.mono (by decide)) rfl T.check_of.mg T.check_of.F.kp T.check_of.b .nil pass0 (pa_cons (pv 1) pa_nil)) (pa_cons (pe_gint rfl T.c_CHECK_OCTETS) pa_nil))))))), ?_⟩
    have hl := body_len hsm
    refine ⟨_, rfl, t, f, rfl, hT, hsm, fun p H1 hp s1 e1 => ?_⟩
    refine ⟨_, rfl, _, rfl, p, _, rfl, SqL.of e1, Nat.le_trans hl (by decide), fun H2 s2 => ?_⟩
    refine ⟨check (bodyOf f), 2, rfl, by decide, by decide, fun q H3 hq s3 e3 => ?_⟩
    refine ⟨p, q, _, _, rfl, rfl, s3 _ _ (s2 _ _ e1), e3, ?_, fun r hr => ?_⟩
    · rw [bV_len, bV_len, octs_len]
      exact len_le (m := 25) (by omega)
    · have sl : Same H H3 := s1.trans (s2.trans s3)
      refine k r _ (sl.free hr) (sl.trans (Same.new hr)) ?_
      rw [upd_same, bytes_body, octs_two, ← bV_append]
      rfl
def sp_read_data (K : PySem.W.Frag) : Sp := fun vs H Q _ => ∃ (l : Addr) (r : List Nat), vs = [.ref l] ∧ SqL K H l (bV (68 :: r)) ∧ toldOut H (bodyRead (68 :: r)) Q
theorem ok_read_data (T : Txt K mg a) : FnOk P w K mg base CX0 2 a.f_read_data a.d_read_data p_read_data (sp_read_data K) := by
  refine T.read_data.F.ok sc_read_data (fun vs H Q E h => ?_) (fun cdv A outer s H vs Q E hr h => ?_)
  · obtain ⟨l, b, rfl, _⟩ := h
    rfl
  · obtain ⟨l, r, rfl, hS, k⟩ := h
    refine ⟨_, (pss_cons (ps_if (pt_cmpR op_lt (pe_callB call_len_seq rfl T.b_len PySem.boot_len (pa_cons (pv 0) pa_nil)) (pe_gint rfl T.c_DATA_HEAD) (nomark _)) (pss_one (ps_ret pe_non)) pss_nil)
      (pss_cons (ps_set (i := 1) sc_read_data.nd rfl (Or.inl rfl) (pe_ix ix_list (pv 0) (pe_op op_sub (pe_gint rfl T.c_DATA_HEAD) pe_int) (fun _ _ => rfl)))
      (pss_cons (ps_if (PW.pt (pw_or (pt_cmpR op_gt (pv 1) (pe_gint rfl T.c_EVENT_LIMIT) (nomark _)) (pw_or1 (pt_cmpR op_ne (pe_callB call_len_seq rfl T.b_len PySem.boot_len (pa_cons (pv 0) pa_nil)) (pe_op op_add (pe_gint rfl T.c_DATA_HEAD) (pv 1)) (nomark _))))) (pss_one (ps_ret pe_non)) pss_nil)
      (pss_one (ps_ret (pe_tup (pa_cons (pe_gint rfl T.c_DATA) (pa_cons (pe_ix ix_list (pv 0) pe_int (fun _ _ => rfl)) (pa_cons (pe_call (ok_octets_to_number T) (hr.mono (by decide)) rfl T.octets_to_number.mg T.octets_to_number.F.kp T.octets_to_number.b .nil pass0 (pa_cons (pe_slice sl_list (pv 0) (po_some pe_int) (po_some pe_int)) pa_nil)) (pa_cons (pe_slice sl_list (pv 0) (po_some (pe_gint rfl T.c_DATA_HEAD)) po_none) pa_nil)))))))))), ?_⟩
    refine ⟨_, rfl, l, _, rfl, .inl hS, _, _, rfl, rfl, _, rfl, ifc (fun hlt => ?_) fun hge => ?_⟩
    · rw [bV_len] at hlt
      rw [br_short (by simp only [List.length_cons] at hlt; omega)] at k
      exact k H (Same.refl H)
    · rw [bV_len] at hge
      obtain ⟨m, x, y, z, v, n, e, rfl⟩ := br_long (r := r) (by simp only [List.length_cons] at hge; omega)
      refine ⟨_, rfl, _, _, rfl, rfl, l, _, _, _, rfl, rfl, hS, bV_at (j := 6) (n := n) (by decide) rfl, ?_⟩
      have hk : bodyRead (68 :: m :: x :: y :: z :: v :: n :: e) = if n = e.length ∧ n ≤ 16 then some (.data m (number [x, y, z, v]) e) else none := rfl
      have none_of : ¬ (n = e.length ∧ n ≤ 16) → ∀ H', Same H H' → Q .non H' := fun hn => by
        rw [hk, if_neg hn] at k
        exact k
      have go : (n = e.length ∧ n ≤ 16) → ∀ t H', Same H H' → ToldNew H H' t (.data m (number [x, y, z, v]) e) → Q (.ref t) H' := fun hn => by
        rw [hk, if_pos hn] at k
        exact k
      refine ⟨_, rfl, _, _, rfl, rfl, _, rfl, ifc (fun hgt => ?_) fun hle => ?_⟩
      · exact none_of (by omega) H (Same.refl H)
      · refine ⟨_, rfl, l, _, rfl, .inl hS, _, rfl, _, _, rfl, rfl, rfl, _, rfl, ifNe (fun hne => ?_) fun heq => ?_⟩
        · rw [bV_len] at hne
          simp only [List.length_cons] at hne
          exact none_of (by omega) H (Same.refl H)
        · rw [bV_len] at heq
          simp only [List.length_cons] at heq
          have hn : n = e.length ∧ n ≤ 16 := by omega
          refine ⟨_, rfl, l, _, _, _, rfl, rfl, hS, bV_at (j := 1) (n := m) (by decide) rfl, _, rfl, _, rfl, _, rfl, l, _, rfl, hS, fun p hp => ?_⟩
          have s1 : Same H _ := Same.new (o := .lst (cutV (bV (68 :: m :: x :: y :: z :: v :: n :: e)) (some 2) (some 6))) hp
          have e1 : cutV (bV (68 :: m :: x :: y :: z :: v :: n :: e)) (some 2) (some 6) = bV [x, y, z, v] :=
            cut_nn (i := 2) (j := 6) (by simp only [List.length_cons]; omega) (by simp only [List.length_cons]; omega)
          refine ⟨p, [x, y, z, v], rfl, SqL.of (by rw [upd_same, e1]), _, rfl, _, rfl, l, _, rfl, s1.seq hS, fun q hq => ?_⟩
          have e2 : cutV (bV (68 :: m :: x :: y :: z :: v :: n :: e)) (some 7) none = bV e := cut_n (i := 7) (by simp only [List.length_cons]; omega)
          have s2 := Same.new (o := .lst (cutV (bV (68 :: m :: x :: y :: z :: v :: n :: e)) (some 7) none)) hq
          refine ⟨(by show 4 ≤ sizeLine; decide), fun t ht => ?_⟩
          have sl := s1.trans (s2.trans (Same.new (o := .tup [.int 68, .int m, .int (number [x, y, z, v] : Nat), .ref q]) ht))
          refine go hn t _ sl ⟨q, upd_same, ?_, s1.free hq⟩
          rw [upd_ne (ne_of_none upd_same ht), upd_same, e2]
theorem br_first {b : List Nat} (h1 : b[0]? ≠ some 68) (h2 : ¬ (b[0]? = some 65 ∧ b.length = 8)) (h3 : ¬ (b[0]? = some 72 ∧ b.length = 2)) : bodyRead b = none := by
  unfold bodyRead
  split
  · exact absurd rfl h1
  · exact absurd ⟨rfl, rfl⟩ h2
  · exact absurd ⟨rfl, rfl⟩ h3
  · rfl
theorem len8 {b : List Nat} {c : Nat} (h0 : b[0]? = some c) (h : b.length = 8) : ∃ m t u x y z w, b = [c, m, t, u, x, y, z, w] := by
  match b, h with
  | [c', m, t, u, x, y, z, w], _ => exact ⟨m, t, u, x, y, z, w, by rw [Option.some.inj h0]⟩
theorem len2 {b : List Nat} {c : Nat} (h0 : b[0]? = some c) (h : b.length = 2) : ∃ m, b = [c, m] := by
  match b, h with
  | [c', m], _ => exact ⟨m, by rw [Option.some.inj h0]⟩
def sp_read_body (K : PySem.W.Frag) : Sp := fun vs H Q _ => ∃ (l : Addr) (b : List Nat), vs = [.ref l] ∧ SqL K H l (bV b) ∧ 0 < b.length ∧ toldOut H (bodyRead b) Q
theorem ok_read_body (T : Txt K mg a) : FnOk P w K mg base CX0 3 a.f_read_body a.d_read_body p_read_body (sp_read_body K) := by
  refine T.read_body.F.ok sc_read_body (fun vs H Q E h => ?_) (fun cdv A outer s H vs Q E hr h => ?_)
  · obtain ⟨l, b, rfl, _⟩ := h
    rfl
  · obtain ⟨l, b, rfl, hS, hb, k⟩ := h
    refine ⟨_, (pss_cons (ps_if (pt_cmpR op_eq (pe_ix ix_list (pv 0) pe_int (fun _ _ => rfl)) (pe_gint rfl T.c_DATA) (nomark _)) (pss_one (ps_ret (pe_call (ok_read_data T) (hr.mono (by decide)) rfl T.read_data.mg T.read_data.F.kp T.read_data.b .nil pass0 (pa_cons (pv 0) pa_nil)))) pss_nil)
      (pss_cons (ps_if (PW.pt (pw_and (pt_cmpR op_eq (pe_ix ix_list (pv 0) pe_int (fun _ _ => rfl)) (pe_gint rfl T.c_ACK) (nomark _)) (pw_and1 (pt_cmpR op_eq (pe_callB call_len_seq rfl T.b_len PySem.boot_len (pa_cons (pv 0) pa_nil)) (pe_gint rfl T.c_ACK_BODY) (nomark _))))) (pss_one (ps_ret (pe_tup (pa_cons (pe_gint rfl T.c_ACK) (pa_cons (pe_ix ix_list (pv 0) pe_int (fun _ _ => rfl)) (pa_cons (pe_call (ok_octets_to_number T) (hr.mono (by decide)) rfl T.octets_to_number.mg T.octets_to_number.F.kp T.octets_to_number.b .nil pass0 (pa_cons (pe_slice sl_list (pv 0) (po_some pe_int) (po_some pe_int)) pa_nil)) (pa_cons (pe_call (ok_octets_to_number T) (hr.mono (by decide)) rfl T.octets_to_number.mg T.octets_to_number.F.kp T.octets_to_number.b .nil pass0 (pa_cons (pe_slice sl_list (pv 0) (po_some pe_int) (po_some pe_int)) pa_nil)) pa_nil))))))) pss_nil)
      (pss_cons (ps_if (PW.pt (pw_and (pt_cmpR op_eq (pe_ix ix_list (pv 0) pe_int (fun _ _ => rfl)) (pe_gint rfl T.c_ASK) (nomark _)) (pw_and1 (pt_cmpR op_eq (pe_callB call_len_seq rfl T.b_len PySem.boot_len (pa_cons (pv 0) pa_nil)) (pe_gint rfl T.c_ASK_BODY) (nomark _))))) (pss_one (ps_ret (pe_tup (pa_cons (pe_gint rfl T.c_ASK) (pa_cons (pe_ix ix_list (pv 0) pe_int (fun _ _ => rfl)) pa_nil))))) pss_nil)
      (pss_one (ps_ret pe_non))))), ?_⟩
    obtain ⟨c, h0⟩ : ∃ c, b[0]? = some c := ⟨_, List.getElem?_eq_getElem hb⟩
    refine ⟨_, rfl, l, _, _, _, rfl, rfl, hS, bV_at (j := 0) (n := c) (by decide) h0, rfl, _, rfl, ifEq (fun h68 => ?_) fun n68 => ?_⟩
    · have e : c = 68 := by omega
      obtain ⟨r, rfl⟩ : ∃ r, b = 68 :: r := by
        cases b with
        | nil => cases h0
        | cons c' r => exact ⟨r, by rw [← e, Option.some.inj h0]⟩
      exact ⟨_, rfl, l, r, rfl, hS, k⟩
    have n1 : b[0]? ≠ some 68 := fun e => n68 (by rw [h0] at e; rw [Option.some.inj e]; rfl)
    refine ⟨_, rfl, l, _, _, _, rfl, rfl, hS, bV_at (j := 0) (n := c) (by decide) h0, rfl, _, rfl, ifEq (fun h65 => ?_) fun n65 => iteF ?_⟩
    · have hc : c = 65 := by omega
      subst hc
      refine ⟨_, rfl, l, _, rfl, .inl hS, rfl, _, rfl, ?_⟩
      rw [bV_len]
      refine ifEq (fun h8 => ?_) fun n8 => ?_
      · obtain ⟨m, t, u, x, y, z, v, rfl⟩ := len8 h0 (by omega)
        refine ⟨_, rfl, l, _, _, _, rfl, rfl, hS, bV_at (j := 1) (n := m) (by decide) rfl, _, rfl, _, rfl, _, rfl, l, _, rfl, hS, fun p hp => ?_⟩
        have e1 : cutV (bV [65, m, t, u, x, y, z, v]) (some 2) (some 4) = bV [t, u] := cut_nn (i := 2) (j := 4) (by show 2 ≤ 8; decide) (by show 4 ≤ 8; decide)
        have s1 : Same H _ := Same.new (o := .lst (cutV (bV [65, m, t, u, x, y, z, v]) (some 2) (some 4))) hp
        refine ⟨p, [t, u], rfl, SqL.of (by rw [upd_same, e1]), _, rfl, _, rfl, _, rfl, l, _, rfl, s1.seq hS, fun q hq => ?_⟩
        have e2 : cutV (bV [65, m, t, u, x, y, z, v]) (some 4) (some 8) = bV [x, y, z, v] := cut_nn (i := 4) (j := 8) (by show 4 ≤ 8; decide) (by show 8 ≤ 8; decide)
        have s2 := Same.new (o := .lst (cutV (bV [65, m, t, u, x, y, z, v]) (some 4) (some 8))) hq
        refine ⟨q, [x, y, z, v], rfl, SqL.of (by rw [upd_same, e2]), (by show 4 ≤ sizeLine; decide), fun r hr => ?_⟩
        exact k r _ (s1.trans (s2.trans (Same.new hr))) upd_same
      · have kn := k
        rw [br_first n1 (fun q => n8 (by rw [q.2]; rfl)) (fun q => by rw [h0] at q; exact absurd (Option.some.inj q.1) (by decide))] at kn
        refine ⟨_, rfl, l, _, _, _, rfl, rfl, hS, bV_at (j := 0) (n := 65) (by decide) h0, rfl, _, rfl, ifEq (fun h72 => absurd h72 (by decide)) fun n72 => iteF ?_⟩
        exact kn H (Same.refl H)
    · have n65' : ¬ (b[0]? = some 65 ∧ b.length = 8) := fun q => n65 (by rw [h0] at q; rw [Option.some.inj q.1]; rfl)
      refine ⟨_, rfl, l, _, _, _, rfl, rfl, hS, bV_at (j := 0) (n := c) (by decide) h0, rfl, _, rfl, ifEq (fun h72 => ?_) fun n72 => iteF ?_⟩
      · have hc : c = 72 := by omega
        subst hc
        refine ⟨_, rfl, l, _, rfl, .inl hS, rfl, _, rfl, ?_⟩
        rw [bV_len]
        refine ifEq (fun h2 => ?_) fun n2 => ?_
        · obtain ⟨m, rfl⟩ := len2 h0 (by omega)
          refine ⟨_, rfl, l, _, _, _, rfl, rfl, hS, bV_at (j := 1) (n := m) (by decide) rfl, (by show 2 ≤ sizeLine; decide), fun r hr => ?_⟩
          exact k r _ (Same.new hr) upd_same
        · rw [br_first n1 n65' (fun q => n2 (by rw [q.2]; rfl))] at k
          exact k H (Same.refl H)
      · rw [br_first n1 n65' (fun q => n72 (by rw [h0] at q; rw [Option.some.inj q.1]; rfl))] at k
        exact k H (Same.refl H)
def sp_read_frame (K : PySem.W.Frag) : Sp := fun vs H Q _ => ∃ (l : Addr) (b : List Nat), vs = [.ref l] ∧ SqL K H l (bV b) ∧ b.length ≤ 1000000 ∧ toldOut H (frameOf b) Q
theorem ok_read_frame (T : Txt K mg a) : FnOk P w K mg base CX0 4 a.f_read_frame a.d_read_frame p_read_frame (sp_read_frame K) := by
  refine T.read_frame.F.ok sc_read_frame (fun vs H Q E h => ?_) (fun cdv A outer s H vs Q E hr h => ?_)
  · obtain ⟨l, b, rfl, _⟩ := h
    rfl
  · obtain ⟨l, b, rfl, hS, hb, k⟩ := h
    refine ⟨_, (pss_cons (ps_if (pt_cmpR op_lt (pe_callB call_len_seq rfl T.b_len PySem.boot_len (pa_cons (pv 0) pa_nil)) (pe_gint rfl T.c_LEAST_FRAME) (nomark _)) (pss_one (ps_ret pe_non)) pss_nil)
      (pss_cons (ps_set (i := 1) sc_read_frame.nd rfl (Or.inl rfl) (pe_slice sl_list (pv 0) po_none (po_some (pe_un un_neg (pe_gint rfl T.c_CHECK_OCTETS)))))
      (pss_cons (ps_if (pt_cmpR op_ne (pe_call (ok_octets_to_number T) (hr.mono (by decide)) rfl T.octets_to_number.mg T.octets_to_number.F.kp T.octets_to_number.b .nil pass0 (pa_cons (pe_slice sl_list (pv 0) (po_some (pe_un un_neg (pe_gint rfl T.c_CHECK_OCTETS))) po_none) pa_nil)) (pe_call (ok_check_of T) (hr.mono (by decide)) rfl T.check_of.mg T.check_of.F.kp T.check_of.b .nil pass0 (pa_cons (pv 1) pa_nil)) (nomark _)) (pss_one (ps_ret pe_non)) pss_nil)
      (pss_one (ps_ret (pe_call (ok_read_body T) (hr.mono (by decide)) rfl T.read_body.mg T.read_body.F.kp T.read_body.b .nil pass0 (pa_cons (pv 1) pa_nil))))))), ?_⟩
    rw [frame_body] at k
    refine ⟨_, rfl, l, _, rfl, .inl hS, _, _, rfl, rfl, _, rfl, ifc (fun hlt => ?_) fun hge => ?_⟩
    · rw [bV_len] at hlt
      rw [if_pos (by omega)] at k
      exact k H (Same.refl H)
    · rw [bV_len] at hge
      have h4 : 4 ≤ b.length := by omega
      rw [if_neg (by omega)] at k
      refine ⟨_, rfl, _, rfl, _, rfl, l, _, rfl, hS, fun p hp => ?_⟩
      have s1 : Same H _ := Same.new (o := .lst (cutV (bV b) none (some (-2)))) hp
      refine ⟨_, rfl, _, rfl, _, rfl, l, _, rfl, s1.seq hS, fun q hq => ?_⟩
      have s2 := Same.new (o := .lst (cutV (bV b) (some (-2)) none)) hq
      refine ⟨q, b.drop (b.length - 2), rfl, SqL.of (by rw [upd_same, cut_fr2 (by omega)]), _, rfl, p, b.take (b.length - 2), rfl, SqL.of (by rw [s2 _ _ upd_same, cut_to2 (by omega)]), ?_, fun H3 s3 => ?_⟩
      · rw [List.length_take]
        exact Nat.le_trans (Nat.min_le_right _ _) hb
      have sl := s1.trans (s2.trans s3)
      refine ⟨rfl, _, rfl, ifNe (fun hne => ?_) fun heq => ?_⟩
      · rw [if_pos (fun e => hne (by rw [e]))] at k
        exact k H3 sl
      · rw [if_neg (fun hn => hn (by omega))] at k
        refine ⟨_, rfl, p, b.take (b.length - 2), rfl, SqL.of (by rw [s3 _ _ (s2 _ _ upd_same), cut_to2 (by omega)]), ?_, k.same sl⟩
        rw [List.length_take]
        omega
end
end Nw
end
section
set_option Elab.async false
set_option linter.all false
set_option maxRecDepth 100000
set_option maxHeartbeats 2000000
namespace Nw
open PySem PySem.Spec PyProof.Rows L2
abbrev Ev := Addr × List Nat
structure GM where
  a : Addr
  dx : Addr
  lg : Addr
  evs : List Ev
  on : Bool
  turn : Nat
  acked : Nat
  next : Nat
  timer : Nat
structure GD where
  a : Addr
  dx : Addr
  cp : Addr
  ad : Addr
  turn : Nat
  evs : List Ev
  asd : List (Addr × Nat × Ev)
structure GP where
  a : Addr
  dx : Addr
  oc : Addr
  toS : Bool
  m : Nat
  b : List Nat
  sp : Bool
structure GW where
  a : Addr
  dx : Addr
  lm : Addr
  ld : Addr
  lp : Addr
  win : Nat
  wait : Nat
  ms : List GM
  ds : List GD
  ps : List GP
  lost : Nat
  bad : Nat
  again : Nat
  news : Nat
def GM.st (g : GM) : Vbdlao.Machine := ⟨g.evs.map (·.2), g.on, g.turn, g.acked, g.next, g.timer⟩
def GD.st (g : GD) : Vbdlao.Desk := ⟨g.turn, g.evs.map (·.2), g.asd.map fun t => (t.2.1, t.2.2.2)⟩
def GP.st (g : GP) : Vbdlao.Packet := ⟨g.toS, g.m, g.b, g.sp⟩
def GW.st (g : GW) : Vbdlao.St := ⟨g.win, g.wait, g.ms.map GM.st, g.ds.map GD.st, g.ps.map GP.st, g.lost, g.bad, g.again, g.news⟩
abbrev Fact := Addr × HO
def evF (l : List Ev) : List Fact := l.map fun e => (e.1, .lst (bV e.2))
def evR (l : List Ev) : List V := l.map fun e => .ref e.1
def dirV (b : Bool) : V := .int (if b = true then 0 else 1)
def GM.fl (g : GM) : List (Str × V) := [("log", .ref g.lg), ("power", .bl g.on), ("turn", .int g.turn), ("acked", .int g.acked), ("next_place", .int g.next), ("timer", .int g.timer)]
def GD.fl (g : GD) : List (Str × V) := [("turn", .int g.turn), ("copied", .ref g.cp), ("aside", .ref g.ad)]
def GP.fl (g : GP) : List (Str × V) := [("goes_to", dirV g.toS), ("machine", .int g.m), ("octets", .ref g.oc), ("spoiled", .bl g.sp)]
def GW.fl (g : GW) : List (Str × V) := [("machines", .ref g.lm), ("desks", .ref g.ld), ("window", .int g.win), ("wait", .int g.wait), ("packets", .ref g.lp), ("lost", .int g.lost), ("bad", .int g.bad), ("again", .int g.again), ("news", .int g.news)]
def asF (t : Addr × Nat × Ev) : List Fact := [(t.1, .tup [.int t.2.1, .ref t.2.2.1]), (t.2.2.1, .lst (bV t.2.2.2))]
def asR (l : List (Addr × Nat × Ev)) : List V := l.map fun t => .ref t.1
def GM.fs (A : Adr) (g : GM) : List Fact := (g.a, .ins A.c_Machine g.dx g.fl) :: (g.lg, .lst (evR g.evs)) :: evF g.evs
def GD.fs (A : Adr) (g : GD) : List Fact := (g.a, .ins A.c_Desk g.dx g.fl) :: (g.cp, .lst (evR g.evs)) :: (g.ad, .lst (asR g.asd)) :: (evF g.evs ++ g.asd.flatMap asF)
def GP.fs (A : Adr) (g : GP) : List Fact := [(g.a, .ins A.c_Packet g.dx g.fl), (g.oc, .lst (bV g.b))]
def mR (l : List GM) : List V := l.map fun m => .ref m.a
def dR (l : List GD) : List V := l.map fun m => .ref m.a
def pR (l : List GP) : List V := l.map fun m => .ref m.a
def GW.hd (A : Adr) (g : GW) : List Fact := [(g.a, .ins A.c_Ward g.dx g.fl), (g.lm, .lst (mR g.ms)), (g.ld, .lst (dR g.ds)), (g.lp, .lst (pR g.ps))]
def GW.fs (A : Adr) (g : GW) : List Fact := g.hd A ++ (g.ms.flatMap (GM.fs A) ++ (g.ds.flatMap (GD.fs A) ++ g.ps.flatMap (GP.fs A)))
structure Holds (F : List Fact) (H : Hp) : Prop where
  all : ∀ p ∈ F, H p.1 = some p.2
  nd : (F.map (·.1)).Nodup
theorem Holds.get {F : List Fact} {H : Hp} (h : Holds F H) {a : Addr} {o : HO} (hm : (a, o) ∈ F) : H a = some o := h.all _ hm
theorem Holds.perm {F F' : List Fact} {H : Hp} (h : Holds F H) (p : F.Perm F') : Holds F' H :=
  ⟨fun q hq => h.all q (p.mem_iff.mpr hq), (p.map (·.1)).nodup_iff.mp h.nd⟩
theorem Holds.same {F : List Fact} {H H' : Hp} (h : Holds F H) (e : Same H H') : Holds F H' := ⟨fun q hq => e _ _ (h.all q hq), h.nd⟩
theorem Holds.put {a : Addr} {o o' : HO} {R : List Fact} {H : Hp} (h : Holds ((a, o) :: R) H) : Holds ((a, o') :: R) (upd H a o') := by
  have nd := h.nd
  rw [List.map_cons, List.nodup_cons] at nd
  refine ⟨fun q hq => ?_, by rw [List.map_cons, List.nodup_cons]; exact nd⟩
  rcases List.mem_cons.mp hq with e | hq
  · rw [e]; exact upd_same
  · have hne : q.1 ≠ a := fun e => nd.1 (List.mem_map.mpr ⟨q, hq, e⟩)
    rw [upd_ne hne]
    exact h.all q (List.mem_cons_of_mem _ hq)
theorem Holds.new {a : Addr} {o : HO} {R : List Fact} {H : Hp} (h : Holds R H) (hn : H a = none) : Holds ((a, o) :: R) (upd H a o) := by
  refine ⟨fun q hq => ?_, ?_⟩
  · rcases List.mem_cons.mp hq with e | hq
    · rw [e]; exact upd_same
    · rw [upd_ne (ne_of_none (h.all q hq) hn)]
      exact h.all q hq
  · rw [List.map_cons, List.nodup_cons]
    refine ⟨fun hm => ?_, h.nd⟩
    obtain ⟨q, hq, e⟩ := List.mem_map.mp hm
    exact ne_of_none (h.all q hq) hn e
theorem Holds.add {a : Addr} {o : HO} {R : List Fact} {H H' : Hp} (h : Holds R H) (e : Same H H') (hn : H a = none) (ha : H' a = some o) : Holds ((a, o) :: R) H' := by
  refine ⟨fun q hq => ?_, ?_⟩
  · rcases List.mem_cons.mp hq with z | hq
    · rw [z]; exact ha
    · exact e _ _ (h.all q hq)
  · rw [List.map_cons, List.nodup_cons]
    refine ⟨fun hm => ?_, h.nd⟩
    obtain ⟨q, hq, z⟩ := List.mem_map.mp hm
    exact ne_of_none (h.all q hq) hn z
theorem Holds.right {F R : List Fact} {H : Hp} (h : Holds (F ++ R) H) : Holds R H :=
  ⟨fun q hq => h.all q (List.mem_append_right _ hq), by have := h.nd; rw [List.map_append, List.nodup_append] at this; exact this.2.1⟩
theorem Holds.tail {p : Fact} {R : List Fact} {H : Hp} (h : Holds (p :: R) H) : Holds R H := Holds.right (F := [p]) h
theorem Holds.swap {p q : Fact} {R : List Fact} {H : Hp} (h : Holds (p :: q :: R) H) : Holds (q :: p :: R) H := h.perm (List.Perm.swap ..)
theorem Holds.third {p q r : Fact} {R : List Fact} {H : Hp} (h : Holds (p :: q :: r :: R) H) : Holds (r :: p :: q :: R) H :=
  h.perm (((List.Perm.swap r q R).cons p).trans (List.Perm.swap ..))
theorem Holds.unthird {p q r : Fact} {R : List Fact} {H : Hp} (h : Holds (r :: p :: q :: R) H) : Holds (p :: q :: r :: R) H :=
  h.perm ((List.Perm.swap ..).trans ((List.Perm.swap ..).cons p))
theorem pcomm {α : Type} {a b c : List α} : (a ++ (b ++ c)).Perm (b ++ (a ++ c)) := List.perm_append_comm_assoc a b c
theorem flat_focus {α : Type} (f : α → List Fact) : ∀ {l : List α} {i : Nat} {x : α}, l[i]? = some x → ∃ R, (l.flatMap f).Perm (f x ++ R) ∧ ((l.eraseIdx i).flatMap f) = R ∧ ∀ y, ((l.set i y).flatMap f).Perm (f y ++ R)
  | [], i, x, h => by simp at h
  | z :: l, 0, x, h => by
    have e : z = x := Option.some.inj h
    subst e
    exact ⟨l.flatMap f, .refl _, rfl, fun y => .refl _⟩
  | z :: l, i + 1, x, h => by
    obtain ⟨R, p, q, r⟩ := flat_focus f (l := l) (i := i) (x := x) h
    refine ⟨f z ++ R, ?_, ?_, fun y => ?_⟩
    · show (f z ++ l.flatMap f).Perm _
      exact (p.append_left (f z)).trans pcomm
    · show f z ++ (l.eraseIdx i).flatMap f = _
      rw [q]
    · show (f z ++ (l.set i y).flatMap f).Perm _
      exact ((r y).append_left (f z)).trans pcomm
def GW.setM (g : GW) (i : Nat) (m : GM) : GW := { g with ms := g.ms.set i m }
def GW.setD (g : GW) (i : Nat) (m : GD) : GW := { g with ds := g.ds.set i m }
def GW.setP (g : GW) (i : Nat) (m : GP) : GW := { g with ps := g.ps.set i m }
theorem set_map {α β : Type} (f : α → β) {l : List α} {i : Nat} {x y : α} (h : l[i]? = some x) (e : f y = f x) : (l.set i y).map f = l.map f := by
  rw [List.map_set, e]
  apply List.ext_getElem?
  intro j
  rw [List.getElem?_set]
  by_cases hj : i = j
  · subst hj
    rw [if_pos rfl, List.getElem?_map, h, List.length_map]
    rw [if_pos (List.getElem?_eq_some_iff.mp h).1]
    rfl
  · rw [if_neg hj]
section
variable {A : Adr} {g : GW} {H : Hp} {R : List Fact}
theorem focusM {i : Nat} {m : GM} (h : g.ms[i]? = some m) : ∃ S, (g.fs A).Perm (m.fs A ++ S) ∧ ∀ m', m'.a = m.a → ((g.setM i m').fs A).Perm (m'.fs A ++ S) := by
  obtain ⟨S, p, _, q⟩ := flat_focus (GM.fs A) h
  refine ⟨g.hd A ++ (S ++ (g.ds.flatMap (GD.fs A) ++ g.ps.flatMap (GP.fs A))), ?_, fun m' e => ?_⟩
  · refine List.Perm.trans ((p.append_right _).append_left _) ?_
    rw [List.append_assoc]
    exact pcomm
  · have e1 : (g.setM i m').hd A = g.hd A := by
      show [_, (g.lm, HO.lst (mR (g.ms.set i m'))), _, _] = [_, (g.lm, HO.lst (mR g.ms)), _, _]
      rw [show mR (g.ms.set i m') = mR g.ms from set_map (fun m : GM => V.ref m.a) h (by rw [e])]
      rfl
    show ((g.setM i m').hd A ++ _).Perm _
    rw [e1]
    refine List.Perm.trans (((q m').append_right _).append_left _) ?_
    rw [List.append_assoc]
    exact pcomm
theorem focusD {i : Nat} {m : GD} (h : g.ds[i]? = some m) : ∃ S, (g.fs A).Perm (m.fs A ++ S) ∧ ∀ m', m'.a = m.a → ((g.setD i m').fs A).Perm (m'.fs A ++ S) := by
  obtain ⟨S, p, _, q⟩ := flat_focus (GD.fs A) h
  have key : ∀ (B C D S' : List Fact) , (B ++ (C ++ ((D ++ S) ++ S'))).Perm (D ++ (B ++ (C ++ (S ++ S')))) := fun B C D S' => by
    rw [List.append_assoc]
    exact (List.Perm.append_left B pcomm).trans pcomm
  refine ⟨g.hd A ++ (g.ms.flatMap (GM.fs A) ++ (S ++ g.ps.flatMap (GP.fs A))), ?_, fun m' e => ?_⟩
  · exact List.Perm.trans (((p.append_right _).append_left _).append_left _) (key ..)
  · have e1 : (g.setD i m').hd A = g.hd A := by
      show [_, _, (g.ld, HO.lst (dR (g.ds.set i m'))), _] = [_, _, (g.ld, HO.lst (dR g.ds)), _]
      rw [show dR (g.ds.set i m') = dR g.ds from set_map (fun m : GD => V.ref m.a) h (by rw [e])]
      rfl
    show ((g.setD i m').hd A ++ _).Perm _
    rw [e1]
    exact List.Perm.trans ((((q m').append_right _).append_left _).append_left _) (key ..)
theorem focusP {i : Nat} {m : GP} (h : g.ps[i]? = some m) : ∃ S, (g.fs A).Perm (m.fs A ++ S) ∧ ∀ m', m'.a = m.a → ((g.setP i m').fs A).Perm (m'.fs A ++ S) := by
  obtain ⟨S, p, _, q⟩ := flat_focus (GP.fs A) h
  have key : ∀ (B C D E : List Fact) , (B ++ (C ++ (D ++ (E ++ S)))).Perm (E ++ (B ++ (C ++ (D ++ S)))) := fun B C D E =>
    (List.Perm.append_left B ((List.Perm.append_left C pcomm).trans pcomm)).trans pcomm
  refine ⟨g.hd A ++ (g.ms.flatMap (GM.fs A) ++ (g.ds.flatMap (GD.fs A) ++ S)), ?_, fun m' e => ?_⟩
  · exact List.Perm.trans (((p.append_left _).append_left _).append_left _) (key ..)
  · have e1 : (g.setP i m').hd A = g.hd A := by
      show [_, _, _, (g.lp, HO.lst (pR (g.ps.set i m')))] = [_, _, _, (g.lp, HO.lst (pR g.ps))]
      rw [show pR (g.ps.set i m') = pR g.ps from set_map (fun m : GP => V.ref m.a) h (by rw [e])]
      rfl
    show ((g.setP i m').hd A ++ _).Perm _
    rw [e1]
    exact List.Perm.trans ((((q m').append_left _).append_left _).append_left _) (key ..)
def At (A : Adr) (g : GW) (R : List Fact) (H : Hp) : Prop := Holds (g.fs A ++ R) H
theorem At.ward (h : At A g R H) : H g.a = some (.ins A.c_Ward g.dx g.fl) := h.get (List.mem_append_left _ (List.mem_append_left _ (by simp [GW.hd])))
theorem At.lm (h : At A g R H) : H g.lm = some (.lst (mR g.ms)) := h.get (List.mem_append_left _ (List.mem_append_left _ (by simp [GW.hd])))
theorem At.ld (h : At A g R H) : H g.ld = some (.lst (dR g.ds)) := h.get (List.mem_append_left _ (List.mem_append_left _ (by simp [GW.hd])))
theorem At.lp (h : At A g R H) : H g.lp = some (.lst (pR g.ps)) := h.get (List.mem_append_left _ (List.mem_append_left _ (by simp [GW.hd])))
theorem At.inM (h : At A g R H) {i : Nat} {m : GM} (hi : g.ms[i]? = some m) {p : Fact} (hp : p ∈ m.fs A) : H p.1 = some p.2 :=
  h.all p (List.mem_append_left _ (List.mem_append_right _ (List.mem_append_left _ (List.mem_flatMap.mpr ⟨m, List.mem_of_getElem? hi, hp⟩))))
theorem At.inD (h : At A g R H) {i : Nat} {m : GD} (hi : g.ds[i]? = some m) {p : Fact} (hp : p ∈ m.fs A) : H p.1 = some p.2 :=
  h.all p (List.mem_append_left _ (List.mem_append_right _ (List.mem_append_right _ (List.mem_append_left _ (List.mem_flatMap.mpr ⟨m, List.mem_of_getElem? hi, hp⟩)))))
theorem At.inP (h : At A g R H) {i : Nat} {m : GP} (hi : g.ps[i]? = some m) {p : Fact} (hp : p ∈ m.fs A) : H p.1 = some p.2 :=
  h.all p (List.mem_append_left _ (List.mem_append_right _ (List.mem_append_right _ (List.mem_append_right _ (List.mem_flatMap.mpr ⟨m, List.mem_of_getElem? hi, hp⟩)))))
theorem At.mach (h : At A g R H) {i : Nat} {m : GM} (hi : g.ms[i]? = some m) : H m.a = some (.ins A.c_Machine m.dx m.fl) := h.inM hi (p := (_, _)) (by simp [GM.fs])
theorem At.log (h : At A g R H) {i : Nat} {m : GM} (hi : g.ms[i]? = some m) : H m.lg = some (.lst (evR m.evs)) := h.inM hi (p := (_, _)) (by simp [GM.fs])
theorem At.logEv (h : At A g R H) {i : Nat} {m : GM} (hi : g.ms[i]? = some m) {j : Nat} {e : Ev} (hj : m.evs[j]? = some e) : H e.1 = some (.lst (bV e.2)) :=
  h.inM hi (p := (_, _)) (List.mem_cons_of_mem _ (List.mem_cons_of_mem _ (List.mem_map.mpr ⟨e, List.mem_of_getElem? hj, rfl⟩)))
theorem At.desk (h : At A g R H) {i : Nat} {m : GD} (hi : g.ds[i]? = some m) : H m.a = some (.ins A.c_Desk m.dx m.fl) := h.inD hi (p := (_, _)) (by simp [GD.fs])
theorem At.copy (h : At A g R H) {i : Nat} {m : GD} (hi : g.ds[i]? = some m) : H m.cp = some (.lst (evR m.evs)) := h.inD hi (p := (_, _)) (by simp [GD.fs])
theorem At.copyEv (h : At A g R H) {i : Nat} {m : GD} (hi : g.ds[i]? = some m) {j : Nat} {e : Ev} (hj : m.evs[j]? = some e) : H e.1 = some (.lst (bV e.2)) :=
  h.inD hi (p := (_, _)) (List.mem_cons_of_mem _ (List.mem_cons_of_mem _ (List.mem_cons_of_mem _ (List.mem_append_left _ (List.mem_map.mpr ⟨e, List.mem_of_getElem? hj, rfl⟩)))))
theorem At.aside (h : At A g R H) {i : Nat} {m : GD} (hi : g.ds[i]? = some m) : H m.ad = some (.lst (asR m.asd)) := h.inD hi (p := (_, _)) (by simp [GD.fs])
theorem At.asTup (h : At A g R H) {i : Nat} {m : GD} (hi : g.ds[i]? = some m) {j : Nat} {t : Addr × Nat × Ev} (hj : m.asd[j]? = some t) : H t.1 = some (.tup [.int t.2.1, .ref t.2.2.1]) :=
  h.inD hi (p := (_, _)) (List.mem_cons_of_mem _ (List.mem_cons_of_mem _ (List.mem_cons_of_mem _ (List.mem_append_right _ (List.mem_flatMap.mpr ⟨t, List.mem_of_getElem? hj, by simp [asF]⟩)))))
theorem At.pkt (h : At A g R H) {i : Nat} {m : GP} (hi : g.ps[i]? = some m) : H m.a = some (.ins A.c_Packet m.dx m.fl) := h.inP hi (p := (_, _)) (by simp [GP.fs])
theorem At.oct (h : At A g R H) {i : Nat} {m : GP} (hi : g.ps[i]? = some m) : H m.oc = some (.lst (bV m.b)) := h.inP hi (p := (_, _)) (by simp [GP.fs])
theorem At.same {H' : Hp} (h : At A g R H) (e : Same H H') : At A g R H' := Holds.same h e
theorem At.rest (h : At A g R H) {p : Fact} (hp : p ∈ R) : H p.1 = some p.2 := h.all p (List.mem_append_right _ hp)
theorem At.perm {R' : List Fact} (h : At A g R H) (p : R.Perm R') : At A g R' H := Holds.perm h (p.append_left _)
theorem At.new {a : Addr} {o : HO} (h : At A g R H) (hn : H a = none) : At A g ((a, o) :: R) (upd H a o) := (Holds.new h hn).perm List.perm_middle.symm
theorem At.add {a : Addr} {o : HO} {H' : Hp} (h : At A g R H) (e : Same H H') (hn : H a = none) (ha : H' a = some o) : At A g ((a, o) :: R) H' := (Holds.add h e hn ha).perm List.perm_middle.symm
theorem At.drop {p : Fact} (h : At A g (p :: R) H) : At A g R H := (Holds.perm h List.perm_middle).tail
theorem At.drops {S : List Fact} (h : At A g (S ++ R) H) : At A g R H := Holds.right (F := S) (Holds.perm h pcomm)
theorem At.putR {a : Addr} {o o' : HO} (h : At A g ((a, o) :: R) H) : At A g ((a, o') :: R) (upd H a o') := (Holds.put (Holds.perm h List.perm_middle)).perm List.perm_middle.symm
theorem At.setW {g' : GW} (h : At A g R H) (e1 : g'.a = g.a) (e2 : g'.dx = g.dx) (e3 : g'.fs A = (g.a, .ins A.c_Ward g.dx g'.fl) :: (g.fs A).tail) : At A g' R (upd H g.a (.ins A.c_Ward g.dx g'.fl)) := by
  unfold At at h ⊢
  rw [e3]
  exact Holds.put (o := .ins A.c_Ward g.dx g.fl) h
theorem At.setM {i : Nat} {m m' : GM} (h : At A g R H) (hi : g.ms[i]? = some m) (e1 : m'.a = m.a) (e2 : m'.dx = m.dx) (e3 : m'.lg = m.lg) (e4 : m'.evs = m.evs) : At A (g.setM i m') R (upd H m.a (.ins A.c_Machine m.dx m'.fl)) := by
  obtain ⟨S, p, q⟩ := focusM (A := A) hi
  have h1 : Holds ((m.a, .ins A.c_Machine m.dx m.fl) :: ((m.lg, .lst (evR m.evs)) :: evF m.evs ++ S ++ R)) H := Holds.perm h (p.append_right R)
  have h2 : Holds (m'.fs A ++ S ++ R) (upd H m.a (.ins A.c_Machine m.dx m'.fl)) := by
    have e : m'.fs A = (m.a, .ins A.c_Machine m.dx m'.fl) :: (m.lg, .lst (evR m.evs)) :: evF m.evs := by
      unfold GM.fs
      rw [e1, e2, e3, e4]
    rw [e]
    exact h1.put
  exact h2.perm ((q m' e1).symm.append_right R)
theorem At.logAdd {i : Nat} {m : GM} {e : Ev} (h : At A g ((e.1, .lst (bV e.2)) :: R) H) (hi : g.ms[i]? = some m) : At A (g.setM i { m with evs := m.evs ++ [e] }) R (upd H m.lg (.lst (evR m.evs ++ [.ref e.1]))) := by
  obtain ⟨S, p, q⟩ := focusM (A := A) hi
  have h1 : Holds ((m.a, .ins A.c_Machine m.dx m.fl) :: (m.lg, .lst (evR m.evs)) :: (evF m.evs ++ S ++ (e.1, .lst (bV e.2)) :: R)) H := Holds.perm h (p.append_right _)
  have h2 := (h1.swap.put (o' := .lst (evR m.evs ++ [.ref e.1]))).swap
  refine Holds.perm h2 ?_
  refine List.Perm.trans ?_ ((q { m with evs := m.evs ++ [e] } rfl).symm.append_right R)
  show List.Perm _ ((m.a, .ins A.c_Machine m.dx m.fl) :: (m.lg, .lst (evR (m.evs ++ [e]))) :: (evF (m.evs ++ [e]) ++ S ++ R))
  have e1 : evR (m.evs ++ [e]) = evR m.evs ++ [.ref e.1] := by unfold evR; rw [List.map_append]; rfl
  have e2 : evF (m.evs ++ [e]) = evF m.evs ++ [(e.1, .lst (bV e.2))] := by unfold evF; rw [List.map_append]; rfl
  rw [e1, e2]
  refine List.Perm.cons _ (List.Perm.cons _ ?_)
  rw [List.append_assoc, List.append_assoc, List.append_assoc]
  refine List.Perm.append_left _ ?_
  exact List.perm_middle
end
end Nw
end
section
set_option Elab.async false
set_option linter.all false
set_option maxRecDepth 100000
set_option maxHeartbeats 2000000
namespace Nw
open PySem PySem.Spec PyProof.Rows L2
theorem erase_map {α β : Type} (f : α → β) : ∀ (l : List α) (k : Nat), (l.eraseIdx k).map f = (l.map f).eraseIdx k
  | [], _ => rfl
  | _ :: _, 0 => rfl
  | x :: l, k + 1 => by
    show f x :: (l.eraseIdx k).map f = f x :: (l.map f).eraseIdx k
    rw [erase_map f l k]
section
variable {A : Adr} {g : GW} {H : Hp} {R : List Fact}
theorem At.copyAdd {i : Nat} {m : GD} {e : Ev} (h : At A g ((e.1, .lst (bV e.2)) :: R) H) (hi : g.ds[i]? = some m) : At A (g.setD i { m with evs := m.evs ++ [e] }) R (upd H m.cp (.lst (evR m.evs ++ [.ref e.1]))) := by
  obtain ⟨S, p, q⟩ := focusD (A := A) hi
  have h1 : Holds ((m.a, .ins A.c_Desk m.dx m.fl) :: (m.cp, .lst (evR m.evs)) :: ((m.ad, .lst (asR m.asd)) :: (evF m.evs ++ m.asd.flatMap asF) ++ S ++ (e.1, .lst (bV e.2)) :: R)) H := Holds.perm h (p.append_right _)
  have h2 := (h1.swap.put (o' := .lst (evR m.evs ++ [.ref e.1]))).swap
  refine Holds.perm h2 ?_
  refine List.Perm.trans ?_ ((q { m with evs := m.evs ++ [e] } rfl).symm.append_right R)
  show List.Perm _ ((m.a, .ins A.c_Desk m.dx m.fl) :: (m.cp, .lst (evR (m.evs ++ [e]))) :: (m.ad, .lst (asR m.asd)) :: ((evF (m.evs ++ [e]) ++ m.asd.flatMap asF) ++ S ++ R))
  have e1 : evR (m.evs ++ [e]) = evR m.evs ++ [.ref e.1] := by unfold evR; rw [List.map_append]; rfl
  have e2 : evF (m.evs ++ [e]) = evF m.evs ++ [(e.1, .lst (bV e.2))] := by unfold evF; rw [List.map_append]; rfl
  rw [e1, e2]
  refine List.Perm.cons _ (List.Perm.cons _ (List.Perm.cons _ ?_))
  show List.Perm (((evF m.evs ++ m.asd.flatMap asF) ++ S) ++ ((e.1, HO.lst (bV e.2)) :: R)) (((evF m.evs ++ [(e.1, HO.lst (bV e.2))]) ++ m.asd.flatMap asF) ++ S ++ R)
  rw [List.append_assoc, List.append_assoc, List.append_assoc, List.append_assoc, List.append_assoc]
  refine List.Perm.append_left _ ?_
  show List.Perm _ ((e.1, HO.lst (bV e.2)) :: (List.flatMap asF m.asd ++ (S ++ R)))
  exact (List.Perm.append_left _ List.perm_middle).trans List.perm_middle
theorem At.asideAdd {i : Nat} {m : GD} {t : Addr × Nat × Ev} (h : At A g (asF t ++ R) H) (hi : g.ds[i]? = some m) : At A (g.setD i { m with asd := m.asd ++ [t] }) R (upd H m.ad (.lst (asR m.asd ++ [.ref t.1]))) := by
  obtain ⟨S, p, q⟩ := focusD (A := A) hi
  have h1 : Holds ((m.a, .ins A.c_Desk m.dx m.fl) :: (m.cp, .lst (evR m.evs)) :: (m.ad, .lst (asR m.asd)) :: ((evF m.evs ++ m.asd.flatMap asF) ++ S ++ (asF t ++ R))) H := Holds.perm h (p.append_right _)
  have h2 := (h1.third.put (o' := .lst (asR m.asd ++ [.ref t.1]))).unthird
  refine Holds.perm h2 ?_
  refine List.Perm.trans ?_ ((q { m with asd := m.asd ++ [t] } rfl).symm.append_right R)
  show List.Perm _ ((m.a, .ins A.c_Desk m.dx m.fl) :: (m.cp, .lst (evR m.evs)) :: (m.ad, .lst (asR (m.asd ++ [t]))) :: ((evF m.evs ++ (m.asd ++ [t]).flatMap asF) ++ S ++ R))
  have e1 : asR (m.asd ++ [t]) = asR m.asd ++ [.ref t.1] := by unfold asR; rw [List.map_append]; rfl
  have e2 : (m.asd ++ [t]).flatMap asF = m.asd.flatMap asF ++ asF t := by simp
  rw [e1, e2]
  refine List.Perm.cons _ (List.Perm.cons _ (List.Perm.cons _ ?_))
  rw [List.append_assoc, List.append_assoc, List.append_assoc, List.append_assoc, List.append_assoc]
  refine List.Perm.append_left _ (List.Perm.append_left _ ?_)
  exact pcomm
theorem At.asidePop {i k : Nat} {m : GD} {t : Addr × Nat × Ev} (h : At A g R H) (hi : g.ds[i]? = some m) (hk : m.asd[k]? = some t) :
    At A (g.setD i { m with asd := m.asd.eraseIdx k }) (asF t ++ R) (upd H m.ad (.lst ((asR m.asd).eraseIdx k))) := by
  obtain ⟨S, p, q⟩ := focusD (A := A) hi
  obtain ⟨S', p', e', _⟩ := flat_focus asF hk
  have h1 : Holds ((m.a, .ins A.c_Desk m.dx m.fl) :: (m.cp, .lst (evR m.evs)) :: (m.ad, .lst (asR m.asd)) :: ((evF m.evs ++ m.asd.flatMap asF) ++ S ++ R)) H := Holds.perm h (p.append_right _)
  have h2 := (h1.third.put (o' := .lst ((asR m.asd).eraseIdx k))).unthird
  refine Holds.perm h2 ?_
  refine List.Perm.trans ?_ ((q { m with asd := m.asd.eraseIdx k } rfl).symm.append_right _)
  show List.Perm _ ((m.a, .ins A.c_Desk m.dx m.fl) :: (m.cp, .lst (evR m.evs)) :: (m.ad, .lst (asR (m.asd.eraseIdx k))) :: ((evF m.evs ++ (m.asd.eraseIdx k).flatMap asF) ++ S ++ (asF t ++ R)))
  have e1 : asR (m.asd.eraseIdx k) = (asR m.asd).eraseIdx k := erase_map _ _ _
  rw [e1, e']
  refine List.Perm.cons _ (List.Perm.cons _ (List.Perm.cons _ ?_))
  refine List.Perm.trans (((p'.append_left _).append_right _).append_right _) ?_
  rw [List.append_assoc, List.append_assoc, List.append_assoc, List.append_assoc, List.append_assoc]
  refine List.Perm.append_left _ ?_
  refine pcomm.trans (List.Perm.append_left _ pcomm)
theorem At.deskNew {i : Nat} {m m' : GD} (h : At A g ((m'.cp, .lst []) :: (m'.ad, .lst []) :: R) H) (hi : g.ds[i]? = some m) (e1 : m'.a = m.a) (e2 : m'.dx = m.dx) (e3 : m'.evs = []) (e4 : m'.asd = []) : At A (g.setD i m') R (upd H m.a (.ins A.c_Desk m.dx m'.fl)) := by
  obtain ⟨S, p, q⟩ := focusD (A := A) hi
  have h1 : Holds ((m.a, .ins A.c_Desk m.dx m.fl) :: ((m.cp, .lst (evR m.evs)) :: (m.ad, .lst (asR m.asd)) :: (evF m.evs ++ m.asd.flatMap asF) ++ S ++ (m'.cp, .lst []) :: (m'.ad, .lst []) :: R)) H := Holds.perm h (p.append_right _)
  have h2 := h1.put (o' := .ins A.c_Desk m.dx m'.fl)
  have h3 : Holds (((m.cp, .lst (evR m.evs)) :: (m.ad, .lst (asR m.asd)) :: (evF m.evs ++ m.asd.flatMap asF)) ++ ((m.a, .ins A.c_Desk m.dx m'.fl) :: (m'.cp, .lst []) :: (m'.ad, .lst []) :: (S ++ R))) (upd H m.a (.ins A.c_Desk m.dx m'.fl)) := by
    refine h2.perm ?_
    rw [List.append_assoc]
    refine List.Perm.trans ?_ List.perm_middle.symm
    refine List.Perm.cons _ (List.Perm.append_left _ ?_)
    show List.Perm (S ++ ([_, _] ++ R)) ([(m'.cp, HO.lst []), (m'.ad, HO.lst [])] ++ (S ++ R))
    exact pcomm
  refine Holds.perm h3.right ?_
  refine List.Perm.trans ?_ ((q m' e1).symm.append_right R)
  unfold GD.fs
  rw [e1, e2, e3, e4]
  exact List.Perm.refl _
theorem At.asideNew {i : Nat} {m m' : GD} (h : At A g ((m'.ad, .lst []) :: R) H) (hi : g.ds[i]? = some m) (e1 : m'.a = m.a) (e2 : m'.dx = m.dx) (e3 : m'.evs = m.evs) (e4 : m'.asd = []) (e5 : m'.cp = m.cp) : At A (g.setD i m') R (upd H m.a (.ins A.c_Desk m.dx m'.fl)) := by
  obtain ⟨S, p, q⟩ := focusD (A := A) hi
  have h1 : Holds ((m.a, .ins A.c_Desk m.dx m.fl) :: ((m.cp, .lst (evR m.evs)) :: (m.ad, .lst (asR m.asd)) :: (evF m.evs ++ m.asd.flatMap asF) ++ S ++ (m'.ad, .lst []) :: R)) H := Holds.perm h (p.append_right _)
  have h2 := h1.put (o' := .ins A.c_Desk m.dx m'.fl)
  have h3 : Holds (((m.ad, .lst (asR m.asd)) :: m.asd.flatMap asF) ++ ((m.a, .ins A.c_Desk m.dx m'.fl) :: (m.cp, .lst (evR m.evs)) :: (m'.ad, .lst []) :: (evF m.evs ++ (S ++ R)))) (upd H m.a (.ins A.c_Desk m.dx m'.fl)) := by
    refine h2.perm ?_
    refine List.Perm.trans ?_ List.perm_middle.symm
    refine List.Perm.cons _ ?_
    show List.Perm ((m.cp, HO.lst (evR m.evs)) :: (m.ad, HO.lst (asR m.asd)) :: ((evF m.evs ++ m.asd.flatMap asF) ++ S ++ ((m'.ad, HO.lst []) :: R))) _
    refine (List.Perm.swap ..).trans (List.Perm.cons _ ?_)
    refine List.Perm.trans ?_ List.perm_middle.symm
    refine List.Perm.cons _ ?_
    refine List.Perm.trans List.perm_middle ?_
    refine List.Perm.trans ?_ List.perm_middle.symm
    refine List.Perm.cons _ ?_
    rw [List.append_assoc, List.append_assoc]
    exact pcomm
  refine Holds.perm h3.right ?_
  refine List.Perm.trans ?_ ((q m' e1).symm.append_right R)
  unfold GD.fs
  rw [e1, e2, e3, e4, e5]
  show List.Perm _ (_ :: _ :: _ :: (evF m.evs ++ [] ++ S ++ R))
  rw [List.append_nil, List.append_assoc]
  exact List.Perm.refl _
theorem lpFirst (l : List GP) : (({ g with ps := l } : GW).fs A).Perm ((g.lp, .lst (pR l)) :: ([(g.a, .ins A.c_Ward g.dx g.fl), (g.lm, .lst (mR g.ms)), (g.ld, .lst (dR g.ds))] ++ (g.ms.flatMap (GM.fs A) ++ (g.ds.flatMap (GD.fs A) ++ l.flatMap (GP.fs A))))) :=
  List.perm_middle (l₁ := [_, _, _])
theorem At.addP {p : GP} (h : At A g (p.fs A ++ R) H) : At A { g with ps := g.ps ++ [p] } R (upd H g.lp (.lst (pR g.ps ++ [.ref p.a]))) := by
  have h1 := Holds.perm h ((lpFirst (A := A) (g := g) g.ps).append_right _)
  have h2 := Holds.put (o' := .lst (pR g.ps ++ [.ref p.a])) h1
  refine Holds.perm h2 ?_
  refine List.Perm.trans ?_ ((lpFirst (A := A) (g := g) (g.ps ++ [p])).symm.append_right R)
  have e1 : pR (g.ps ++ [p]) = pR g.ps ++ [.ref p.a] := by unfold pR; rw [List.map_append]; rfl
  have e2 : (g.ps ++ [p]).flatMap (GP.fs A) = g.ps.flatMap (GP.fs A) ++ p.fs A := by simp
  rw [e1, e2]
  refine List.Perm.cons _ ?_
  show List.Perm (([(g.a, HO.ins A.c_Ward g.dx g.fl), (g.lm, HO.lst (mR g.ms)), (g.ld, HO.lst (dR g.ds))] ++ (g.ms.flatMap (GM.fs A) ++ (g.ds.flatMap (GD.fs A) ++ g.ps.flatMap (GP.fs A)))) ++ (p.fs A ++ R)) (([(g.a, HO.ins A.c_Ward g.dx g.fl), (g.lm, HO.lst (mR g.ms)), (g.ld, HO.lst (dR g.ds))] ++ (g.ms.flatMap (GM.fs A) ++ (g.ds.flatMap (GD.fs A) ++ (g.ps.flatMap (GP.fs A) ++ p.fs A)))) ++ R)
  simp only [List.append_assoc]
  exact List.Perm.refl _
theorem At.delP {i : Nat} {p : GP} (h : At A g R H) (hi : g.ps[i]? = some p) : At A { g with ps := g.ps.eraseIdx i } (p.fs A ++ R) (upd H g.lp (.lst ((pR g.ps).eraseIdx i))) := by
  obtain ⟨S, q, e, _⟩ := flat_focus (GP.fs A) hi
  have h1 := Holds.perm h ((lpFirst (A := A) (g := g) g.ps).append_right _)
  have h2 := Holds.put (o' := .lst ((pR g.ps).eraseIdx i)) h1
  refine Holds.perm h2 ?_
  refine List.Perm.trans ?_ ((lpFirst (A := A) (g := g) (g.ps.eraseIdx i)).symm.append_right _)
  have e1 : pR (g.ps.eraseIdx i) = (pR g.ps).eraseIdx i := erase_map _ _ _
  rw [e1, e]
  refine List.Perm.cons _ ?_
  show List.Perm (([(g.a, HO.ins A.c_Ward g.dx g.fl), (g.lm, HO.lst (mR g.ms)), (g.ld, HO.lst (dR g.ds))] ++ (g.ms.flatMap (GM.fs A) ++ (g.ds.flatMap (GD.fs A) ++ g.ps.flatMap (GP.fs A)))) ++ R) (([(g.a, HO.ins A.c_Ward g.dx g.fl), (g.lm, HO.lst (mR g.ms)), (g.ld, HO.lst (dR g.ds))] ++ (g.ms.flatMap (GM.fs A) ++ (g.ds.flatMap (GD.fs A) ++ S))) ++ (p.fs A ++ R))
  refine List.Perm.trans ((((q.append_left _).append_left _).append_left _).append_right _) ?_
  rw [List.append_assoc, List.append_assoc, List.append_assoc, List.append_assoc, List.append_assoc, List.append_assoc, List.append_assoc]
  refine List.Perm.append_left _ (List.Perm.append_left _ (List.Perm.append_left _ ?_))
  exact pcomm
theorem At.setP {i : Nat} {m m' : GP} (h : At A g R H) (hi : g.ps[i]? = some m) (e1 : m'.a = m.a) (e2 : m'.dx = m.dx) (e3 : m'.oc = m.oc) (e4 : m'.b = m.b) : At A (g.setP i m') R (upd H m.a (.ins A.c_Packet m.dx m'.fl)) := by
  obtain ⟨S, p, q⟩ := focusP (A := A) hi
  have h1 : Holds ((m.a, .ins A.c_Packet m.dx m.fl) :: ([(m.oc, .lst (bV m.b))] ++ S ++ R)) H := Holds.perm h (p.append_right R)
  have h2 : Holds (m'.fs A ++ S ++ R) (upd H m.a (.ins A.c_Packet m.dx m'.fl)) := by
    have e : m'.fs A = [(m.a, .ins A.c_Packet m.dx m'.fl), (m.oc, .lst (bV m.b))] := by
      unfold GP.fs
      rw [e1, e2, e3, e4]
    rw [e]
    exact h1.put
  exact h2.perm ((q m' e1).symm.append_right R)
theorem At.octP {i : Nat} {m : GP} {b : List Nat} (h : At A g R H) (hi : g.ps[i]? = some m) : At A (g.setP i { m with b := b }) R (upd H m.oc (.lst (bV b))) := by
  obtain ⟨S, p, q⟩ := focusP (A := A) hi
  have h1 : Holds ((m.a, .ins A.c_Packet m.dx m.fl) :: (m.oc, .lst (bV m.b)) :: (S ++ R)) H := Holds.perm h (p.append_right R)
  have h2 := (h1.swap.put (o' := .lst (bV b))).swap
  exact h2.perm ((q { m with b := b } rfl).symm.append_right R)
end
end Nw
end
section
set_option Elab.async false
set_option linter.all false
set_option maxRecDepth 100000
set_option maxHeartbeats 2000000
namespace Nw
open PySem PySem.Spec PyProof.Rows L2
def bData (b : List Nat) : PyData := .list (b.map fun (n : Nat) => PyData.int (n : Int))
def eData (l : List (List Nat)) : PyData := .list (l.map bData)
theorem dp_ints {K : PySem.W.Frag} {H : Hp} : ∀ b : List Nat, DpAll K H (bV b) (b.map fun (n : Nat) => PyData.int (n : Int))
  | [] => .nil
  | n :: r => .cons (.int n) (dp_ints r)
theorem dp_evs {K : PySem.W.Frag} {H : Hp} : ∀ {evs : List Ev}, (∀ e ∈ evs, H e.1 = some (.lst (bV e.2))) → DpAll K H (evR evs) ((evs.map (·.2)).map bData)
  | [], _ => .nil
  | e :: r, h => .cons (.lst (SqL.of (h e (List.mem_cons_self ..))) (dp_ints e.2)) (dp_evs fun x hx => h x (List.mem_cons_of_mem _ hx))
theorem dp_list {K : PySem.W.Frag} {H : Hp} {l : Addr} {evs : List Ev} (hl : H l = some (.lst (evR evs))) (h : ∀ e ∈ evs, H e.1 = some (.lst (bV e.2))) : Dp K H (.ref l) (eData (evs.map (·.2))) := .lst (SqL.of hl) (dp_evs h)
theorem lay_b : ∀ b : List Nat, PyData.canLayAll0 (b.map fun (n : Nat) => PyData.int (n : Int)) = true ∧ PyData.depthAll (b.map fun (n : Nat) => PyData.int (n : Int)) = 0
  | [] => by constructor <;> simp [PyData.canLayAll0, PyData.depthAll]
  | n :: r => by
    obtain ⟨h1, h2⟩ := lay_b r
    constructor
    · simp only [List.map_cons, PyData.canLayAll0, PyData.canLay0, h1, Bool.and_self]
    · simp only [List.map_cons, PyData.depthAll, PyData.depth, h2, Nat.max_self]
theorem lay_e : ∀ l : List (List Nat), PyData.canLayAll0 (l.map bData) = true ∧ PyData.depthAll (l.map bData) ≤ 1
  | [] => by constructor <;> simp [PyData.canLayAll0, PyData.depthAll]
  | b :: r => by
    obtain ⟨h1, h2⟩ := lay_e r
    obtain ⟨h3, h4⟩ := lay_b b
    constructor
    · rw [List.map_cons, PyData.canLayAll0, h1]
      unfold bData
      rw [PyData.canLay0, h3]
      rfl
    · rw [List.map_cons, PyData.depthAll]
      unfold bData at h2 ⊢
      rw [PyData.depth, h4]
      exact Nat.max_le.mpr ⟨Nat.le_refl _, h2⟩
theorem shaped_e (l : List (List Nat)) : SeqAt.shaped (eData l) = true := by
  obtain ⟨h1, h2⟩ := lay_e l
  unfold SeqAt.shaped eData
  rw [PyData.canLay0, h1, PyData.depth, Bool.true_and, decide_eq_true_eq]
  omega
theorem eqv_b : ∀ x y : List Nat, PyData.eqvAll (x.map fun (n : Nat) => PyData.int (n : Int)) (y.map fun (n : Nat) => PyData.int (n : Int)) = true ↔ x = y
  | [], [] => by simp [PyData.eqvAll]
  | [], _ :: _ => by simp [PyData.eqvAll]
  | _ :: _, [] => by simp [PyData.eqvAll]
  | n :: x, m :: y => by
    have ih := eqv_b x y
    rw [List.map_cons, List.map_cons, PyData.eqvAll, Bool.and_eq_true, ih, PyData.eqv, beq_iff_eq, List.cons.injEq]
    exact and_congr_left fun _ => Int.ofNat_inj
theorem eqv_e : ∀ x y : List (List Nat), PyData.eqvAll (x.map bData) (y.map bData) = true ↔ x = y
  | [], [] => by simp [PyData.eqvAll]
  | [], _ :: _ => by simp [PyData.eqvAll]
  | _ :: _, [] => by simp [PyData.eqvAll]
  | n :: x, m :: y => by
    have ih := eqv_e x y
    rw [List.map_cons, List.map_cons, PyData.eqvAll, Bool.and_eq_true, ih, List.cons.injEq]
    refine and_congr_left fun _ => ?_
    unfold bData
    rw [PyData.eqv]
    exact eqv_b n m
theorem eqv_eq (x y : List (List Nat)) : PyData.eqv (eData x) (eData y) = (x == y) := by
  rw [Bool.eq_iff_iff, beq_iff_eq]
  unfold eData
  rw [PyData.eqv]
  exact eqv_e x y
section
variable {A : Adr} {g : GW} {H : Hp} {R : List Fact}
theorem At.takeAll {l : Addr} (h : At A g ((l, .lst []) :: R) H) : At A { g with lp := l, ps := [] } ((g.lp, .lst (pR g.ps)) :: (g.ps.flatMap (GP.fs A) ++ R)) (upd H g.a (.ins A.c_Ward g.dx ({ g with lp := l, ps := [] } : GW).fl)) := by
  have h1 : Holds ((g.a, .ins A.c_Ward g.dx g.fl) :: ([(g.lm, .lst (mR g.ms)), (g.ld, .lst (dR g.ds)), (g.lp, .lst (pR g.ps))] ++ (g.ms.flatMap (GM.fs A) ++ (g.ds.flatMap (GD.fs A) ++ g.ps.flatMap (GP.fs A))) ++ ((l, .lst []) :: R))) H := h
  have h2 := h1.put (o' := .ins A.c_Ward g.dx ({ g with lp := l, ps := [] } : GW).fl)
  refine Holds.perm h2 ?_
  show List.Perm _ ((g.a, .ins A.c_Ward g.dx ({ g with lp := l, ps := [] } : GW).fl) :: ([(g.lm, .lst (mR g.ms)), (g.ld, .lst (dR g.ds)), (l, .lst [])] ++ (g.ms.flatMap (GM.fs A) ++ (g.ds.flatMap (GD.fs A) ++ [])) ++ ((g.lp, .lst (pR g.ps)) :: (g.ps.flatMap (GP.fs A) ++ R))))
  refine List.Perm.cons _ ?_
  rw [List.append_nil]
  show List.Perm ((g.lm, HO.lst (mR g.ms)) :: (g.ld, HO.lst (dR g.ds)) :: (g.lp, HO.lst (pR g.ps)) :: ((g.ms.flatMap (GM.fs A) ++ (g.ds.flatMap (GD.fs A) ++ g.ps.flatMap (GP.fs A))) ++ ((l, HO.lst []) :: R)))
    ((g.lm, HO.lst (mR g.ms)) :: (g.ld, HO.lst (dR g.ds)) :: (l, HO.lst []) :: ((g.ms.flatMap (GM.fs A) ++ g.ds.flatMap (GD.fs A)) ++ ((g.lp, HO.lst (pR g.ps)) :: (g.ps.flatMap (GP.fs A) ++ R))))
  refine List.Perm.cons _ (List.Perm.cons _ ?_)
  refine List.Perm.trans (List.Perm.cons _ List.perm_middle) ?_
  refine List.Perm.trans (List.Perm.swap ..) (List.Perm.cons _ ?_)
  refine List.Perm.trans ?_ List.perm_middle.symm
  refine List.Perm.cons _ ?_
  rw [List.append_assoc, List.append_assoc, List.append_assoc]
end
end Nw
end
section
set_option Elab.async false
set_option linter.all false
set_option maxRecDepth 100000
set_option maxHeartbeats 2000000
namespace Nw
open PySem PySem.Spec PyProof.Rows L2
section
variable {P : Program} {w : World} {K : PySem.W.Frag} {mg : Str → Option Value} {base : Heap} {a : Adr}
def sp_Packet_init (C : Addr) : Sp := fun vs H Q _ => ∃ (p dx : Addr) (x y z : V), vs = [.ref p, x, y, z] ∧ H p = some (.ins C dx []) ∧ Q .non (upd H p (.ins C dx [("goes_to", x), ("machine", y), ("octets", z), ("spoiled", .bl false)]))
theorem ok_Packet_init (T : Txt K mg a) : FnOk P w K mg base CX0 1 a.f_Packet_init a.d_Packet_init p_Packet_init (sp_Packet_init a.c_Packet) := by
  refine T.Packet.F.ok sc_Packet_init (fun vs H Q E h => ?_) (fun cdv A outer s H vs Q E hr h => ?_)
  · obtain ⟨p, dx, x, y, z, rfl, _⟩ := h
    rfl
  · obtain ⟨p, dx, x, y, z, rfl, hp, k⟩ := h
    refine ⟨_, (pss_cons (ps_fld (pv 0) (pv 1) rfl)
      (pss_cons (ps_fld (pv 0) (pv 2) rfl)
      (pss_cons (ps_fld (pv 0) (pv 3) rfl)
      (pss_one (ps_fld (pv 0) pe_bl rfl))))), ?_⟩
    refine ⟨_, rfl, _, rfl, p, _, dx, _, rfl, hp, T.Packet.cl, T.n_Packet_goes_to, (by show 0 < 1000; decide), ?_⟩
    refine ⟨_, rfl, _, rfl, p, _, dx, _, rfl, upd_same, T.Packet.cl, T.n_Packet_machine, (by show 1 < 1000; decide), ?_⟩
    refine ⟨_, rfl, _, rfl, p, _, dx, _, rfl, upd_same, T.Packet.cl, T.n_Packet_octets, (by show 2 < 1000; decide), ?_⟩
    refine ⟨_, rfl, p, _, dx, _, rfl, upd_same, T.Packet.cl, T.n_Packet_spoiled, (by show 3 < 1000; decide), ?_⟩
    show Q .non _
    rw [upd_upd, upd_upd, upd_upd]
    exact k
def machF (l : Addr) : List (Str × V) := [("log", .ref l), ("power", .bl true), ("turn", .int 0), ("acked", .int 0), ("next_place", .int 0), ("timer", .int 0)]
def sp_Machine_init (C : Addr) : Sp := fun vs H Q _ => ∃ (p dx : Addr), vs = [.ref p] ∧ H p = some (.ins C dx []) ∧ ∀ l, H l = none → Q .non (upd (upd H l (.lst [])) p (.ins C dx (machF l)))
theorem ok_Machine_init (T : Txt K mg a) : FnOk P w K mg base CX0 1 a.f_Machine_init a.d_Machine_init p_Machine_init (sp_Machine_init a.c_Machine) := by
  refine T.Machine.F.ok sc_Machine_init (fun vs H Q E h => ?_) (fun cdv A outer s H vs Q E hr h => ?_)
  · obtain ⟨p, dx, rfl, _⟩ := h
    rfl
  · obtain ⟨p, dx, rfl, hp, k⟩ := h
    refine ⟨_, (pss_cons (ps_fld (pv 0) (pe_lst pa_nil) rfl)
      (pss_cons (ps_fld (pv 0) pe_bl rfl)
      (pss_cons (ps_fld (pv 0) pe_int rfl)
      (pss_cons (ps_fld (pv 0) pe_int rfl)
      (pss_cons (ps_fld (pv 0) pe_int rfl)
      (pss_one (ps_fld (pv 0) pe_int rfl))))))), ?_⟩
    refine ⟨Nat.zero_le _, fun l hl => ?_⟩
    have hpl : p ≠ l := ne_of_none hp hl
    refine ⟨_, rfl, p, _, dx, _, rfl, (by rw [upd_ne hpl]; exact hp), T.Machine.cl, T.n_Machine_log, (by show 0 < 1000; decide), ?_⟩
    refine ⟨_, rfl, p, _, dx, _, rfl, upd_same, T.Machine.cl, T.n_Machine_power, (by show 1 < 1000; decide), ?_⟩
    refine ⟨_, rfl, p, _, dx, _, rfl, upd_same, T.Machine.cl, T.n_Machine_turn, (by show 2 < 1000; decide), ?_⟩
    refine ⟨_, rfl, p, _, dx, _, rfl, upd_same, T.Machine.cl, T.n_Machine_acked, (by show 3 < 1000; decide), ?_⟩
    refine ⟨_, rfl, p, _, dx, _, rfl, upd_same, T.Machine.cl, T.n_Machine_next_place, (by show 4 < 1000; decide), ?_⟩
    refine ⟨_, rfl, p, _, dx, _, rfl, upd_same, T.Machine.cl, T.n_Machine_timer, (by show 5 < 1000; decide), ?_⟩
    show Q .non _
    rw [upd_upd, upd_upd, upd_upd, upd_upd, upd_upd]
    exact k l hl
def deskF (l q : Addr) : List (Str × V) := [("turn", .int 0), ("copied", .ref l), ("aside", .ref q)]
def sp_Desk_init (C : Addr) : Sp := fun vs H Q _ => ∃ (p dx : Addr), vs = [.ref p] ∧ H p = some (.ins C dx []) ∧ ∀ l q : Addr, H l = none → upd H l (.lst []) q = none → Q .non (upd (upd (upd H l (.lst [])) q (.lst [])) p (.ins C dx (deskF l q)))
theorem ok_Desk_init (T : Txt K mg a) : FnOk P w K mg base CX0 1 a.f_Desk_init a.d_Desk_init p_Desk_init (sp_Desk_init a.c_Desk) := by
  refine T.Desk.F.ok sc_Desk_init (fun vs H Q E h => ?_) (fun cdv A outer s H vs Q E hr h => ?_)
  · obtain ⟨p, dx, rfl, _⟩ := h
    rfl
  · obtain ⟨p, dx, rfl, hp, k⟩ := h
    refine ⟨_, (pss_cons (ps_fld (pv 0) pe_int rfl)
      (pss_cons (ps_fld (pv 0) (pe_lst pa_nil) rfl)
      (pss_one (ps_fld (pv 0) (pe_lst pa_nil) rfl)))), ?_⟩
    refine ⟨_, rfl, p, _, dx, _, rfl, hp, T.Desk.cl, T.n_Desk_turn, (by show 0 < 1000; decide), ?_⟩
    refine ⟨Nat.zero_le _, fun l hl => ?_⟩
    have hpl : p ≠ l := ne_of_none upd_same hl
    refine ⟨_, rfl, p, _, dx, _, rfl, (by rw [upd_ne hpl]; exact upd_same), T.Desk.cl, T.n_Desk_copied, (by show 1 < 1000; decide), ?_⟩
    refine ⟨Nat.zero_le _, fun q hq => ?_⟩
    have hpq : p ≠ q := ne_of_none upd_same hq
    have hlq : l ≠ q := ne_of_none (by rw [upd_ne (Ne.symm hpl)]; exact upd_same) hq
    refine ⟨_, rfl, p, _, dx, _, rfl, (by rw [upd_ne hpq]; exact upd_same), T.Desk.cl, T.n_Desk_aside, (by show 2 < 1000; decide), ?_⟩
    have hl0 : H l = none := by rw [upd_ne (Ne.symm hpl)] at hl; exact hl
    have hq0 : upd H l (.lst []) q = none := by
      rw [upd_ne (Ne.symm hpq), upd_ne (Ne.symm hlq), upd_ne (Ne.symm hpq)] at hq
      rw [upd_ne (Ne.symm hlq)]
      exact hq
    have eh : ∀ o1 o2 o3 : HO, upd (upd (upd (upd (upd H p o1) l (.lst [])) p o2) q (.lst [])) p o3 = upd (upd (upd H l (.lst [])) q (.lst [])) p o3 := fun o1 o2 o3 => by
      funext b
      by_cases hb : b = p
      · subst hb; rw [upd_same, upd_same]
      · rw [upd_ne hb, upd_ne hb]
        by_cases hb2 : b = q
        · subst hb2; rw [upd_same, upd_same]
        · rw [upd_ne hb2, upd_ne hb2, upd_ne hb]
          by_cases hb3 : b = l
          · subst hb3; rw [upd_same, upd_same]
          · rw [upd_ne hb3, upd_ne hb3, upd_ne hb]
    show Q .non _
    rw [eh]
    exact k l q hl0 hq0
def GW.withNet (g : GW) (ps : List GP) (lost : Nat) : GW := { g with ps := ps, lost := lost }
structure Sent (g g' : GW) (toS : Bool) (m : Nat) (f : VFrame) : Prop where
  net : ∃ ps lost, g' = g.withNet ps lost
  st : g'.st = Vbdlao.send g.st toS m f
def sp_send (a : Adr) : Sp := fun vs H Q _ => ∃ (g : GW) (R : List Fact) (toS : Bool) (m : Nat) (t : Addr) (f : VFrame), vs = [.ref g.a, dirV toS, .int m, .ref t] ∧ At a g R H ∧ ToldAt H t f ∧ small f ∧
  ∀ (g' : GW) (H' : Hp), At a g' R H' → Sent g g' toS m f → Q .non H'
theorem ok_send (T : Txt K mg a) : FnOk P w K mg base CX0 4 a.f_send a.d_send p_send (sp_send a) := by
  refine T.send.F.ok sc_send (fun vs H Q E h => ?_) (fun cdv A outer s H vs Q E hr h => ?_)
  · obtain ⟨g, R, toS, m, t, f, rfl, _⟩ := h
    rfl
  · obtain ⟨g, R, toS, m, t, f, rfl, hA, hT, hs, k⟩ := h
    refine ⟨_, (pss_cons (ps_if (pt_cmpR op_ge (pe_callB call_len_seq rfl T.b_len PySem.boot_len (pa_cons (pe_fld (pv 0) rfl) pa_nil)) (pe_gint rfl T.c_NET_LIMIT) (nomark _)) (pss_cons (ps_fldaug (pv 0) pe_int in_add)
      (pss_one ps_retN)) pss_nil)
      (pss_one (ps_expr (pe_bm PySem.F.plainAttrs_list PySem.F.slot_list_append PySem.F.type_list_append mt_append (pe_fld (pv 0) rfl) (pa_cons (pe_make T.Packet.mkr (ok_Packet_init T) (hr.mono (by decide)) rfl T.Packet.mg T.Packet.b .nil pass0 (pa_cons (pv 1) (pa_cons (pv 2) (pa_cons (pe_call (ok_make_frame T) (hr.mono (by decide)) rfl T.make_frame.mg T.make_frame.F.kp T.make_frame.b .nil pass0 (pa_cons (pv 3) pa_nil)) pa_nil)))) pa_nil))))), ?_⟩
    have hw := hA.ward
    have hlp := hA.lp
    have hlen : (pR g.ps).length = g.ps.length := by unfold pR; rw [List.length_map]
    have hnl : g.st.net.length = g.ps.length := by show (g.ps.map GP.st).length = _; rw [List.length_map]
    refine ⟨_, rfl, g.a, _, g.dx, _, _, rfl, hw, T.Ward.cl, T.n_Ward_packets, rfl, g.lp, _, rfl, .inl (SqL.of hlp), _, _, rfl, rfl, _, rfl, ifc (fun hge => ?_) fun hlt => ?_⟩
    · rw [hlen] at hge
      refine ⟨_, rfl, g.a, _, g.dx, _, _, rfl, hw, T.Ward.cl, T.n_Ward_lost, rfl, _, _, rfl, rfl, g.dx, _, hw, (by show 9 < 1000; decide), ?_⟩
      refine k (g.withNet g.ps (g.lost + 1)) _ (hA.setW (g' := g.withNet g.ps (g.lost + 1)) rfl rfl rfl) ⟨⟨_, _, rfl⟩, ?_⟩
      unfold Vbdlao.send
      rw [hnl, if_pos (show Vbdlao.NET ≤ g.ps.length by show 200 ≤ _; omega)]
      rfl
    · rw [hlen] at hlt
      refine ⟨_, rfl, g.a, _, g.dx, _, _, rfl, hw, T.Ward.cl, T.n_Ward_packets, rfl, .inl ⟨rfl, _, SqL.of hlp⟩, ?_⟩
      refine ⟨_, rfl, _, rfl, _, rfl, t, f, rfl, hT, hs, fun o H1 ho s1 e1 => ?_⟩
      intro x dx nx ndx nex
      refine ⟨x, dx, _, _, _, rfl, upd_same, rfl, ?_⟩
      have hA1 : At a g ((o, .lst (bV (Vbdlao.bytesOf f))) :: R) H1 := hA.add s1 ho e1
      have hA2 := (hA1.new (o := .own x) ndx)
      have nx2 : (upd H1 dx (.own x)) x = none := by rw [upd_ne (Ne.symm nex)]; exact nx
      rw [upd_upd]
      have hA3 := hA2.new (o := .ins a.c_Packet dx [("goes_to", dirV toS), ("machine", .int m), ("octets", .ref o), ("spoiled", .bl false)]) nx2
      let p : GP := ⟨x, dx, o, toS, m, Vbdlao.bytesOf f, false⟩
      have hA4 : At a g (p.fs a ++ ((dx, .own x) :: R)) _ := hA3.perm ((List.Perm.swap ..).cons _)
      refine ⟨g.lp, _, _, rfl, rfl, hA4.lp, (by rw [hlen]; exact Nat.lt_of_lt_of_le (show g.ps.length < 200 by omega) (by decide)), ?_⟩
      refine k { g with ps := g.ps ++ [p] } _ hA4.addP.drop ⟨⟨g.ps ++ [p], g.lost, rfl⟩, ?_⟩
      unfold Vbdlao.send
      rw [hnl, if_neg (show ¬ Vbdlao.NET ≤ g.ps.length by show ¬ 200 ≤ _; omega)]
      show Vbdlao.St.mk _ _ _ _ ((g.ps ++ [p]).map GP.st) _ _ _ _ = _
      rw [List.map_append]
      rfl
end
end Nw
end
section
set_option Elab.async false
set_option linter.all false
set_option maxRecDepth 100000
set_option maxHeartbeats 2000000
namespace Nw
open PySem PySem.Spec PyProof.Rows L2
theorem GW.machine_at {g : GW} {i : Nat} {m : GM} (h : g.ms[i]? = some m) : Vbdlao.machine g.st i = m.st := by
  show (g.ms.map GM.st).getD i _ = _
  rw [List.getD_eq_getElem?_getD, List.getElem?_map, h]
  rfl
theorem GW.desk_at {g : GW} {i : Nat} {m : GD} (h : g.ds[i]? = some m) : Vbdlao.desk g.st i = m.st := by
  show (g.ds.map GD.st).getD i _ = _
  rw [List.getD_eq_getElem?_getD, List.getElem?_map, h]
  rfl
theorem GW.put_machine (g : GW) (i : Nat) (m : GM) : (g.setM i m).st = Vbdlao.putMachine g.st i m.st := by
  show Vbdlao.St.mk _ _ ((g.ms.set i m).map GM.st) _ _ _ _ _ _ = _
  rw [List.map_set]
  rfl
theorem GW.put_desk (g : GW) (i : Nat) (m : GD) : (g.setD i m).st = Vbdlao.putDesk g.st i m.st := by
  show Vbdlao.St.mk _ _ _ ((g.ds.set i m).map GD.st) _ _ _ _ _ = _
  rw [List.map_set]
  rfl
theorem mR_at {l : List GM} {i : Nat} {m : GM} (h : l[i]? = some m) : atI (mR l) (i : Int) = some (.ref m.a) := atI_nat (by unfold mR; rw [List.getElem?_map, h]; rfl)
theorem dR_at {l : List GD} {i : Nat} {m : GD} (h : l[i]? = some m) : atI (dR l) (i : Int) = some (.ref m.a) := atI_nat (by unfold dR; rw [List.getElem?_map, h]; rfl)
theorem pR_at {l : List GP} {i : Nat} {m : GP} (h : l[i]? = some m) : atI (pR l) (i : Int) = some (.ref m.a) := atI_nat (by unfold pR; rw [List.getElem?_map, h]; rfl)
theorem evR_at {l : List Ev} {i : Nat} {m : Ev} (h : l[i]? = some m) : atI (evR l) (i : Int) = some (.ref m.1) := atI_nat (by unfold evR; rw [List.getElem?_map, h]; rfl)
theorem evR_len (l : List Ev) : (evR l).length = l.length := by unfold evR; rw [List.length_map]
theorem mR_len (l : List GM) : (mR l).length = l.length := by unfold mR; rw [List.length_map]
theorem dR_len (l : List GD) : (dR l).length = l.length := by unfold dR; rw [List.length_map]
theorem pR_len (l : List GP) : (pR l).length = l.length := by unfold pR; rw [List.length_map]
structure Keep (g g' : GW) : Prop where
  a : g'.a = g.a
  m : g'.ms.map (·.a) = g.ms.map (·.a)
  d : g'.ds.map (·.a) = g.ds.map (·.a)
theorem Keep.refl (g : GW) : Keep g g := ⟨rfl, rfl, rfl⟩
theorem Keep.trans {g1 g2 g3 : GW} (h : Keep g1 g2) (k : Keep g2 g3) : Keep g1 g3 := ⟨k.a.trans h.a, k.m.trans h.m, k.d.trans h.d⟩
theorem Sent.keep {g g' : GW} {t : Bool} {m : Nat} {f : VFrame} (h : Sent g g' t m f) : Keep g g' := by
  obtain ⟨ps, l, rfl⟩ := h.net
  exact ⟨rfl, rfl, rfl⟩
theorem Keep.setM {g : GW} {i : Nat} {m m' : GM} (h : g.ms[i]? = some m) (e : m'.a = m.a) : Keep g (g.setM i m') := ⟨rfl, set_map (fun m : GM => m.a) h e, rfl⟩
theorem Keep.setD {g : GW} {i : Nat} {m m' : GD} (h : g.ds[i]? = some m) (e : m'.a = m.a) : Keep g (g.setD i m') := ⟨rfl, rfl, set_map (fun m : GD => m.a) h e⟩
theorem Keep.mach {g g' : GW} (h : Keep g g') {i : Nat} {m : GM} (hi : g.ms[i]? = some m) : ∃ m', g'.ms[i]? = some m' ∧ m'.a = m.a := by
  have e : (g'.ms.map (·.a))[i]? = (g.ms.map (·.a))[i]? := by rw [h.m]
  rw [List.getElem?_map, List.getElem?_map, hi] at e
  cases q : g'.ms[i]? with
  | none => rw [q] at e; cases e
  | some m' => rw [q] at e; exact ⟨m', rfl, Option.some.inj e⟩
theorem Keep.desk {g g' : GW} (h : Keep g g') {i : Nat} {m : GD} (hi : g.ds[i]? = some m) : ∃ m', g'.ds[i]? = some m' ∧ m'.a = m.a := by
  have e : (g'.ds.map (·.a))[i]? = (g.ds.map (·.a))[i]? := by rw [h.d]
  rw [List.getElem?_map, List.getElem?_map, hi] at e
  cases q : g'.ds[i]? with
  | none => rw [q] at e; cases e
  | some m' => rw [q] at e; exact ⟨m', rfl, Option.some.inj e⟩
theorem Keep.mlen {g g' : GW} (h : Keep g g') : g'.ms.length = g.ms.length := by
  have e := congrArg List.length h.m
  rwa [List.length_map, List.length_map] at e
theorem getM {g : GW} {i : Nat} (h : i < g.ms.length) : ∃ m, g.ms[i]? = some m := ⟨_, List.getElem?_eq_getElem h⟩
theorem getD' {g : GW} {i : Nat} (h : i < g.ds.length) : ∃ m, g.ds[i]? = some m := ⟨_, List.getElem?_eq_getElem h⟩
theorem setM_get {g : GW} {i : Nat} {m m' : GM} (h : g.ms[i]? = some m) : (g.setM i m').ms[i]? = some m' := List.getElem?_set_self (List.getElem?_eq_some_iff.mp h).1
theorem setD_get {g : GW} {i : Nat} {m m' : GD} (h : g.ds[i]? = some m) : (g.setD i m').ds[i]? = some m' := List.getElem?_set_self (List.getElem?_eq_some_iff.mp h).1
section
variable {P : Program} {w : World} {K : PySem.W.Frag} {mg : Str → Option Value} {base : Heap} {a : Adr}
def sp_send_ask (a : Adr) : Sp := fun vs H Q _ => ∃ (g : GW) (R : List Fact) (m : Nat), vs = [.ref g.a, .int m] ∧ At a g R H ∧ ∀ (g' : GW) (H' : Hp), At a g' R H' → Sent g g' true m (.ask m) → Q .non H'
theorem ok_send_ask (T : Txt K mg a) : FnOk P w K mg base CX0 5 a.f_send_ask a.d_send_ask p_send_ask (sp_send_ask a) := by
  refine T.send_ask.F.ok sc_send_ask (fun vs H Q E h => ?_) (fun cdv A outer s H vs Q E hr h => ?_)
  · obtain ⟨g, R, m, rfl, _⟩ := h
    rfl
  · obtain ⟨g, R, m, rfl, hA, k⟩ := h
    refine ⟨_, (pss_one (ps_expr (pe_call (ok_send T) (hr.mono (by decide)) rfl T.send.mg T.send.F.kp T.send.b .nil pass0 (pa_cons (pv 0) (pa_cons (pe_gint rfl T.c_TO_STATION) (pa_cons (pv 1) (pa_cons (pe_tup (pa_cons (pe_gint rfl T.c_ASK) (pa_cons (pv 1) pa_nil))) pa_nil))))))), ?_⟩
    refine ⟨_, rfl, _, rfl, _, rfl, (by show 2 ≤ sizeLine; decide), fun t ht => ?_⟩
    exact ⟨g, R, true, m, t, .ask m, rfl, hA.same (Same.new ht), upd_same, trivial, fun g' H' hA' hs => k g' H' hA' hs⟩
def sp_station_acks (a : Adr) : Sp := fun vs H Q _ => ∃ (g : GW) (R : List Fact) (m : Nat) (d : GD), vs = [.ref g.a, .int m] ∧ At a g R H ∧ g.ds[m]? = some d ∧
  ∀ (g' : GW) (H' : Hp), At a g' R H' → (∃ ps lost, g' = g.withNet ps lost) → g'.st = Vbdlao.answerAck g.st m → Q .non H'
theorem ok_station_acks (T : Txt K mg a) : FnOk P w K mg base CX0 5 a.f_station_acks a.d_station_acks p_station_acks (sp_station_acks a) := by
  refine T.station_acks.F.ok sc_station_acks (fun vs H Q E h => ?_) (fun cdv A outer s H vs Q E hr h => ?_)
  · obtain ⟨g, R, m, d, rfl, _⟩ := h
    rfl
  · obtain ⟨g, R, m, d, rfl, hA, hd, k⟩ := h
    refine ⟨_, (pss_cons (ps_set (i := 2) sc_station_acks.nd rfl (Or.inl rfl) (pe_ix ix_list (pe_fld (pv 0) rfl) (pv 1) (fun _ _ => rfl)))
      (pss_one (ps_expr (pe_call (ok_send T) (hr.mono (by decide)) rfl T.send.mg T.send.F.kp T.send.b .nil pass0 (pa_cons (pv 0) (pa_cons (pe_gint rfl T.c_TO_MACHINE) (pa_cons (pv 1) (pa_cons (pe_tup (pa_cons (pe_gint rfl T.c_ACK) (pa_cons (pv 1) (pa_cons (pe_fld (pv 2) rfl) (pa_cons (pe_callB call_len_seq rfl T.b_len PySem.boot_len (pa_cons (pe_fld (pv 2) rfl) pa_nil)) pa_nil))))) pa_nil)))))))), ?_⟩
    refine ⟨_, rfl, g.a, _, g.dx, _, _, rfl, hA.ward, T.Ward.cl, T.n_Ward_desks, rfl, _, rfl, g.ld, _, _, _, rfl, rfl, SqL.of hA.ld, dR_at hd, ?_⟩
    refine ⟨_, rfl, _, rfl, _, rfl, _, rfl, d.a, _, d.dx, _, _, rfl, hA.desk hd, T.Desk.cl, T.n_Desk_turn, rfl, _, rfl, d.a, _, d.dx, _, _, rfl, hA.desk hd, T.Desk.cl, T.n_Desk_copied, rfl, d.cp, _, rfl, .inl (SqL.of (hA.copy hd)), (by show 4 ≤ sizeLine; decide), fun t ht => ?_⟩
    refine ⟨g, R, false, m, t, .ack m d.turn d.evs.length, rfl, hA.same (Same.new ht), ?_, trivial, fun g' H' hA' hs => k g' H' hA' hs.net ?_⟩
    · show upd _ _ _ _ = some (HO.tup [_, _, _, V.int (d.evs.length : Nat)])
      rw [upd_same, evR_len]
    · rw [hs.st]
      unfold Vbdlao.answerAck
      rw [GW.desk_at hd]
      show _ = Vbdlao.send g.st false m (.ack m d.turn (d.evs.map (·.2)).length)
      rw [List.length_map]
end
end Nw
end
section
set_option Elab.async false
set_option linter.all false
set_option maxRecDepth 100000
set_option maxHeartbeats 2000000
namespace Nw
open PySem PySem.Spec PyProof.Rows L2
theorem send_put (s : Vbdlao.St) (i : Nat) (x : Vbdlao.Machine) (t : Bool) (m : Nat) (f : VFrame) : Vbdlao.send (Vbdlao.putMachine s i x) t m f = Vbdlao.putMachine (Vbdlao.send s t m f) i x := by
  unfold Vbdlao.send
  show (if Vbdlao.NET ≤ s.net.length then _ else _) = _
  by_cases h : Vbdlao.NET ≤ s.net.length
  · rw [if_pos h, if_pos h]; rfl
  · rw [if_neg h, if_neg h]; rfl
theorem pump_go {i k : Nat} {s : Vbdlao.St} (h1 : (Vbdlao.machine s i).next < (Vbdlao.machine s i).log.length) (h2 : (Vbdlao.machine s i).next < (Vbdlao.machine s i).acked + s.window) :
    Vbdlao.pump i (k + 1) s = Vbdlao.pump i k (Vbdlao.send (Vbdlao.putMachine s i { Vbdlao.machine s i with next := (Vbdlao.machine s i).next + 1 }) true i (.data i (Vbdlao.machine s i).next ((Vbdlao.machine s i).log.getD (Vbdlao.machine s i).next []))) := by
  show (if _ then _ else _) = _
  rw [if_pos ⟨h1, h2⟩]
theorem pump_end {i k : Nat} {s : Vbdlao.St} (h : ¬ ((Vbdlao.machine s i).next < (Vbdlao.machine s i).log.length ∧ (Vbdlao.machine s i).next < (Vbdlao.machine s i).acked + s.window)) : Vbdlao.pump i k s = s := by
  cases k with
  | zero => rfl
  | succ k =>
    show (if _ then _ else _) = _
    rw [if_neg h]
section
variable {P : Program} {w : World} {K : PySem.W.Frag} {mg : Str → Option Value} {base : Heap} {a : Adr}
def sp_pump (a : Adr) : Sp := fun vs H Q _ => ∃ (g : GW) (R : List Fact) (i : Nat) (m : GM), vs = [.ref g.a, .int i] ∧ At a g R H ∧ g.ms[i]? = some m ∧ (∀ e ∈ m.evs, e.2.length ≤ 16) ∧
  ∀ (g' : GW) (H' : Hp), At a g' R H' → Keep g g' → g'.st = Vbdlao.pumpAll i g.st → Q .non H'
theorem ok_pump (T : Txt K mg a) : FnOk P w K mg base CX0 5 a.f_pump a.d_pump p_pump (sp_pump a) := by
  refine T.pump.F.ok sc_pump (fun vs H Q E h => ?_) (fun cdv A outer s H vs Q E hr h => ?_)
  · obtain ⟨g, R, i, m, rfl, _⟩ := h
    rfl
  · obtain ⟨g, R, i, m, rfl, hA, hm, hev, k⟩ := h
    refine ⟨_, (pss_cons (ps_set (i := 2) sc_pump.nd rfl (Or.inl rfl) (pe_ix ix_list (pe_fld (pv 0) rfl) (pv 1) (fun _ _ => rfl)))
      (pss_cons (ps_set (i := 3) sc_pump.nd rfl (Or.inl rfl) (pe_callB (call_min2 rfl) rfl T.b_min PyProof.Rows.boot_min (pa_cons (pe_callB call_len_seq rfl T.b_len PySem.boot_len (pa_cons (pe_fld (pv 2) rfl) pa_nil)) (pa_cons (pe_op op_add (pe_fld (pv 2) rfl) (pe_fld (pv 0) rfl)) pa_nil))))
      (pss_cons (ps_set (i := 4) sc_pump.nd rfl (Or.inl rfl) pe_int)
      (pss_one (ps_while PassesOwn.never (PW.pt (pw_and (pt_cmpR op_lt (pe_fld (pv 2) rfl) (pv 3) (nomark _)) (pw_and1 (pt_cmpR op_lt (pv 4) (pe_fld (pv 0) rfl) (nomark _))))) (pss_cons (ps_set (i := 5) sc_pump.nd rfl (Or.inl rfl) (pe_fld (pv 2) rfl))
      (pss_cons (ps_expr (pe_call (ok_send T) (hr.mono (by decide)) rfl T.send.mg T.send.F.kp T.send.b .nil pass0 (pa_cons (pv 0) (pa_cons (pe_gint rfl T.c_TO_STATION) (pa_cons (pv 1) (pa_cons (pe_tup (pa_cons (pe_gint rfl T.c_DATA) (pa_cons (pv 1) (pa_cons (pv 5) (pa_cons (pe_ix ix_list (pe_fld (pv 2) rfl) (pv 5) (fun _ _ => rfl)) pa_nil))))) pa_nil))))))
      (pss_cons (ps_fldaug (pv 2) pe_int in_add)
      (pss_one (ps_aug (i := 4) sc_pump.nd rfl (Or.inl rfl) pe_int ip_add)))))))))), ?_⟩
    refine ⟨_, rfl, g.a, _, g.dx, _, _, rfl, hA.ward, T.Ward.cl, T.n_Ward_machines, rfl, _, rfl, g.lm, _, _, _, rfl, rfl, SqL.of hA.lm, mR_at hm, ?_⟩
    refine ⟨_, rfl, m.a, _, m.dx, _, _, rfl, hA.mach hm, T.Machine.cl, T.n_Machine_log, rfl, m.lg, _, rfl, .inl (SqL.of (hA.log hm)), _, rfl, m.a, _, m.dx, _, _, rfl, hA.mach hm, T.Machine.cl, T.n_Machine_acked, rfl,
      _, rfl, g.a, _, g.dx, _, _, rfl, hA.ward, T.Ward.cl, T.n_Ward_window, rfl, _, _, rfl, rfl, _, _, rfl, ?_⟩
    generalize hL : (if (m.acked : Int) + (g.win : Int) < ((evR m.evs).length : Nat) then (m.acked : Int) + (g.win : Int) else (((evR m.evs).length : Nat) : Int)) = L
    have hL1 : ∀ n : Nat, (n : Int) < L ↔ n < m.evs.length ∧ n < m.acked + g.win := fun n => by
      rw [evR_len] at hL
      rw [← hL]
      split <;> omega
    refine ⟨fun n σ H' => ∃ (g1 : GW) (m1 : GM) (c : Nat) (v : Option V), n = g.win - c ∧ c ≤ g.win ∧ At a g1 R H' ∧ Keep g g1 ∧ g1.ms[i]? = some m1 ∧ m1.a = m.a ∧ m1.evs = m.evs ∧ m1.acked = m.acked ∧ g1.win = g.win ∧
      Vbdlao.pump i (g.win - c) g1.st = Vbdlao.pump i g.win g.st ∧ σ = [some (.ref g.a), some (.int i), some (.ref m.a), some (.int L), some (.int c), v], ⟨g.win, g, m, 0, none, rfl, Nat.zero_le _, hA, Keep.refl g, hm, rfl, rfl, rfl, rfl, rfl, rfl⟩, ?_⟩
    rintro n σ H' ⟨g1, m1, c, v, rfl, hc, hA1, hK, hm1, e1, e2, e3, e4, hp, rfl⟩
    have hM := GW.machine_at hm1
    have hw1 : H' g.a = some (.ins a.c_Ward g1.dx g1.fl) := by rw [← hK.a]; exact hA1.ward
    have hmm : H' m.a = some (.ins a.c_Machine m1.dx m1.fl) := by rw [← e1]; exact hA1.mach hm1
    have fin : ¬ (m1.next < m1.evs.length ∧ m1.next < m1.acked + g1.win) → g1.st = Vbdlao.pumpAll i g.st := fun hn => by
      show _ = Vbdlao.pump i g.win g.st
      rw [← hp, pump_end]
      rw [hM]
      show ¬ (m1.next < (m1.evs.map (·.2)).length ∧ m1.next < m1.acked + g1.win)
      rw [List.length_map]
      exact hn
    refine ⟨_, rfl, m.a, _, m1.dx, _, _, rfl, hmm, T.Machine.cl, T.n_Machine_next_place, rfl, _, rfl, _, _, rfl, rfl, _, rfl, ifc (fun hlt => ?_) fun hge => ?_⟩
    · have hb := (hL1 m1.next).mp hlt
      refine ⟨_, rfl, _, rfl, g.a, _, g1.dx, _, _, rfl, hw1, T.Ward.cl, T.n_Ward_window, rfl, _, _, rfl, rfl, _, rfl, ifc (fun hs => ?_) fun hs => ?_⟩
      · have hs' : c < g.win := by
          have hs2 : (c : Int) < (g1.win : Int) := hs
          rw [e4] at hs2
          omega
        refine ⟨_, fun σ' H' hN => ⟨g.win - (c + 1), by omega, hN⟩, ?_⟩
        have hnx : m1.next < m1.evs.length := by rw [e2]; exact hb.1
        obtain ⟨e, he⟩ : ∃ e, m1.evs[m1.next]? = some e := ⟨_, List.getElem?_eq_getElem hnx⟩
        refine ⟨_, rfl, m.a, _, m1.dx, _, _, rfl, hmm, T.Machine.cl, T.n_Machine_next_place, rfl, ?_⟩
        refine ⟨_, rfl, _, rfl, _, rfl, _, rfl, _, rfl, m.a, _, m1.dx, _, _, rfl, hmm, T.Machine.cl, T.n_Machine_log, rfl, _, rfl, m1.lg, _, _, _, rfl, rfl, SqL.of (hA1.log hm1), evR_at he, (by show 4 ≤ sizeLine; decide), fun t ht => ?_⟩
        have hA2 := hA1.same (Same.new (o := .tup [.int 68, .int i, .int m1.next, .ref e.1]) ht)
        refine ⟨g1, R, true, i, t, .data i m1.next e.2, by rw [hK.a]; rfl, hA2, ⟨e.1, upd_same, hA2.logEv hm1 he⟩, hev e (by rw [← e2]; exact List.mem_of_getElem? he), fun g2 H2 hA3 hS => ?_⟩
        obtain ⟨ps, lo, hg2⟩ := hS.net
        have hm2 : g2.ms[i]? = some m1 := by rw [hg2]; exact hm1
        have hmm2 : H2 m.a = some (.ins a.c_Machine m1.dx m1.fl) := by rw [← e1]; exact hA3.mach hm2
        refine ⟨_, rfl, m.a, _, m1.dx, _, _, rfl, hmm2, T.Machine.cl, T.n_Machine_next_place, rfl, _, _, rfl, rfl, m1.dx, _, hmm2, (by show 6 < 1000; decide), ?_⟩
        refine ⟨_, rfl, _, _, rfl, rfl, ?_⟩
        have hA4 : At a (g2.setM i { m1 with next := m1.next + 1 }) R (upd H2 m.a (.ins a.c_Machine m1.dx (({ m1 with next := m1.next + 1 } : GM).fl))) := by
          rw [← e1]
          exact hA3.setM (m' := { m1 with next := m1.next + 1 }) hm2 rfl rfl rfl rfl
        refine ⟨g2.setM i { m1 with next := m1.next + 1 }, { m1 with next := m1.next + 1 }, c + 1, some (.int m1.next), rfl, hs', hA4, (hK.trans hS.keep).trans (Keep.setM hm2 rfl), setM_get hm2, e1, e2, e3, by rw [hg2]; exact e4, ?_, rfl⟩
        rw [← hp, show g.win - c = (g.win - (c + 1)) + 1 by omega, pump_go, hM, GW.put_machine, hS.st, ← send_put]
        · show _ = Vbdlao.pump i _ (Vbdlao.send _ true i (.data i m1.next ((m1.evs.map (·.2)).getD m1.next [])))
          rw [List.getD_eq_getElem?_getD, List.getElem?_map, he]
          rfl
        · rw [hM]
          show m1.next < (m1.evs.map (·.2)).length
          rw [List.length_map]
          exact hnx
        · rw [hM]
          show m1.next < m1.acked + g1.win
          rw [e3, e4]
          exact hb.2
      · have hs2 : ¬ (c : Int) < (g1.win : Int) := hs
        rw [e4] at hs2
        refine k g1 H' hA1 hK ?_
        show _ = Vbdlao.pump i g.win g.st
        rw [← hp, show g.win - c = 0 by omega]
        rfl
    · refine iteF (k g1 H' hA1 hK (fin fun hh => hge ((hL1 m1.next).mpr ?_)))
      rw [← e2, ← e3, ← e4]
      exact hh
def sp_log_event (a : Adr) : Sp := fun vs H Q _ => ∃ (g : GW) (R : List Fact) (i : Nat) (m : GM) (e : Ev), vs = [.ref g.a, .int i, .ref e.1] ∧ At a g ((e.1, .lst (bV e.2)) :: R) H ∧ g.ms[i]? = some m ∧ (∀ e ∈ m.evs, e.2.length ≤ 16) ∧ e.2.length ≤ 16 ∧ m.evs.length ≤ 1000000 ∧
  ∀ (g' : GW) (H' : Hp), At a g' R H' → Keep g g' → g'.st = Vbdlao.logEvent g.st i e.2 → Q .non H'
theorem ok_log_event (T : Txt K mg a) : FnOk P w K mg base CX0 6 a.f_log_event a.d_log_event p_log_event (sp_log_event a) := by
  refine T.log_event.F.ok sc_log_event (fun vs H Q E h => ?_) (fun cdv A outer s H vs Q E hr h => ?_)
  · obtain ⟨g, R, i, m, e, rfl, _⟩ := h
    rfl
  · obtain ⟨g, R, i, m, e, rfl, hA, hm, hev, he, hlen, k⟩ := h
    refine ⟨_, (pss_cons (ps_expr (pe_bm PySem.F.plainAttrs_list PySem.F.slot_list_append PySem.F.type_list_append mt_append (pe_fld (pe_ix ix_list (pe_fld (pv 0) rfl) (pv 1) (fun _ _ => rfl)) rfl) (pa_cons (pv 2) pa_nil)))
      (pss_one (ps_expr (pe_call (ok_pump T) (hr.mono (by decide)) rfl T.pump.mg T.pump.F.kp T.pump.b .nil pass0 (pa_cons (pv 0) (pa_cons (pv 1) pa_nil)))))), ?_⟩
    refine ⟨_, rfl, g.a, _, g.dx, _, _, rfl, hA.ward, T.Ward.cl, T.n_Ward_machines, rfl, _, rfl, g.lm, _, _, _, rfl, rfl, SqL.of hA.lm, mR_at hm, m.a, _, m.dx, _, _, rfl, hA.mach hm, T.Machine.cl, T.n_Machine_log, rfl,
      .inl ⟨rfl, _, SqL.of (hA.log hm)⟩, _, rfl, m.lg, _, _, rfl, rfl, hA.log hm, (by rw [evR_len]; exact Nat.lt_of_le_of_lt hlen (by decide)), ?_⟩
    have hA1 := hA.logAdd hm
    refine ⟨_, rfl, _, rfl, g.setM i { m with evs := m.evs ++ [e] }, R, i, { m with evs := m.evs ++ [e] }, rfl, hA1, setM_get hm, fun x hx => ?_, fun g' H' hA' hK hst => k g' H' hA' ((Keep.setM (m' := { m with evs := m.evs ++ [e] }) hm rfl).trans hK) ?_⟩
    · rcases List.mem_append.mp hx with z | z
      · exact hev x z
      · rw [List.mem_singleton.mp z]; exact he
    · rw [hst, GW.put_machine]
      unfold Vbdlao.logEvent
      rw [GW.machine_at hm]
      show Vbdlao.pumpAll i (Vbdlao.putMachine g.st i ⟨(m.evs ++ [e]).map (·.2), _, _, _, _, _⟩) = _
      rw [List.map_append]
      rfl
end
end Nw
end
section
set_option Elab.async false
set_option linter.all false
set_option maxRecDepth 100000
set_option maxHeartbeats 2000000
namespace Nw
open PySem PySem.Spec PyProof.Rows L2
abbrev As := Addr × Nat × Ev
def fidx (l : List As) (n : Nat) : Option Nat := l.findIdx? fun t => t.2.1 == n
def fval : Option Nat → Int
  | some k => k
  | none => -1
theorem fidx_some {l : List As} {n k : Nat} {t : As} (h : l[k]? = some t) (e : t.2.1 = n) (hb : ∀ j, j < k → ∀ u, l[j]? = some u → u.2.1 ≠ n) : fidx l n = some k := by
  unfold fidx
  rw [List.findIdx?_eq_some_iff_getElem]
  obtain ⟨hk, hx⟩ := List.getElem?_eq_some_iff.mp h
  refine ⟨hk, by rw [hx, e]; exact beq_self_eq_true n, fun j hj => ?_⟩
  have hjl : j < l.length := Nat.lt_trans hj hk
  have := hb j hj l[j] (List.getElem?_eq_getElem hjl)
  intro q
  exact this (eq_of_beq q)
theorem fidx_none {l : List As} {n : Nat} (hb : ∀ j, j < l.length → ∀ u, l[j]? = some u → u.2.1 ≠ n) : fidx l n = none := by
  unfold fidx
  rw [List.findIdx?_eq_none_iff]
  intro x hx
  obtain ⟨j, hj⟩ := List.getElem?_of_mem hx
  exact beq_eq_false_iff_ne.mpr (hb j (List.getElem?_eq_some_iff.mp hj).1 x hj)
theorem fidx_get {l : List As} {n k : Nat} (h : fidx l n = some k) : ∃ t, l[k]? = some t ∧ t.2.1 = n := by
  unfold fidx at h
  rw [List.findIdx?_eq_some_iff_getElem] at h
  obtain ⟨hk, hx, _⟩ := h
  exact ⟨l[k], List.getElem?_eq_getElem hk, eq_of_beq hx⟩
theorem fidx_no {l : List As} {n : Nat} (h : fidx l n = none) : ∀ t ∈ l, t.2.1 ≠ n := by
  unfold fidx at h
  rw [List.findIdx?_eq_none_iff] at h
  exact fun t ht => beq_eq_false_iff_ne.mp (h t ht)
theorem fval_nonneg {o : Option Nat} : 0 ≤ fval o ↔ ∃ k, o = some k := by
  cases o with
  | none => exact ⟨fun h => absurd h (by decide), fun ⟨_, h⟩ => nomatch h⟩
  | some k => exact ⟨fun _ => ⟨k, rfl⟩, fun _ => by show (0 : Int) ≤ (k : Int); omega⟩
def asSt (l : List As) : List (Nat × List Nat) := l.map fun t => (t.2.1, t.2.2.2)
theorem any_iff (l : List As) (n : Nat) : ((asSt l).any fun x => x.1 == n) = true ↔ ∃ k, fidx l n = some k := by
  constructor
  · intro h
    rw [List.any_eq_true] at h
    obtain ⟨x, hx, e⟩ := h
    obtain ⟨t, ht, rfl⟩ := List.mem_map.mp hx
    cases q : fidx l n with
    | none => exact absurd (eq_of_beq e) (fidx_no q t ht)
    | some k => exact ⟨k, rfl⟩
  · rintro ⟨k, h⟩
    obtain ⟨t, ht, e⟩ := fidx_get h
    rw [List.any_eq_true]
    exact ⟨_, List.mem_map.mpr ⟨t, List.mem_of_getElem? ht, rfl⟩, by rw [← e]; exact beq_self_eq_true _⟩
theorem nd_inj {l : List As} (nd : (l.map (·.2.1)).Nodup) {i j : Nat} {t u : As} (hi : l[i]? = some t) (hj : l[j]? = some u) (e : t.2.1 = u.2.1) : i = j :=
  nd_ix nd (x := t.2.1) (by rw [List.getElem?_map, hi]; rfl) (by rw [List.getElem?_map, hj, e]; rfl)
theorem filter_erase {l : List As} (nd : (l.map (·.2.1)).Nodup) : ∀ {k : Nat} {t : As}, l[k]? = some t → (asSt l).filter (fun y => y.1 != t.2.1) = asSt (l.eraseIdx k) := by
  induction l with
  | nil => intro k t h; simp at h
  | cons u r ih =>
    rw [List.map_cons, List.nodup_cons] at nd
    intro k t h
    cases k with
    | zero =>
      have e : u = t := Option.some.inj h
      subst e
      show List.filter _ ((u.2.1, u.2.2.2) :: asSt r) = asSt r
      rw [List.filter_cons, if_neg (by simp)]
      rw [List.filter_eq_self]
      intro y hy
      obtain ⟨z, hz, rfl⟩ := List.mem_map.mp hy
      show (z.2.1 != u.2.1) = true
      rw [bne_iff_ne]
      exact fun e => nd.1 (List.mem_map.mpr ⟨z, hz, e⟩)
    | succ k =>
      show List.filter _ ((u.2.1, u.2.2.2) :: asSt r) = (u.2.1, u.2.2.2) :: asSt (r.eraseIdx k)
      have hr : r[k]? = some t := h
      have hne : (u.2.1 != t.2.1) = true := by
        rw [bne_iff_ne]
        exact fun e => nd.1 (List.mem_map.mpr ⟨t, List.mem_of_getElem? hr, e.symm⟩)
      rw [List.filter_cons, if_pos hne, ih nd.2 hr]
theorem find_of {l : List As} {n k : Nat} {t : As} (h : fidx l n = some k) (ht : l[k]? = some t) (nd : (l.map (·.2.1)).Nodup) : (asSt l).find? (fun x => x.1 == n) = some (t.2.1, t.2.2.2) := by
  obtain ⟨t', ht', e⟩ := fidx_get h
  rw [ht] at ht'
  cases ht'
  cases q : (asSt l).find? (fun x => x.1 == n) with
  | none =>
    rw [List.find?_eq_none] at q
    exact absurd (show (t.2.1 == n) = true by rw [e]; exact beq_self_eq_true n) (q (t.2.1, t.2.2.2) (List.mem_map.mpr ⟨t, List.mem_of_getElem? ht, rfl⟩))
  | some x =>
    have hx := List.mem_of_find?_eq_some q
    have hp : (x.1 == n) = true := List.find?_some (p := fun (x : Nat × List Nat) => x.1 == n) q
    obtain ⟨u, hu, rfl⟩ := List.mem_map.mp hx
    obtain ⟨j, hj⟩ := List.getElem?_of_mem hu
    have hjk := nd_inj nd hj ht ((eq_of_beq hp).trans e.symm)
    subst hjk
    rw [ht] at hj
    cases hj
    rfl
theorem find_no {l : List As} {n : Nat} (h : fidx l n = none) : (asSt l).find? (fun x => x.1 == n) = none := by
  rw [List.find?_eq_none]
  intro x hx
  obtain ⟨t, ht, rfl⟩ := List.mem_map.mp hx
  exact fun q => fidx_no h t ht (eq_of_beq q)
theorem nd_erase {l : List As} (nd : (l.map (·.2.1)).Nodup) (k : Nat) : ((l.eraseIdx k).map (·.2.1)).Nodup := by
  rw [erase_map]
  exact nd.sublist (List.eraseIdx_sublist _ _)
theorem setD_setD (g : GW) (i : Nat) (x y : GD) : (g.setD i x).setD i y = g.setD i y := by
  unfold GW.setD
  rw [List.set_set]
section
variable {P : Program} {w : World} {K : PySem.W.Frag} {mg : Str → Option Value} {base : Heap} {a : Adr}
def sp_find_aside (a : Adr) : Sp := fun vs H Q _ => ∃ (g : GW) (R : List Fact) (i n : Nat) (d : GD), vs = [.ref d.a, .int n] ∧ At a g R H ∧ g.ds[i]? = some d ∧ ∀ H' : Hp, Same H H' → Q (.int (fval (fidx d.asd n))) H'
theorem ok_find_aside (T : Txt K mg a) : FnOk P w K mg base CX0 1 a.f_find_aside a.d_find_aside p_find_aside (sp_find_aside a) := by
  refine T.find_aside.F.ok sc_find_aside (fun vs H Q E h => ?_) (fun cdv A outer s H vs Q E hr h => ?_)
  · obtain ⟨g, R, i, n, d, rfl, _⟩ := h
    rfl
  · obtain ⟨g, R, i, n, d, rfl, hA, hd, k⟩ := h
    refine ⟨_, (pss_cons (ps_for PassesOwn.never rfl (pi_enum rfl T.b_enumerate (pa_cons (pe_fld (pv 0) rfl) pa_nil)) (pg_tup rfl (pgs_cons (pg_name (i := 2) sc_find_aside.nd rfl (Or.inl rfl)) (pgs_cons (pg_name (i := 3) sc_find_aside.nd rfl (Or.inl rfl)) pgs_nil))) (pss_one (ps_if (pt_cmpR op_eq (pe_ix ix_tup (pv 3) pe_int (fun _ _ => rfl)) (pv 1) (nomark _)) (pss_one (ps_ret (pv 2))) pss_nil)))
      (pss_one (ps_ret (pe_un un_neg pe_int)))), ?_⟩
    refine ⟨_, rfl, d.a, _, d.dx, _, _, rfl, hA.desk hd, T.Desk.cl, T.n_Desk_aside, rfl, d.ad, _, rfl, SqL.of (hA.aside hd),
      for_enum (K := K) (a := d.ad) (xs := asR d.asd) (fun j σ H' => Same H H' ∧ (∀ q, q < j → ∀ u, d.asd[q]? = some u → u.2.1 ≠ n) ∧ ∃ v u, σ = [some (.ref d.a), some (.int n), v, u]) ⟨Same.refl H, fun q hq => absurd hq (Nat.not_lt_zero _), none, none, rfl⟩ (fun j σ H' _ ⟨e, _⟩ => e.seq (SqL.of (hA.aside hd))) ?_ ?_⟩
    · rintro j y t σ H' hj ⟨e, hb, v, u, rfl⟩ hT
      obtain ⟨x, hx, rfl⟩ : ∃ x, d.asd[j]? = some x ∧ y = V.ref x.1 := by
        unfold asR at hj
        rw [List.getElem?_map] at hj
        cases q : d.asd[j]? with
        | none => rw [q] at hj; cases hj
        | some x => rw [q] at hj; exact ⟨x, rfl, (Option.some.inj hj).symm⟩
      have s2 := e.trans (Same.new (o := .tup [.int (j : Nat), .ref x.1]) hT)
      refine ⟨t, _, rfl, SqT.of upd_same, rfl, _, _, rfl, _, _, rfl, rfl, ?_⟩
      refine ⟨_, rfl, x.1, _, _, _, rfl, rfl, SqT.of (s2 _ _ (hA.asTup hd hx)), rfl, _, rfl, rfl, _, rfl, ifEq (fun heq => ?_) fun hne => ?_⟩
      · refine ⟨_, rfl, ?_⟩
        have hf := fidx_some hx (n := n) (by omega) hb
        rw [hf] at k
        exact k _ s2
      · refine ⟨s2, fun q hq u hu => ?_, some (.int (j : Nat)), some (.ref x.1), rfl⟩
        by_cases hqj : q = j
        · subst hqj
          rw [hx] at hu
          cases hu
          exact fun z => hne (by rw [z])
        · exact hb q (by omega) u hu
    · rintro σ H' ⟨e, hb, v, u, rfl⟩
      have hf := fidx_none (l := d.asd) (n := n) (by unfold asR at hb; rw [List.length_map] at hb; exact hb)
      rw [hf] at k
      exact ⟨_, rfl, k _ e⟩
theorem drain_go {k : Nat} {d : Vbdlao.Desk} {x : Nat × List Nat} (h : d.aside.find? (fun x => x.1 == d.copy.length) = some x) :
    Vbdlao.drain (k + 1) d = Vbdlao.drain k { d with copy := d.copy ++ [x.2], aside := d.aside.filter fun y => y.1 != x.1 } := by
  rw [Vbdlao.drain, h]
theorem drain_end {k : Nat} {d : Vbdlao.Desk} (h : d.aside.find? (fun x => x.1 == d.copy.length) = none) : Vbdlao.drain k d = d := by
  cases k with
  | zero => rfl
  | succ k => rw [Vbdlao.drain, h]
def newsOf (s : Vbdlao.St) (i : Nat) (t : Vbdlao.Desk) : Vbdlao.St := Vbdlao.putDesk { s with news := s.news + (t.copy.length - (Vbdlao.desk s i).copy.length) } i t
def sp_take_in (a : Adr) : Sp := fun vs H Q _ => ∃ (g : GW) (R : List Fact) (i : Nat) (d : GD) (e : Ev), vs = [.ref g.a, .ref d.a, .ref e.1] ∧ At a g ((e.1, .lst (bV e.2)) :: R) H ∧ g.ds[i]? = some d ∧ (d.asd.map (·.2.1)).Nodup ∧ d.evs.length + d.asd.length ≤ 10000000 ∧
  ∀ (g' : GW) (H' : Hp), At a g' R H' → Keep g g' → g'.st = newsOf g.st i (Vbdlao.drain g.win { d.st with copy := d.st.copy ++ [e.2] }) → Q .non H'
theorem ok_take_in (T : Txt K mg a) : FnOk P w K mg base CX0 2 a.f_take_in a.d_take_in p_take_in (sp_take_in a) := by
  refine T.take_in.F.ok sc_take_in (fun vs H Q E h => ?_) (fun cdv A outer s H vs Q E hr h => ?_)
  · obtain ⟨g, R, i, d, e, rfl, _⟩ := h
    rfl
  · obtain ⟨g, R, i, d, e, rfl, hA, hd, hnd, hsz, k⟩ := h
    refine ⟨_, (pss_cons (ps_expr (pe_bm PySem.F.plainAttrs_list PySem.F.slot_list_append PySem.F.type_list_append mt_append (pe_fld (pv 1) rfl) (pa_cons (pv 2) pa_nil)))
      (pss_cons (ps_set (i := 3) sc_take_in.nd rfl (Or.inl rfl) pe_int)
      (pss_cons (ps_set (i := 4) sc_take_in.nd rfl (Or.inl rfl) (pe_call (ok_find_aside T) (hr.mono (by decide)) rfl T.find_aside.mg T.find_aside.F.kp T.find_aside.b .nil pass0 (pa_cons (pv 1) (pa_cons (pe_callB call_len_seq rfl T.b_len PySem.boot_len (pa_cons (pe_fld (pv 1) rfl) pa_nil)) pa_nil))))
      (pss_cons (ps_while PassesOwn.never (PW.pt (pw_and (pt_cmpR op_ge (pv 4) pe_int (nomark _)) (pw_and1 (pt_cmpR op_lt (pv 3) (pe_fld (pv 0) rfl) (nomark _))))) (pss_cons (ps_set (i := 5) sc_take_in.nd rfl (Or.inl rfl) (pe_bm PySem.F.plainAttrs_list PySem.F.slot_list_pop PySem.F.type_list_pop mt_popAt (pe_fld (pv 1) rfl) (pa_cons (pv 4) pa_nil)))
      (pss_cons (ps_expr (pe_bm PySem.F.plainAttrs_list PySem.F.slot_list_append PySem.F.type_list_append mt_append (pe_fld (pv 1) rfl) (pa_cons (pe_ix ix_tup (pv 5) pe_int (fun _ _ => rfl)) pa_nil)))
      (pss_cons (ps_aug (i := 3) sc_take_in.nd rfl (Or.inl rfl) pe_int ip_add)
      (pss_one (ps_set (i := 4) sc_take_in.nd rfl (Or.inl rfl) (pe_call (ok_find_aside T) (hr.mono (by decide)) rfl T.find_aside.mg T.find_aside.F.kp T.find_aside.b .nil pass0 (pa_cons (pv 1) (pa_cons (pe_callB call_len_seq rfl T.b_len PySem.boot_len (pa_cons (pe_fld (pv 1) rfl) pa_nil)) pa_nil)))))))))
      (pss_one (ps_fldaug (pv 0) (pe_op op_add pe_int (pv 3)) in_add)))))), ?_⟩
    refine ⟨_, rfl, d.a, _, d.dx, _, _, rfl, hA.desk hd, T.Desk.cl, T.n_Desk_copied, rfl, .inl ⟨rfl, _, SqL.of (hA.copy hd)⟩, _, rfl, d.cp, _, _, rfl, rfl, hA.copy hd, (by rw [evR_len]; exact Nat.lt_of_le_of_lt (Nat.le_trans (Nat.le_add_right _ _) hsz) (by decide)), ?_⟩
    have hA1 := hA.copyAdd hd
    have hd1 : (g.setD i { d with evs := d.evs ++ [e] }).ds[i]? = some { d with evs := d.evs ++ [e] } := setD_get hd
    refine ⟨_, rfl, _, rfl, d.a, _, d.dx, _, _, rfl, hA1.desk (m := { d with evs := d.evs ++ [e] }) hd1, T.Desk.cl, T.n_Desk_copied, rfl, d.cp, _, rfl, .inl (SqL.of (hA1.copy (m := { d with evs := d.evs ++ [e] }) hd1)), _, R, i, (d.evs ++ [e]).length, { d with evs := d.evs ++ [e] }, (by rw [evR_len]; rfl), hA1, hd1, fun H2 s2 => ?_⟩
    have hA2 := hA1.same s2
    refine ⟨fun n σ H' => ∃ (d1 : GD) (c : Nat) (v : Option V), n = g.win - c ∧ c ≤ g.win ∧ At a (g.setD i d1) R H' ∧ d1.a = d.a ∧ (d1.asd.map (·.2.1)).Nodup ∧ d1.evs.length = d.evs.length + 1 + c ∧ d1.evs.length + d1.asd.length ≤ 10000001 ∧
      Vbdlao.drain (g.win - c) d1.st = Vbdlao.drain g.win { d.st with copy := d.st.copy ++ [e.2] } ∧ σ = [some (.ref g.a), some (.ref d.a), some (.ref e.1), some (.int c), some (.int (fval (fidx d1.asd d1.evs.length))), v],
      ⟨g.win, { d with evs := d.evs ++ [e] }, 0, none, rfl, Nat.zero_le _, hA2, rfl, hnd, by simp, ?_, ?_, rfl⟩, ?_⟩
    · rw [List.length_append]
      show d.evs.length + 1 + d.asd.length ≤ _
      omega
    · show Vbdlao.drain g.win ⟨d.turn, (d.evs ++ [e]).map (·.2), _⟩ = _
      rw [List.map_append]
      rfl
    rintro n σ H' ⟨d1, c, v, rfl, hc, hA3, ea, nd1, hl1, hz1, hdr, rfl⟩
    have hd3 : (g.setD i d1).ds[i]? = some d1 := setD_get hd
    have hdd : H' d.a = some (.ins a.c_Desk d1.dx d1.fl) := by rw [← ea]; exact hA3.desk hd3
    have hcl : d1.st.copy.length = d1.evs.length := by show (d1.evs.map (·.2)).length = _; rw [List.length_map]
    have has : d1.st.aside = asSt d1.asd := rfl
    have last : Vbdlao.drain (g.win - c) d1.st = d1.st → ∀ g' H', At a g' R H' → g' = { (g.setD i d1) with news := g.news + (1 + c) } → Q .non H' := fun hfin g' H' hA' eg => by
      refine k g' H' hA' (by rw [eg]; exact ⟨(Keep.setD hd ea).a, (Keep.setD hd ea).m, (Keep.setD hd ea).d⟩) ?_
      rw [← hdr, hfin, eg]
      unfold newsOf
      rw [GW.desk_at hd, hcl]
      show Vbdlao.St.mk _ _ _ ((g.ds.set i d1).map GD.st) _ _ _ _ _ = _
      rw [List.map_set]
      have e1 : d1.evs.length - d.st.copy.length = 1 + c := by
        show d1.evs.length - (d.evs.map (·.2)).length = 1 + c
        rw [List.length_map]
        omega
      rw [e1]
      rfl
    have hwd : H' g.a = some (.ins a.c_Ward g.dx (g.setD i d1).fl) := hA3.ward
    refine ⟨_, rfl, _, _, rfl, rfl, _, rfl, ifc (fun h0 => ?_) fun h0 => ?_⟩
    · obtain ⟨kk, hkk⟩ := fval_nonneg.mp h0
      obtain ⟨t, ht, htn⟩ := fidx_get hkk
      refine ⟨_, rfl, _, rfl, g.a, _, g.dx, _, _, rfl, hwd, T.Ward.cl, T.n_Ward_window, rfl, _, _, rfl, rfl, _, rfl, ifc (fun hs => ?_) fun hs => ?_⟩
      · have hs' : c < g.win := by
          have hs2 : (c : Int) < (g.win : Int) := hs
          omega
        refine ⟨_, fun σ' H' hN => ⟨g.win - (c + 1), by omega, hN⟩, ?_⟩
        have hkl : kk < d1.asd.length := (List.getElem?_eq_some_iff.mp ht).1
        have hgk : (asR d1.asd)[kk]? = some (.ref t.1) := by unfold asR; rw [List.getElem?_map, ht]; rfl
        have hal : (asR d1.asd).length = d1.asd.length := by unfold asR; rw [List.length_map]
        rw [hkk]
        refine ⟨_, rfl, d.a, _, d1.dx, _, _, rfl, hdd, T.Desk.cl, T.n_Desk_aside, rfl, .inl ⟨rfl, _, SqL.of (hA3.aside hd3)⟩, _, rfl, d1.ad, _, (kk : Int), kk, _, rfl, rfl, hA3.aside hd3, by omega, by omega, ?_, hgk, ?_⟩
        · rw [hal]
          exact seqIndex_of (by omega) (by omega)
        have hA4 := hA3.asidePop hd3 ht
        have ee : (g.setD i d1).setD i { d1 with asd := d1.asd.eraseIdx kk } = g.setD i { d1 with asd := d1.asd.eraseIdx kk } := setD_setD _ _ _ _
        rw [ee] at hA4
        have hd4 : (g.setD i { d1 with asd := d1.asd.eraseIdx kk }).ds[i]? = some { d1 with asd := d1.asd.eraseIdx kk } := setD_get hd
        have hdd4 := hA4.desk (m := { d1 with asd := d1.asd.eraseIdx kk }) hd4
        have hdd4 : (upd H' d1.ad (.lst ((asR d1.asd).eraseIdx kk))) d.a = some (.ins a.c_Desk d1.dx d1.fl) := by rw [← ea]; exact hdd4
        refine ⟨_, rfl, d.a, _, d1.dx, _, _, rfl, hdd4, T.Desk.cl, T.n_Desk_copied, rfl, .inl ⟨rfl, _, SqL.of (hA4.copy (m := { d1 with asd := d1.asd.eraseIdx kk }) hd4)⟩,
          _, rfl, t.1, _, _, _, rfl, rfl, SqT.of (hA4.rest (p := (t.1, .tup [.int t.2.1, .ref t.2.2.1])) (by simp [asF])), rfl, d1.cp, _, _, rfl, rfl, hA4.copy (m := { d1 with asd := d1.asd.eraseIdx kk }) hd4, (by rw [evR_len]; exact Nat.lt_of_le_of_lt (Nat.le_trans (Nat.le_add_right _ _) hz1) (by decide)), ?_⟩
        have hA5 : At a (g.setD i { d1 with asd := d1.asd.eraseIdx kk }) ((t.2.2.1, .lst (bV t.2.2.2)) :: R) _ := hA4.drop
        have hA6 := hA5.copyAdd hd4
        rw [setD_setD] at hA6
        have hd6 : (g.setD i { d1 with asd := d1.asd.eraseIdx kk, evs := d1.evs ++ [t.2.2] }).ds[i]? = some { d1 with asd := d1.asd.eraseIdx kk, evs := d1.evs ++ [t.2.2] } := setD_get hd
        have hdd6 := hA6.desk (m := { d1 with asd := d1.asd.eraseIdx kk, evs := d1.evs ++ [t.2.2] }) hd6
        refine ⟨_, rfl, _, _, rfl, rfl, ?_⟩
        refine ⟨_, rfl, _, rfl, d.a, _, d1.dx, _, _, rfl, (by rw [← ea]; exact hdd6), T.Desk.cl, T.n_Desk_copied, rfl, d1.cp, _, rfl, .inl (SqL.of (hA6.copy (m := { d1 with asd := d1.asd.eraseIdx kk, evs := d1.evs ++ [t.2.2] }) hd6)),
          _, R, i, (d1.evs ++ [t.2.2]).length, { d1 with asd := d1.asd.eraseIdx kk, evs := d1.evs ++ [t.2.2] }, (by rw [evR_len, ← ea]; rfl), hA6, hd6, fun H7 s7 => ?_⟩
        have hel : (d1.asd.eraseIdx kk).length + 1 = d1.asd.length := by
          rw [List.length_eraseIdx, if_pos hkl]
          omega
        refine ⟨{ d1 with asd := d1.asd.eraseIdx kk, evs := d1.evs ++ [t.2.2] }, c + 1, some (.ref t.1), rfl, hs', hA6.same s7, ea, nd_erase nd1 kk, ?_, ?_, ?_, rfl⟩
        · show (d1.evs ++ [t.2.2]).length = _
          rw [List.length_append, hl1]
          rfl
        · show (d1.evs ++ [t.2.2]).length + (d1.asd.eraseIdx kk).length ≤ _
          rw [List.length_append]
          show d1.evs.length + 1 + _ ≤ _
          omega
        · rw [← hdr, show g.win - c = (g.win - (c + 1)) + 1 by omega, drain_go (x := (t.2.1, t.2.2.2)) (by rw [has, hcl]; exact find_of hkk ht nd1), has, filter_erase nd1 ht]
          show Vbdlao.drain _ ⟨d1.turn, (d1.evs ++ [t.2.2]).map (·.2), _⟩ = Vbdlao.drain _ ⟨d1.turn, d1.evs.map (·.2) ++ [t.2.2.2], _⟩
          rw [List.map_append]
          rfl
      · have hs2 : ¬ (c : Int) < (g.win : Int) := hs
        refine ⟨_, rfl, g.a, _, g.dx, _, _, rfl, hwd, T.Ward.cl, T.n_Ward_news, rfl, _, rfl, _, _, rfl, rfl, _, _, rfl, rfl, g.dx, _, hwd, (by show 9 < 1000; decide), ?_⟩
        exact last (by rw [show g.win - c = 0 by omega]; rfl) _ _ (hA3.setW (g' := { (g.setD i d1) with news := g.news + (1 + c) }) rfl rfl rfl) rfl
    · have hno : fidx d1.asd d1.evs.length = none := by
        cases q : fidx d1.asd d1.evs.length with
        | none => rfl
        | some kk => exact absurd (fval_nonneg.mpr ⟨kk, q⟩) h0
      refine iteF ?_
      refine ⟨_, rfl, g.a, _, g.dx, _, _, rfl, hwd, T.Ward.cl, T.n_Ward_news, rfl, _, rfl, _, _, rfl, rfl, _, _, rfl, rfl, g.dx, _, hwd, (by show 9 < 1000; decide), ?_⟩
      exact last (drain_end (by rw [has, hcl]; exact find_no hno)) _ _ (hA3.setW (g' := { (g.setD i d1) with news := g.news + (1 + c) }) rfl rfl rfl) rfl
end
end Nw
end
section
set_option Elab.async false
set_option linter.all false
set_option maxRecDepth 100000
set_option maxHeartbeats 2000000
namespace Nw
open PySem PySem.Spec PyProof.Rows L2
section
variable {P : Program} {w : World} {K : PySem.W.Frag} {mg : Str → Option Value} {base : Heap} {a : Adr}
theorem Keep.net {g g' : GW} (h : ∃ ps lost, g' = g.withNet ps lost) : Keep g g' := by
  obtain ⟨ps, l, rfl⟩ := h
  exact ⟨rfl, rfl, rfl⟩
theorem takeData_eq {s : Vbdlao.St} {m i : Nat} {e : List Nat} {d : Vbdlao.Desk} (hD : Vbdlao.desk s m = d) : Vbdlao.takeData s m i e =
    if i < d.copy.length ∨ (d.aside.any fun x => x.1 == i) = true then (Vbdlao.answerAck { s with again := s.again + 1 } m, 1)
    else if i = d.copy.length then (Vbdlao.answerAck (newsOf s m (Vbdlao.drain s.window { d with copy := d.copy ++ [e] })) m, 2)
    else if i < d.copy.length + s.window then (Vbdlao.answerAck (Vbdlao.putDesk s m { d with aside := d.aside ++ [(i, e)] }) m, 2)
    else (Vbdlao.answerAck s m, 1) := by
  subst hD
  rfl
theorem takeAck_eq {s : Vbdlao.St} {i t n : Nat} {x : Vbdlao.Machine} (hM : Vbdlao.machine s i = x) : Vbdlao.takeAck s i t n =
    if x.log.length < n then (s, 1)
    else if x.turn < t then (Vbdlao.pumpAll i (Vbdlao.putMachine s i { x with turn := t, acked := n, next := n, timer := 0 }), 2)
    else if t = x.turn ∧ x.acked < n then (Vbdlao.pumpAll i (Vbdlao.putMachine s i { x with acked := n, next := max n x.next, timer := 0 }), 2)
    else (s, 1) := by
  subst hM
  rfl
def sp_data_at_station (a : Adr) : Sp := fun vs H Q _ => ∃ (g : GW) (R : List Fact) (m i : Nat) (d : GD) (e : Ev), vs = [.ref g.a, .int m, .int i, .ref e.1] ∧ At a g ((e.1, .lst (bV e.2)) :: R) H ∧ g.ds[m]? = some d ∧ (d.asd.map (·.2.1)).Nodup ∧ d.evs.length + d.asd.length ≤ 10000000 ∧
  ∀ (g' : GW) (H' : Hp), At a g' R H' → Keep g g' → g'.st = (Vbdlao.takeData g.st m i e.2).1 → Q (.int (Vbdlao.takeData g.st m i e.2).2) H'
theorem ok_data_at_station (T : Txt K mg a) : FnOk P w K mg base CX0 6 a.f_data_at_station a.d_data_at_station p_data_at_station (sp_data_at_station a) := by
  refine T.data_at_station.F.ok sc_data_at_station (fun vs H Q E h => ?_) (fun cdv A outer s H vs Q E hr h => ?_)
  · obtain ⟨g, R, m, i, d, e, rfl, _⟩ := h
    rfl
  · obtain ⟨g, R, m, i, d, e, rfl, hA, hd, hnd, hsz, k⟩ := h
    refine ⟨_, (pss_cons (ps_set (i := 4) sc_data_at_station.nd rfl (Or.inl rfl) (pe_ix ix_list (pe_fld (pv 0) rfl) (pv 1) (fun _ _ => rfl)))
      (pss_cons (ps_set (i := 5) sc_data_at_station.nd rfl (Or.inl rfl) (pe_callB call_len_seq rfl T.b_len PySem.boot_len (pa_cons (pe_fld (pv 4) rfl) pa_nil)))
      (pss_cons (ps_set (i := 6) sc_data_at_station.nd rfl (Or.inl rfl) pe_int)
      (pss_cons (ps_if (PW.pt (pw_or (pt_cmpR op_lt (pv 2) (pv 5) (nomark _)) (pw_or1 (pt_cmpR op_ge (pe_call (ok_find_aside T) (hr.mono (by decide)) rfl T.find_aside.mg T.find_aside.F.kp T.find_aside.b .nil pass0 (pa_cons (pv 4) (pa_cons (pv 2) pa_nil))) pe_int (nomark _))))) (pss_one (ps_fldaug (pv 0) pe_int in_add)) (pss_one (ps_if (pt_cmpR op_eq (pv 2) (pv 5) (nomark _)) (pss_cons (ps_expr (pe_call (ok_take_in T) (hr.mono (by decide)) rfl T.take_in.mg T.take_in.F.kp T.take_in.b .nil pass0 (pa_cons (pv 0) (pa_cons (pv 4) (pa_cons (pv 3) pa_nil)))))
      (pss_one (ps_set (i := 6) sc_data_at_station.nd rfl (Or.inl rfl) pe_int))) (pss_one (ps_if (pt_cmpR op_lt (pv 2) (pe_op op_add (pv 5) (pe_fld (pv 0) rfl)) (nomark _)) (pss_cons (ps_expr (pe_bm PySem.F.plainAttrs_list PySem.F.slot_list_append PySem.F.type_list_append mt_append (pe_fld (pv 4) rfl) (pa_cons (pe_tup (pa_cons (pv 2) (pa_cons (pv 3) pa_nil))) pa_nil)))
      (pss_one (ps_set (i := 6) sc_data_at_station.nd rfl (Or.inl rfl) pe_int))) pss_nil)))))
      (pss_cons (ps_expr (pe_call (ok_station_acks T) (hr.mono (by decide)) rfl T.station_acks.mg T.station_acks.F.kp T.station_acks.b .nil pass0 (pa_cons (pv 0) (pa_cons (pv 1) pa_nil))))
      (pss_one (ps_ret (pv 6)))))))), ?_⟩
    have hcl : d.st.copy.length = d.evs.length := by show (d.evs.map (·.2)).length = _; rw [List.length_map]
    have has : d.st.aside = asSt d.asd := rfl
    have hD := GW.desk_at hd
    rw [takeData_eq hD, hcl, has] at k
    have hcE : (evR d.evs).length = d.evs.length := evR_len _
    refine ⟨_, rfl, g.a, _, g.dx, _, _, rfl, hA.ward, T.Ward.cl, T.n_Ward_desks, rfl, _, rfl, g.ld, _, _, _, rfl, rfl, SqL.of hA.ld, dR_at hd, ?_⟩
    refine ⟨_, rfl, d.a, _, d.dx, _, _, rfl, hA.desk hd, T.Desk.cl, T.n_Desk_copied, rfl, d.cp, _, rfl, .inl (SqL.of (hA.copy hd)), ?_⟩
    rw [hcE]
    have bump : (i < d.evs.length ∨ ((asSt d.asd).any fun x => x.1 == i) = true) → ∀ g' H', At a g' R H' → (∃ ps lost, g' = ({ g with again := g.again + 1 } : GW).withNet ps lost) → g'.st = Vbdlao.answerAck ({ g with again := g.again + 1 } : GW).st m → Q (.int 1) H' := fun hc g' H' hA' hn hst => by
      rw [if_pos hc] at k
      obtain ⟨ps, l, hg⟩ := hn
      exact k g' H' hA' (by rw [hg]; exact ⟨rfl, rfl, rfl⟩) hst
    refine ⟨_, rfl, _, rfl, _, _, rfl, rfl, _, rfl, ifc (fun hlt => iteT ?_) fun hge => ?_⟩
    · refine ⟨_, rfl, g.a, _, g.dx, _, _, rfl, hA.ward, T.Ward.cl, T.n_Ward_again, rfl, _, _, rfl, rfl, g.dx, _, hA.ward, (by show 9 < 1000; decide), ?_⟩
      have hA1 := hA.setW (g' := { g with again := g.again + 1 }) rfl rfl rfl
      refine ⟨_, rfl, _, rfl, { g with again := g.again + 1 }, R, m, d, rfl, hA1.drop, hd, fun g' H' hA' hn hst => ⟨_, rfl, bump (.inl (by omega)) g' H' hA' hn hst⟩⟩
    · have nlt : ¬ i < d.evs.length := by omega
      refine ⟨_, rfl, _, rfl, g, _, m, i, d, rfl, hA, hd, fun H1 s1 => ⟨_, _, rfl, rfl, _, rfl, ifc (fun h0 => ?_) fun h0 => ?_⟩⟩
      · have hA0 := hA.same s1
        have hc : i < d.evs.length ∨ ((asSt d.asd).any fun x => x.1 == i) = true := .inr ((any_iff _ _).mpr (fval_nonneg.mp h0))
        refine ⟨_, rfl, g.a, _, g.dx, _, _, rfl, hA0.ward, T.Ward.cl, T.n_Ward_again, rfl, _, _, rfl, rfl, g.dx, _, hA0.ward, (by show 9 < 1000; decide), ?_⟩
        have hA1 := hA0.setW (g' := { g with again := g.again + 1 }) rfl rfl rfl
        refine ⟨_, rfl, _, rfl, { g with again := g.again + 1 }, R, m, d, rfl, hA1.drop, hd, fun g' H' hA' hn hst => ⟨_, rfl, bump hc g' H' hA' hn hst⟩⟩
      have hA1 := hA.same s1
      have nc : ¬ (i < d.evs.length ∨ ((asSt d.asd).any fun x => x.1 == i) = true) := fun hc => hc.elim nlt fun q => h0 (fval_nonneg.mpr ((any_iff _ _).mp q))
      rw [if_neg nc] at k
      refine ⟨_, rfl, _, rfl, rfl, _, rfl, ifEq (fun heq => ?_) fun hne => ?_⟩
      · have heq' : i = d.evs.length := by omega
        rw [if_pos heq'] at k
        refine ⟨_, rfl, _, rfl, _, rfl, g, R, m, d, e, rfl, hA1, hd, hnd, hsz, fun g1 H2 hA2 hK1 hst1 => ?_⟩
        obtain ⟨d1, hd1, _⟩ := hK1.desk hd
        refine ⟨_, rfl, _, rfl, g1, R, m, d1, by rw [hK1.a]; rfl, hA2, hd1, fun g' H' hA' hn hst => ⟨_, rfl, k g' H' hA' (hK1.trans (Keep.net hn)) ?_⟩⟩
        rw [hst, hst1]
        rfl
      · rw [if_neg (fun z => hne (by rw [z]))] at k
        refine ⟨_, rfl, _, rfl, _, rfl, g.a, _, g.dx, _, _, rfl, hA1.ward, T.Ward.cl, T.n_Ward_window, rfl, _, _, rfl, rfl, _, _, rfl, rfl, _, rfl, ifc (fun hw => ?_) fun hw => ?_⟩
        · have hw' : i < d.evs.length + g.st.window := by
            have hw2 : (i : Int) < (d.evs.length : Nat) + (g.win : Int) := hw
            show i < d.evs.length + g.win
            omega
          rw [if_pos hw'] at k
          refine ⟨_, rfl, d.a, _, d.dx, _, _, rfl, hA1.desk hd, T.Desk.cl, T.n_Desk_aside, rfl, .inl ⟨rfl, _, SqL.of (hA1.aside hd)⟩, _, rfl, _, rfl, (by show 2 ≤ sizeLine; decide), fun t ht => ?_⟩
          have hA2 : At a g (asF (t, i, e) ++ R) _ := hA1.new (o := .tup [.int i, .ref e.1]) ht
          refine ⟨d.ad, _, _, rfl, rfl, hA2.aside hd, ?_, ?_⟩
          · unfold asR
            rw [List.length_map]
            exact Nat.lt_of_le_of_lt (Nat.le_trans (Nat.le_add_left _ _) hsz) (by decide)
          have hA3 := hA2.asideAdd hd
          refine ⟨_, rfl, _, rfl, g.setD m { d with asd := d.asd ++ [(t, i, e)] }, R, m, { d with asd := d.asd ++ [(t, i, e)] }, rfl, hA3, setD_get hd, fun g' H' hA' hn hst => ⟨_, rfl, k g' H' hA' ((Keep.setD (m' := { d with asd := d.asd ++ [(t, i, e)] }) hd rfl).trans (Keep.net hn)) ?_⟩⟩
          rw [hst, GW.put_desk]
          show Vbdlao.answerAck (Vbdlao.putDesk g.st m ⟨d.turn, d.evs.map (·.2), (d.asd ++ [(t, i, e)]).map _⟩) m = _
          rw [List.map_append]
          rfl
        · have hw' : ¬ i < d.evs.length + g.st.window := by
            have hw2 : ¬ (i : Int) < (d.evs.length : Nat) + (g.win : Int) := hw
            show ¬ i < d.evs.length + g.win
            omega
          rw [if_neg hw'] at k
          refine ⟨_, rfl, _, rfl, g, R, m, d, rfl, hA1.drop, hd, fun g' H' hA' hn hst => ⟨_, rfl, k g' H' hA' (Keep.net hn) hst⟩⟩
def sp_ack_at_machine (a : Adr) : Sp := fun vs H Q _ => ∃ (g : GW) (R : List Fact) (i t n : Nat) (m : GM), vs = [.ref g.a, .int i, .int t, .int n] ∧ At a g R H ∧ g.ms[i]? = some m ∧ (∀ e ∈ m.evs, e.2.length ≤ 16) ∧
  ∀ (g' : GW) (H' : Hp), At a g' R H' → Keep g g' → g'.st = (Vbdlao.takeAck g.st i t n).1 → Q (.int (Vbdlao.takeAck g.st i t n).2) H'
theorem ok_ack_at_machine (T : Txt K mg a) : FnOk P w K mg base CX0 6 a.f_ack_at_machine a.d_ack_at_machine p_ack_at_machine (sp_ack_at_machine a) := by
  refine T.ack_at_machine.F.ok sc_ack_at_machine (fun vs H Q E h => ?_) (fun cdv A outer s H vs Q E hr h => ?_)
  · obtain ⟨g, R, i, t, n, m, rfl, _⟩ := h
    rfl
  · obtain ⟨g, R, i, t, n, m, rfl, hA, hm, hev, k⟩ := h
    refine ⟨_, (pss_cons (ps_set (i := 4) sc_ack_at_machine.nd rfl (Or.inl rfl) (pe_ix ix_list (pe_fld (pv 0) rfl) (pv 1) (fun _ _ => rfl)))
      (pss_cons (ps_if (pt_cmpR op_gt (pv 3) (pe_callB call_len_seq rfl T.b_len PySem.boot_len (pa_cons (pe_fld (pv 4) rfl) pa_nil)) (nomark _)) (pss_one (ps_ret pe_int)) pss_nil)
      (pss_cons (ps_if (pt_cmpR op_gt (pv 2) (pe_fld (pv 4) rfl) (nomark _)) (pss_cons (ps_fld (pv 4) (pv 2) rfl)
      (pss_one (ps_fld (pv 4) (pv 3) rfl))) (pss_one (ps_if (PW.pt (pw_and (pt_cmpR op_eq (pv 2) (pe_fld (pv 4) rfl) (nomark _)) (pw_and1 (pt_cmpR op_gt (pv 3) (pe_fld (pv 4) rfl) (nomark _))))) (pss_one (ps_fld (pv 4) (pe_callB (call_max2 rfl) rfl T.b_max PyProof.Rows.boot_max (pa_cons (pv 3) (pa_cons (pe_fld (pv 4) rfl) pa_nil))) rfl)) (pss_one (ps_ret pe_int)))))
      (pss_cons (ps_fld (pv 4) (pv 3) rfl)
      (pss_cons (ps_fld (pv 4) pe_int rfl)
      (pss_cons (ps_expr (pe_call (ok_pump T) (hr.mono (by decide)) rfl T.pump.mg T.pump.F.kp T.pump.b .nil pass0 (pa_cons (pv 0) (pa_cons (pv 1) pa_nil))))
      (pss_one (ps_ret pe_int)))))))), ?_⟩
    have hM := GW.machine_at hm
    have hll : m.st.log.length = m.evs.length := by show (m.evs.map (·.2)).length = _; rw [List.length_map]
    rw [takeAck_eq hM, hll] at k
    have hcE : (evR m.evs).length = m.evs.length := evR_len _
    refine ⟨_, rfl, g.a, _, g.dx, _, _, rfl, hA.ward, T.Ward.cl, T.n_Ward_machines, rfl, _, rfl, g.lm, _, _, _, rfl, rfl, SqL.of hA.lm, mR_at hm, ?_⟩
    refine ⟨_, rfl, _, rfl, m.a, _, m.dx, _, _, rfl, hA.mach hm, T.Machine.cl, T.n_Machine_log, rfl, m.lg, _, rfl, .inl (SqL.of (hA.log hm)), _, _, rfl, rfl, _, rfl, ?_⟩
    rw [hcE]
    refine ifc (fun hlt => ?_) fun hge => ?_
    · rw [if_pos (show m.evs.length < n by omega)] at k
      exact k g H hA (Keep.refl g) rfl
    · rw [if_neg (show ¬ m.evs.length < n by omega)] at k
      have hmm := hA.mach hm
      have fin : ∀ (m3 : GM) (H3 : Hp), m3.a = m.a → m3.dx = m.dx → m3.lg = m.lg → m3.evs = m.evs → At a (g.setM i m3) R H3 → (∀ (g' : GW) (H' : Hp), At a g' R H' → Keep g g' → g'.st = Vbdlao.pumpAll i (Vbdlao.putMachine g.st i m3.st) → Q (.int 2) H') →
          ∃ (g0 : GW) (R0 : List Fact) (i0 : Nat) (m0 : GM), [V.ref g.a, V.int i] = [.ref g0.a, .int i0] ∧ At a g0 R0 H3 ∧ g0.ms[i0]? = some m0 ∧ (∀ e ∈ m0.evs, e.2.length ≤ 16) ∧ ∀ (g' : GW) (H' : Hp), At a g' R0 H' → Keep g0 g' → g'.st = Vbdlao.pumpAll i0 g0.st → Q (.int 2) H' := fun m3 H3 e1 e2 e3 e4 h3 kk =>
        ⟨g.setM i m3, R, i, m3, rfl, h3, setM_get hm, by rw [e4]; exact hev, fun g' H' hA' hK hst => kk g' H' hA' ((Keep.setM hm e1).trans hK) (by rw [hst, GW.put_machine])⟩
      refine ⟨_, rfl, _, rfl, m.a, _, m.dx, _, _, rfl, hmm, T.Machine.cl, T.n_Machine_turn, rfl, _, _, rfl, rfl, _, rfl, ifc (fun hgt => ?_) fun hngt => ?_⟩
      · have hgt' : m.turn < t := by
          have h2 : (m.turn : Int) < (t : Int) := hgt
          omega
        rw [if_pos (show m.st.turn < t from hgt')] at k
        refine ⟨_, rfl, _, rfl, m.a, _, m.dx, _, rfl, hmm, T.Machine.cl, T.n_Machine_turn, (by show 6 < 1000; decide), ?_⟩
        refine ⟨_, rfl, _, rfl, m.a, _, m.dx, _, rfl, upd_same, T.Machine.cl, T.n_Machine_next_place, (by show 6 < 1000; decide), ?_⟩
        refine ⟨_, rfl, _, rfl, m.a, _, m.dx, _, rfl, upd_same, T.Machine.cl, T.n_Machine_acked, (by show 6 < 1000; decide), ?_⟩
        refine ⟨_, rfl, m.a, _, m.dx, _, rfl, upd_same, T.Machine.cl, T.n_Machine_timer, (by show 6 < 1000; decide), ?_⟩
        rw [upd_upd, upd_upd, upd_upd]
        obtain ⟨g0, R0, i0, m0, h1, h2, h3, h4, h5⟩ := fin { m with turn := t, next := n, acked := n, timer := 0 } _ rfl rfl rfl rfl (hA.setM (m' := { m with turn := t, next := n, acked := n, timer := 0 }) hm rfl rfl rfl rfl) k
        exact ⟨_, rfl, _, rfl, g0, R0, i0, m0, h1, h2, h3, h4, h5⟩
      · have hngt' : ¬ m.turn < t := by
          have h2 : ¬ (m.turn : Int) < (t : Int) := hngt
          omega
        rw [if_neg (show ¬ m.st.turn < t from hngt')] at k
        have stay : ¬ (t = m.turn ∧ m.acked < n) → Q (.int 1) H := fun hn => by
          rw [if_neg (show ¬ (t = m.st.turn ∧ m.st.acked < n) from hn)] at k
          exact k g H hA (Keep.refl g) rfl
        refine ⟨_, rfl, _, rfl, m.a, _, m.dx, _, _, rfl, hmm, T.Machine.cl, T.n_Machine_turn, rfl, rfl, _, rfl, ifEq (fun heq => ?_) fun hne => ?_⟩
        · refine ⟨_, rfl, _, rfl, m.a, _, m.dx, _, _, rfl, hmm, T.Machine.cl, T.n_Machine_acked, rfl, _, _, rfl, rfl, _, rfl, ifc (fun hac => ?_) fun hnac => ?_⟩
          · have hac' : m.acked < n := by
              have h2 : (m.acked : Int) < (n : Int) := hac
              omega
            rw [if_pos (show t = m.st.turn ∧ m.st.acked < n from ⟨by show t = m.turn; omega, hac'⟩)] at k
            refine ⟨_, rfl, _, rfl, m.a, _, m.dx, _, _, rfl, hmm, T.Machine.cl, T.n_Machine_next_place, rfl, _, _, rfl, ?_⟩
            have emax : (if (m.next : Int) > (n : Int) then (m.next : Int) else (n : Int)) = ((max n m.next : Nat) : Int) := by
              split <;> omega
            rw [emax]
            refine ⟨_, rfl, m.a, _, m.dx, _, rfl, hmm, T.Machine.cl, T.n_Machine_next_place, (by show 6 < 1000; decide), ?_⟩
            refine ⟨_, rfl, _, rfl, m.a, _, m.dx, _, rfl, upd_same, T.Machine.cl, T.n_Machine_acked, (by show 6 < 1000; decide), ?_⟩
            refine ⟨_, rfl, m.a, _, m.dx, _, rfl, upd_same, T.Machine.cl, T.n_Machine_timer, (by show 6 < 1000; decide), ?_⟩
            rw [upd_upd, upd_upd]
            obtain ⟨g0, R0, i0, m0, h1, h2, h3, h4, h5⟩ := fin { m with next := max n m.next, acked := n, timer := 0 } _ rfl rfl rfl rfl (hA.setM (m' := { m with next := max n m.next, acked := n, timer := 0 }) hm rfl rfl rfl rfl) k
            exact ⟨_, rfl, _, rfl, g0, R0, i0, m0, h1, h2, h3, h4, h5⟩
          · refine stay fun q => ?_
            have h2 : ¬ (m.acked : Int) < (n : Int) := hnac
            omega
        · refine iteF (stay fun q => hne ?_)
          show (t : Int) = (m.turn : Int)
          omega
end
end Nw
end
section
set_option Elab.async false
set_option linter.all false
set_option maxRecDepth 100000
set_option maxHeartbeats 2000000
namespace Nw
open PySem PySem.Spec PyProof.Rows L2
structure DeskOk (N W : Nat) (d : Vbdlao.Desk) : Prop where
  nd : (d.aside.map (·.1)).Nodup
  sz : d.copy.length + d.aside.length ≤ N
  asd : ∀ x ∈ d.aside, d.copy.length ≤ x.1 ∧ x.1 < d.copy.length + W ∧ x.2.length ≤ 16
  cpy : ∀ e ∈ d.copy, e.length ≤ 16
structure Wf (N : Nat) (s : Vbdlao.St) : Prop where
  len : s.desks.length = s.machines.length
  four : s.machines.length ≤ 4
  win : s.window ≤ 8
  log : ∀ x ∈ s.machines, x.log.length ≤ 200 ∧ ∀ e ∈ x.log, e.length ≤ 16
  desk : ∀ d ∈ s.desks, DeskOk N s.window d
  net : s.net.length ≤ 200
  pkt : ∀ p ∈ s.net, p.m < s.machines.length ∧ p.bytes.length ≤ 25
section
variable {g : GW} {N : Nat}
theorem Wf.logM (h : Wf N g.st) {i : Nat} {m : GM} (hi : g.ms[i]? = some m) : m.evs.length ≤ 200 ∧ ∀ e ∈ m.evs, e.2.length ≤ 16 := by
  obtain ⟨h1, h2⟩ := h.log m.st (List.mem_map.mpr ⟨m, List.mem_of_getElem? hi, rfl⟩)
  refine ⟨?_, fun e he => h2 e.2 (List.mem_map.mpr ⟨e, he, rfl⟩)⟩
  have e : m.st.log.length = m.evs.length := by show (m.evs.map (·.2)).length = _; rw [List.length_map]
  rw [← e]
  exact h1
theorem Wf.deskD (h : Wf N g.st) {i : Nat} {d : GD} (hi : g.ds[i]? = some d) : (d.asd.map (·.2.1)).Nodup ∧ d.evs.length + d.asd.length ≤ N := by
  obtain ⟨h1, h2, _, _⟩ := h.desk d.st (List.mem_map.mpr ⟨d, List.mem_of_getElem? hi, rfl⟩)
  have e1 : d.st.copy.length = d.evs.length := by show (d.evs.map (·.2)).length = _; rw [List.length_map]
  have e2 : d.st.aside.length = d.asd.length := by show (d.asd.map _).length = _; rw [List.length_map]
  rw [e1, e2] at h2
  refine ⟨?_, h2⟩
  have e3 : d.st.aside.map (·.1) = d.asd.map (·.2.1) := by
    show (d.asd.map _).map _ = _
    rw [List.map_map]
    rfl
  rw [← e3]
  exact h1
theorem Wf.dlen (h : Wf N g.st) : g.ds.length = g.ms.length := by
  have e := h.len
  have e1 : g.st.desks.length = g.ds.length := by show (g.ds.map _).length = _; rw [List.length_map]
  have e2 : g.st.machines.length = g.ms.length := by show (g.ms.map _).length = _; rw [List.length_map]
  omega
theorem GW.mlen (g : GW) : g.st.machines.length = g.ms.length := by show (g.ms.map _).length = _; rw [List.length_map]
end
def ToldF (H : Hp) (t : Addr) : VFrame → List Fact → Prop
  | .data m i e, F => ∃ l, F = [(l, .lst (bV e))] ∧ H t = some (.tup [.int 68, .int m, .int i, .ref l])
  | .ack m u n, F => F = [] ∧ H t = some (.tup [.int 65, .int m, .int u, .int n])
  | .ask m, F => F = [] ∧ H t = some (.tup [.int 72, .int m])
theorem told_fact {a : Adr} {g : GW} {R : List Fact} {H H' : Hp} {t : Addr} {f : VFrame} (hA : At a g R H) (e : Same H H') (h : ToldNew H H' t f) : ∃ F, ToldF H' t f F ∧ At a g (F ++ R) H' := by
  cases f with
  | data m i ev =>
    obtain ⟨l, h1, h2, h3⟩ := h
    exact ⟨_, ⟨l, rfl, h1⟩, hA.add e h3 h2⟩
  | ack m u n => exact ⟨[], ⟨rfl, h⟩, hA.same e⟩
  | ask m => exact ⟨[], ⟨rfl, h⟩, hA.same e⟩
def atStation (s : Vbdlao.St) : VFrame → Option (Vbdlao.St × Nat)
  | .data m i e => if m < s.machines.length then some (Vbdlao.takeData s m i e) else none
  | .ask m => if m < s.machines.length then some (Vbdlao.answerAck s m, 1) else none
  | .ack _ _ _ => none
def atMachine (s : Vbdlao.St) (k : Nat) : VFrame → Option (Vbdlao.St × Nat)
  | .ack m u n => if m = k then some (if (Vbdlao.machine s m).on = false then (s, 0) else Vbdlao.takeAck s m u n) else none
  | _ => none
def outF (a : Adr) (g : GW) (R : List Fact) (Q : VK) (o : Option (Vbdlao.St × Nat)) : Prop := match o with
  | some r => ∀ (g' : GW) (H' : Hp), At a g' R H' → Keep g g' → g'.st = r.1 → Q (.int r.2) H'
  | none => ∀ H' : Hp, At a g R H' → Q (.int (-1)) H'
theorem arrive_eq {s : Vbdlao.St} {p : Vbdlao.Packet} (hp : p.m < s.machines.length) : Vbdlao.arrive s p = ((Vbdlao.frameOf p.bytes).bind (if p.toStation = true then atStation s else atMachine s p.m)).getD ({ s with bad := s.bad + 1 }, 0) := by
  unfold Vbdlao.arrive
  cases e : Vbdlao.frameOf p.bytes with
  | none => rfl
  | some f =>
    cases ht : p.toStation with
    | true =>
      rw [Option.bind_some, if_pos rfl]
      cases f with
      | data m i ev =>
        show (if true = true ∧ m < s.machines.length then _ else _) = (if m < s.machines.length then _ else _ : Option (Vbdlao.St × Nat)).getD _
        by_cases h : m < s.machines.length
        · rw [if_pos ⟨rfl, h⟩, if_pos h]; rfl
        · rw [if_neg (fun q => h q.2), if_neg h]; rfl
      | ask m =>
        show (if true = true ∧ m < s.machines.length then _ else _) = (if m < s.machines.length then _ else _ : Option (Vbdlao.St × Nat)).getD _
        by_cases h : m < s.machines.length
        · rw [if_pos ⟨rfl, h⟩, if_pos h]; rfl
        · rw [if_neg (fun q => h q.2), if_neg h]; rfl
      | ack m u n =>
        show (if true = true ∨ _ then _ else _) = _
        rw [if_pos (.inl rfl)]
        rfl
    | false =>
      rw [Option.bind_some, if_neg Bool.false_ne_true]
      cases f with
      | data m i ev =>
        show (if false = true ∧ m < s.machines.length then _ else _) = _
        rw [if_neg (fun q => Bool.false_ne_true q.1)]
        rfl
      | ask m =>
        show (if false = true ∧ m < s.machines.length then _ else _) = _
        rw [if_neg (fun q => Bool.false_ne_true q.1)]
        rfl
      | ack m u n =>
        show (if false = true ∨ m ≠ p.m ∨ s.machines.length ≤ m then _ else _) = (if m = p.m then _ else _ : Option (Vbdlao.St × Nat)).getD _
        by_cases h : m = p.m
        · rw [if_neg (by rintro (q | q | q); exact Bool.false_ne_true q; exact q h; omega), if_pos h]; rfl
        · rw [if_pos (.inr (.inl h)), if_neg h]; rfl
section
variable {P : Program} {w : World} {K : PySem.W.Frag} {mg : Str → Option Value} {base : Heap} {a : Adr}
def sp_arrive_at_station (a : Adr) : Sp := fun vs H Q _ => ∃ (g : GW) (R F : List Fact) (t : Addr) (f : VFrame) (N : Nat), vs = [.ref g.a, .ref t] ∧ ToldF H t f F ∧ At a g (F ++ R) H ∧ Wf N g.st ∧ N ≤ 10000000 ∧ outF a g R Q (atStation g.st f)
theorem ok_arrive_at_station (T : Txt K mg a) : FnOk P w K mg base CX0 7 a.f_arrive_at_station a.d_arrive_at_station p_arrive_at_station (sp_arrive_at_station a) := by
  refine T.arrive_at_station.F.ok sc_arrive_at_station (fun vs H Q E h => ?_) (fun cdv A outer s H vs Q E hr h => ?_)
  · obtain ⟨g, R, F, t, f, N, rfl, _⟩ := h
    rfl
  · obtain ⟨g, R, F, t, f, N, rfl, hT, hA, hW, hN, k⟩ := h
    refine ⟨_, (pss_cons (ps_set (i := 2) sc_arrive_at_station.nd rfl (Or.inl rfl) (pe_ix ix_tup (pv 1) pe_int (fun _ _ => rfl)))
      (pss_cons (ps_if (pt_cmpR op_ge (pv 2) (pe_callB call_len_seq rfl T.b_len PySem.boot_len (pa_cons (pe_fld (pv 0) rfl) pa_nil)) (nomark _)) (pss_one (ps_ret (pe_un un_neg pe_int))) pss_nil)
      (pss_cons (ps_if (pt_cmpR op_eq (pe_ix ix_tup (pv 1) pe_int (fun _ _ => rfl)) (pe_gint rfl T.c_DATA) (nomark _)) (pss_one (ps_ret (pe_call (ok_data_at_station T) (hr.mono (by decide)) rfl T.data_at_station.mg T.data_at_station.F.kp T.data_at_station.b .nil pass0 (pa_cons (pv 0) (pa_cons (pv 2) (pa_cons (pe_ix ix_tup (pv 1) pe_int (fun _ _ => rfl)) (pa_cons (pe_ix ix_tup (pv 1) pe_int (fun _ _ => rfl)) pa_nil))))))) pss_nil)
      (pss_cons (ps_if (pt_cmpR op_eq (pe_ix ix_tup (pv 1) pe_int (fun _ _ => rfl)) (pe_gint rfl T.c_ASK) (nomark _)) (pss_cons (ps_expr (pe_call (ok_station_acks T) (hr.mono (by decide)) rfl T.station_acks.mg T.station_acks.F.kp T.station_acks.b .nil pass0 (pa_cons (pv 0) (pa_cons (pv 2) pa_nil))))
      (pss_one (ps_ret pe_int))) pss_nil)
      (pss_one (ps_ret (pe_un un_neg pe_int))))))), ?_⟩
    cases f with
    | data m i e =>
      obtain ⟨l, rfl, ht⟩ := hT
      have hA : At a g ((l, .lst (bV e)) :: R) H := hA
      refine ⟨_, rfl, t, _, _, _, rfl, rfl, SqT.of ht, rfl, ?_⟩
      refine ⟨_, rfl, _, rfl, g.a, _, g.dx, _, _, rfl, hA.ward, T.Ward.cl, T.n_Ward_machines, rfl, g.lm, _, rfl, .inl (SqL.of hA.lm), _, _, rfl, rfl, _, rfl, ?_⟩
      rw [mR_len]
      refine ifc (fun hge => ?_) fun hlt => ?_
      · have hk : atStation g.st (.data m i e) = none := if_neg (by rw [GW.mlen]; omega)
        rw [hk] at k
        exact ⟨_, rfl, k H hA.drop⟩
      · have hml : m < g.ms.length := by omega
        have hk : atStation g.st (.data m i e) = some (Vbdlao.takeData g.st m i e) := if_pos (by rw [GW.mlen]; exact hml)
        rw [hk] at k
        obtain ⟨d, hd⟩ := getD' (g := g) (i := m) (by rw [hW.dlen]; exact hml)
        obtain ⟨hnd, hsz⟩ := hW.deskD hd
        refine ⟨_, rfl, t, _, _, _, rfl, rfl, SqT.of ht, rfl, rfl, _, rfl, ifT rfl ?_⟩
        refine ⟨_, rfl, _, rfl, _, rfl, t, _, _, _, rfl, rfl, SqT.of ht, rfl, _, rfl, t, _, _, _, rfl, rfl, SqT.of ht, rfl, ?_⟩
        exact ⟨g, R, m, i, d, (l, e), rfl, hA, hd, hnd, Nat.le_trans hsz hN, k⟩
    | ask m =>
      obtain ⟨rfl, ht⟩ := hT
      have hA : At a g R H := hA
      refine ⟨_, rfl, t, _, _, _, rfl, rfl, SqT.of ht, rfl, ?_⟩
      refine ⟨_, rfl, _, rfl, g.a, _, g.dx, _, _, rfl, hA.ward, T.Ward.cl, T.n_Ward_machines, rfl, g.lm, _, rfl, .inl (SqL.of hA.lm), _, _, rfl, rfl, _, rfl, ?_⟩
      rw [mR_len]
      refine ifc (fun hge => ?_) fun hlt => ?_
      · have hk : atStation g.st (.ask m) = none := if_neg (by rw [GW.mlen]; omega)
        rw [hk] at k
        exact ⟨_, rfl, k H hA⟩
      · have hml : m < g.ms.length := by omega
        have hk : atStation g.st (.ask m) = some (Vbdlao.answerAck g.st m, 1) := if_pos (by rw [GW.mlen]; exact hml)
        rw [hk] at k
        obtain ⟨d, hd⟩ := getD' (g := g) (i := m) (by rw [hW.dlen]; exact hml)
        refine ⟨_, rfl, t, _, _, _, rfl, rfl, SqT.of ht, rfl, rfl, _, rfl, ifF (by intro z; cases z) ?_⟩
        refine ⟨_, rfl, t, _, _, _, rfl, rfl, SqT.of ht, rfl, rfl, _, rfl, ifT rfl ?_⟩
        exact ⟨_, rfl, _, rfl, g, R, m, d, rfl, hA, hd, fun g' H' hA' hn hst => k g' H' hA' (Keep.net hn) hst⟩
    | ack m u n =>
      obtain ⟨rfl, ht⟩ := hT
      have hA : At a g R H := hA
      refine ⟨_, rfl, t, _, _, _, rfl, rfl, SqT.of ht, rfl, ?_⟩
      refine ⟨_, rfl, _, rfl, g.a, _, g.dx, _, _, rfl, hA.ward, T.Ward.cl, T.n_Ward_machines, rfl, g.lm, _, rfl, .inl (SqL.of hA.lm), _, _, rfl, rfl, _, rfl, ifc (fun hge => ?_) fun hlt => ?_⟩
      · exact ⟨_, rfl, k H hA⟩
      · refine ⟨_, rfl, t, _, _, _, rfl, rfl, SqT.of ht, rfl, rfl, _, rfl, ifF (by intro z; cases z) ?_⟩
        refine ⟨_, rfl, t, _, _, _, rfl, rfl, SqT.of ht, rfl, rfl, _, rfl, ifF (by intro z; cases z) ?_⟩
        exact ⟨_, rfl, k H hA⟩
def sp_arrive_at_machine (a : Adr) : Sp := fun vs H Q _ => ∃ (g : GW) (R F : List Fact) (t : Addr) (f : VFrame) (N q : Nat) (m : GM), vs = [.ref g.a, .int q, .ref t] ∧ ToldF H t f F ∧ At a g (F ++ R) H ∧ Wf N g.st ∧ g.ms[q]? = some m ∧ outF a g R Q (atMachine g.st q f)
theorem ok_arrive_at_machine (T : Txt K mg a) : FnOk P w K mg base CX0 7 a.f_arrive_at_machine a.d_arrive_at_machine p_arrive_at_machine (sp_arrive_at_machine a) := by
  refine T.arrive_at_machine.F.ok sc_arrive_at_machine (fun vs H Q E h => ?_) (fun cdv A outer s H vs Q E hr h => ?_)
  · obtain ⟨g, R, F, t, f, N, q, m, rfl, _⟩ := h
    rfl
  · obtain ⟨g, R, F, t, f, N, q, x, rfl, hT, hA, hW, hx, k⟩ := h
    refine ⟨_, (pss_cons (ps_if (PW.pt (pw_or (pt_cmpR op_ne (pe_ix ix_tup (pv 2) pe_int (fun _ _ => rfl)) (pe_gint rfl T.c_ACK) (nomark _)) (pw_or1 (pt_cmpR op_ne (pe_ix ix_tup (pv 2) pe_int (fun _ _ => rfl)) (pv 1) (nomark _))))) (pss_one (ps_ret (pe_un un_neg pe_int))) pss_nil)
      (pss_cons (ps_if (pt_not (pt_val (pe_fld (pe_ix ix_list (pe_fld (pv 0) rfl) (pv 1) (fun _ _ => rfl)) rfl))) (pss_one (ps_ret pe_int)) pss_nil)
      (pss_one (ps_ret (pe_call (ok_ack_at_machine T) (hr.mono (by decide)) rfl T.ack_at_machine.mg T.ack_at_machine.F.kp T.ack_at_machine.b .nil pass0 (pa_cons (pv 0) (pa_cons (pv 1) (pa_cons (pe_ix ix_tup (pv 2) pe_int (fun _ _ => rfl)) (pa_cons (pe_ix ix_tup (pv 2) pe_int (fun _ _ => rfl)) pa_nil))))))))), ?_⟩
    cases f with
    | data m i e =>
      obtain ⟨l, rfl, ht⟩ := hT
      refine ⟨_, rfl, t, _, _, _, rfl, rfl, SqT.of ht, rfl, rfl, _, rfl, ?_⟩
      refine ifNe (fun _ => iteT ?_) fun z => absurd z (by decide)
      exact ⟨_, rfl, k H (At.drop (p := (l, .lst (bV e))) hA)⟩
    | ask m =>
      obtain ⟨rfl, ht⟩ := hT
      refine ⟨_, rfl, t, _, _, _, rfl, rfl, SqT.of ht, rfl, rfl, _, rfl, ?_⟩
      refine ifNe (fun _ => iteT ?_) fun z => absurd z (by decide)
      exact ⟨_, rfl, k H hA⟩
    | ack m u n =>
      obtain ⟨rfl, ht⟩ := hT
      have hA : At a g R H := hA
      refine ⟨_, rfl, t, _, _, _, rfl, rfl, SqT.of ht, rfl, rfl, _, rfl, ?_⟩
      refine ifNe (fun z => absurd rfl z) fun _ => ?_
      refine ⟨_, rfl, t, _, _, _, rfl, rfl, SqT.of ht, rfl, _, rfl, rfl, _, rfl, ifNe (fun hne => ?_) fun heq => ?_⟩
      · have hk : atMachine g.st q (.ack m u n) = none := if_neg (fun z => hne (by rw [z]))
        rw [hk] at k
        exact ⟨_, rfl, k H hA⟩
      · have e : m = q := by omega
        subst e
        have hk : atMachine g.st m (.ack m u n) = some (if (Vbdlao.machine g.st m).on = false then (g.st, 0) else Vbdlao.takeAck g.st m u n) := if_pos rfl
        rw [hk, GW.machine_at hx] at k
        refine ⟨_, rfl, g.a, _, g.dx, _, _, rfl, hA.ward, T.Ward.cl, T.n_Ward_machines, rfl, _, rfl, g.lm, _, _, _, rfl, rfl, SqL.of hA.lm, mR_at hx, x.a, _, x.dx, _, _, rfl, hA.mach hx, T.Machine.cl, T.n_Machine_power, rfl, _, rfl, ?_⟩
        refine ifnb (fun hoff => ?_) fun hon => ?_
        · rw [if_pos (show x.st.on = false from hoff)] at k
          exact k g H hA (Keep.refl g) rfl
        · rw [if_neg (show ¬ x.st.on = false from fun z => by rw [show x.st.on = true from hon] at z; cases z)] at k
          refine ⟨_, rfl, _, rfl, _, rfl, t, _, _, _, rfl, rfl, SqT.of ht, rfl, _, rfl, t, _, _, _, rfl, rfl, SqT.of ht, rfl, ?_⟩
          exact ⟨g, R, m, u, n, x, rfl, hA, hx, (hW.logM hx).2, k⟩
def sp_arrive (a : Adr) : Sp := fun vs H Q _ => ∃ (g : GW) (R : List Fact) (p : GP) (N : Nat), vs = [.ref g.a, .ref p.a] ∧ At a g (p.fs a ++ R) H ∧ Wf N g.st ∧ N ≤ 10000000 ∧ p.m < g.ms.length ∧ p.b.length ≤ 25 ∧
  ∀ (g' : GW) (H' : Hp), At a g' R H' → Keep g g' → g'.st = (Vbdlao.arrive g.st p.st).1 → Q (.int (Vbdlao.arrive g.st p.st).2) H'
theorem ok_arrive (T : Txt K mg a) : FnOk P w K mg base CX0 8 a.f_arrive a.d_arrive p_arrive (sp_arrive a) := by
  refine T.arrive.F.ok sc_arrive (fun vs H Q E h => ?_) (fun cdv A outer s H vs Q E hr h => ?_)
  · obtain ⟨g, R, p, N, rfl, _⟩ := h
    rfl
  · obtain ⟨g, R, p, N, rfl, hA, hW, hN, hpm, hpb, k⟩ := h
    refine ⟨_, (pss_cons (ps_set (i := 2) sc_arrive.nd rfl (Or.inl rfl) (pe_call (ok_read_frame T) (hr.mono (by decide)) rfl T.read_frame.mg T.read_frame.F.kp T.read_frame.b .nil pass0 (pa_cons (pe_fld (pv 1) rfl) pa_nil)))
      (pss_cons (ps_set (i := 3) sc_arrive.nd rfl (Or.inl rfl) (pe_un un_neg pe_int))
      (pss_cons (ps_if (PW.pt (pw_and (pt_cmp (pc_notN (pv 2))) (pw_and1 (pt_cmpR op_eq (pe_fld (pv 1) rfl) (pe_gint rfl T.c_TO_STATION) (nomark _))))) (pss_one (ps_set (i := 3) sc_arrive.nd rfl (Or.inl rfl) (pe_call (ok_arrive_at_station T) (hr.mono (by decide)) rfl T.arrive_at_station.mg T.arrive_at_station.F.kp T.arrive_at_station.b .nil pass0 (pa_cons (pv 0) (pa_cons (pv 2) pa_nil))))) (pss_one (ps_if (pt_cmp (pc_notN (pv 2))) (pss_one (ps_set (i := 3) sc_arrive.nd rfl (Or.inl rfl) (pe_call (ok_arrive_at_machine T) (hr.mono (by decide)) rfl T.arrive_at_machine.mg T.arrive_at_machine.F.kp T.arrive_at_machine.b .nil pass0 (pa_cons (pv 0) (pa_cons (pe_fld (pv 1) rfl) (pa_cons (pv 2) pa_nil)))))) pss_nil)))
      (pss_cons (ps_if (pt_cmpR op_lt (pv 3) pe_int (nomark _)) (pss_cons (ps_fldaug (pv 0) pe_int in_add)
      (pss_one (ps_ret pe_int))) pss_nil)
      (pss_one (ps_ret (pv 3))))))), ?_⟩
    rw [arrive_eq (s := g.st) (p := p.st) (by rw [GW.mlen]; exact hpm)] at k
    have hp : H p.a = some (.ins a.c_Packet p.dx p.fl) := hA.rest (p := (p.a, _)) (by simp [GP.fs])
    have ho : H p.oc = some (.lst (bV p.b)) := hA.rest (p := (p.oc, _)) (by simp [GP.fs])
    refine ⟨_, rfl, p.a, _, p.dx, _, _, rfl, hp, T.Packet.cl, T.n_Packet_octets, rfl, p.oc, p.b, rfl, SqL.of ho, Nat.le_trans hpb (by decide), ?_⟩
    cases hf : Vbdlao.frameOf p.b with
    | none =>
      rw [show Vbdlao.frameOf p.st.bytes = none from hf] at k
      refine fun H1 s1 => ?_
      have hA1 := hA.same s1
      refine ⟨_, rfl, ?_⟩
      refine ⟨_, rfl, _, rfl, ifnc (fun z => absurd rfl z) fun _ => iteF ?_⟩
      refine ⟨_, rfl, _, rfl, ifnc (fun z => absurd rfl z) fun _ => ?_⟩
      refine ⟨_, rfl, _, _, rfl, rfl, _, rfl, ifT (by decide) ?_⟩
      refine ⟨_, rfl, g.a, _, g.dx, _, _, rfl, hA1.ward, T.Ward.cl, T.n_Ward_bad, rfl, _, _, rfl, rfl, g.dx, _, hA1.ward, (by show 9 < 1000; decide), ?_⟩
      exact k { g with bad := g.bad + 1 } _ (hA1.setW (g' := { g with bad := g.bad + 1 }) rfl rfl rfl).drops ⟨rfl, rfl, rfl⟩ rfl
    | some f =>
      rw [show Vbdlao.frameOf p.st.bytes = some f from hf, Option.bind_some] at k
      refine fun t H1 s1 hn => ?_
      have hp1 := s1 _ _ hp
      obtain ⟨F, hF, hA1⟩ := told_fact hA s1 hn
      refine ⟨_, rfl, ?_⟩
      refine ⟨_, rfl, _, rfl, ifnc (fun _ => ?_) fun z => nomatch z⟩
      refine ⟨_, rfl, p.a, _, p.dx, _, _, rfl, hp1, T.Packet.cl, T.n_Packet_goes_to, rfl, rfl, _, rfl, ?_⟩
      cases hS : p.toS with
      | true =>
        rw [show p.st.toStation = true from hS, if_pos rfl] at k
        refine ifEq (fun _ => ?_) fun z => absurd rfl z
        refine ⟨_, rfl, _, rfl, g, p.fs a ++ R, F, t, f, N, rfl, hF, hA1, hW, hN, ?_⟩
        cases hr2 : atStation g.st f with
        | none =>
          rw [hr2] at k
          intro H2 hA2
          refine ⟨_, rfl, _, _, rfl, rfl, _, rfl, ifT (by decide) ?_⟩
          refine ⟨_, rfl, g.a, _, g.dx, _, _, rfl, hA2.ward, T.Ward.cl, T.n_Ward_bad, rfl, _, _, rfl, rfl, g.dx, _, hA2.ward, (by show 9 < 1000; decide), ?_⟩
          exact k { g with bad := g.bad + 1 } _ (hA2.setW (g' := { g with bad := g.bad + 1 }) rfl rfl rfl).drops ⟨rfl, rfl, rfl⟩ rfl
        | some r =>
          rw [hr2] at k
          intro g2 H2 hA2 hK hst
          refine ⟨_, rfl, _, _, rfl, rfl, _, rfl, ifF (by omega) ?_⟩
          exact ⟨_, rfl, k g2 H2 hA2.drops hK hst⟩
      | false =>
        rw [show p.st.toStation = false from hS, if_neg Bool.false_ne_true] at k
        refine ifEq (fun z => absurd z (by decide)) fun _ => ?_
        refine ⟨_, rfl, _, rfl, ifnc (fun _ => ?_) fun z => nomatch z⟩
        obtain ⟨m, hm⟩ := getM hpm
        refine ⟨_, rfl, _, rfl, p.a, _, p.dx, _, _, rfl, hp1, T.Packet.cl, T.n_Packet_machine, rfl, _, rfl, g, p.fs a ++ R, F, t, f, N, p.m, m, rfl, hF, hA1, hW, hm, ?_⟩
        cases hr2 : atMachine g.st p.m f with
        | none =>
          rw [show atMachine g.st p.st.m f = none from hr2] at k
          intro H2 hA2
          refine ⟨_, rfl, _, _, rfl, rfl, _, rfl, ifT (by decide) ?_⟩
          refine ⟨_, rfl, g.a, _, g.dx, _, _, rfl, hA2.ward, T.Ward.cl, T.n_Ward_bad, rfl, _, _, rfl, rfl, g.dx, _, hA2.ward, (by show 9 < 1000; decide), ?_⟩
          exact k { g with bad := g.bad + 1 } _ (hA2.setW (g' := { g with bad := g.bad + 1 }) rfl rfl rfl).drops ⟨rfl, rfl, rfl⟩ rfl
        | some r =>
          rw [show atMachine g.st p.st.m f = some r from hr2] at k
          intro g2 H2 hA2 hK hst
          refine ⟨_, rfl, _, _, rfl, rfl, _, rfl, ifF (by omega) ?_⟩
          exact ⟨_, rfl, k g2 H2 hA2.drops hK hst⟩
end
end Nw
end
section
set_option Elab.async false
set_option linter.all false
set_option maxRecDepth 100000
set_option maxHeartbeats 2000000
namespace Nw
open PySem PySem.Spec PyProof.Rows L2
section
variable {N : Nat} {s : Vbdlao.St}
theorem DeskOk.mono {M W : Nat} {d : Vbdlao.Desk} (h : DeskOk N W d) (e : N ≤ M) : DeskOk M W d := ⟨h.nd, Nat.le_trans h.sz e, h.asd, h.cpy⟩
theorem Wf.mono {M : Nat} (h : Wf N s) (e : N ≤ M) : Wf M s := ⟨h.len, h.four, h.win, h.log, fun d hd => (h.desk d hd).mono e, h.net, h.pkt⟩
theorem bytes_len {f : VFrame} (h : small f) : (Vbdlao.bytesOf f).length ≤ 25 := by
  rw [bytes_body]
  unfold Vbdlao.closed
  rw [List.length_append, two_len]
  have := body_len h
  omega
theorem Wf.send (h : Wf N s) {t : Bool} {m : Nat} {f : VFrame} (hm : m < s.machines.length) (hf : small f) : Wf N (Vbdlao.send s t m f) := by
  unfold Vbdlao.send
  by_cases hn : Vbdlao.NET ≤ s.net.length
  · rw [if_pos hn]
    exact ⟨h.len, h.four, h.win, h.log, h.desk, h.net, h.pkt⟩
  · rw [if_neg hn]
    refine ⟨h.len, h.four, h.win, h.log, h.desk, ?_, fun p hp => ?_⟩
    · show (s.net ++ [_]).length ≤ 200
      rw [List.length_append]
      have : ¬ 200 ≤ s.net.length := hn
      show s.net.length + 1 ≤ 200
      omega
    · rcases List.mem_append.mp hp with z | z
      · exact h.pkt p z
      · rw [List.mem_singleton.mp z]
        exact ⟨hm, bytes_len hf⟩
theorem mem_set {α : Type} {l : List α} {i : Nat} {x y : α} (h : y ∈ l.set i x) : y ∈ l ∨ y = x := by
  rcases List.mem_or_eq_of_mem_set h with z | z
  · exact .inl z
  · exact .inr z
theorem Wf.putM (h : Wf N s) {i : Nat} {x : Vbdlao.Machine} (hx : x.log.length ≤ 200 ∧ ∀ e ∈ x.log, e.length ≤ 16) : Wf N (Vbdlao.putMachine s i x) := by
  have e : (s.machines.set i x).length = s.machines.length := List.length_set
  refine ⟨?_, ?_, h.win, fun y hy => ?_, h.desk, h.net, fun p hp => ?_⟩
  · show s.desks.length = (s.machines.set i x).length
    rw [e]; exact h.len
  · show (s.machines.set i x).length ≤ 4
    rw [e]; exact h.four
  · rcases mem_set (show y ∈ s.machines.set i x from hy) with z | z
    · exact h.log y z
    · rw [z]; exact hx
  · show p.m < (s.machines.set i x).length ∧ _
    rw [e]; exact h.pkt p hp
theorem Wf.putD (h : Wf N s) {i : Nat} {d : Vbdlao.Desk} (hx : DeskOk N s.window d) : Wf N (Vbdlao.putDesk s i d) := by
  refine ⟨?_, h.four, h.win, h.log, fun y hy => ?_, h.net, h.pkt⟩
  · show (s.desks.set i d).length = s.machines.length
    rw [List.length_set]; exact h.len
  · rcases mem_set (show y ∈ s.desks.set i d from hy) with z | z
    · exact h.desk y z
    · rw [z]; exact hx
theorem mach_mem {i : Nat} (hi : i < s.machines.length) : Vbdlao.machine s i ∈ s.machines := by
  unfold Vbdlao.machine
  rw [List.getD_eq_getElem?_getD, List.getElem?_eq_getElem hi]
  exact List.getElem_mem hi
theorem desk_mem {i : Nat} (hi : i < s.desks.length) : Vbdlao.desk s i ∈ s.desks := by
  unfold Vbdlao.desk
  rw [List.getD_eq_getElem?_getD, List.getElem?_eq_getElem hi]
  exact List.getElem_mem hi
theorem send_mlen {t : Bool} {m : Nat} {f : VFrame} : (Vbdlao.send s t m f).machines = s.machines := by
  unfold Vbdlao.send
  split <;> rfl
theorem put_mlen {i : Nat} {x : Vbdlao.Machine} : (Vbdlao.putMachine s i x).machines.length = s.machines.length := List.length_set
theorem log_at {l : List (List Nat)} (h : ∀ e ∈ l, e.length ≤ 16) (i : Nat) : (l.getD i []).length ≤ 16 := by
  rw [List.getD_eq_getElem?_getD]
  cases q : l[i]? with
  | none => exact Nat.zero_le _
  | some e => exact h e (List.mem_of_getElem? q)
theorem Wf.pump {i : Nat} : ∀ (k : Nat) {s : Vbdlao.St}, Wf N s → i < s.machines.length → Wf N (Vbdlao.pump i k s) ∧ (Vbdlao.pump i k s).machines.length = s.machines.length
  | 0, s, h, hi => ⟨h, rfl⟩
  | k + 1, s, h, hi => by
    have hx := h.log _ (mach_mem hi)
    by_cases hc : (Vbdlao.machine s i).next < (Vbdlao.machine s i).log.length ∧ (Vbdlao.machine s i).next < (Vbdlao.machine s i).acked + s.window
    · rw [pump_go hc.1 hc.2]
      have h1 : Wf N (Vbdlao.putMachine s i { Vbdlao.machine s i with next := (Vbdlao.machine s i).next + 1 }) := h.putM hx
      have h2 := h1.send (t := true) (m := i) (f := .data i (Vbdlao.machine s i).next ((Vbdlao.machine s i).log.getD (Vbdlao.machine s i).next [])) (by rw [put_mlen]; exact hi) (log_at hx.2 _)
      obtain ⟨h3, e3⟩ := Wf.pump k h2 (by rw [send_mlen, put_mlen]; exact hi)
      exact ⟨h3, by rw [e3, send_mlen, put_mlen]⟩
    · rw [pump_end hc]
      exact ⟨h, rfl⟩
theorem Wf.pumpAll (h : Wf N s) {i : Nat} (hi : i < s.machines.length) : Wf N (Vbdlao.pumpAll i s) ∧ (Vbdlao.pumpAll i s).machines.length = s.machines.length := Wf.pump _ h hi
theorem Wf.logEvent (h : Wf N s) {i : Nat} {e : List Nat} (hi : i < s.machines.length) (he : e.length ≤ 16) (hl : (Vbdlao.machine s i).log.length < 200) : Wf N (Vbdlao.logEvent s i e) ∧ (Vbdlao.logEvent s i e).machines.length = s.machines.length := by
  have hx := h.log _ (mach_mem hi)
  have h1 : Wf N (Vbdlao.putMachine s i { Vbdlao.machine s i with log := (Vbdlao.machine s i).log ++ [e] }) := h.putM (by
    refine ⟨?_, fun y hy => ?_⟩
    · show ((Vbdlao.machine s i).log ++ [e]).length ≤ 200
      rw [List.length_append]
      show (Vbdlao.machine s i).log.length + 1 ≤ 200
      omega
    · rcases List.mem_append.mp hy with z | z
      · exact hx.2 y z
      · rw [List.mem_singleton.mp z]; exact he)
  obtain ⟨h2, e2⟩ := h1.pumpAll (i := i) (by rw [put_mlen]; exact hi)
  exact ⟨h2, e2.trans put_mlen⟩
theorem Wf.answerAck (h : Wf N s) {m : Nat} (hm : m < s.machines.length) : Wf N (Vbdlao.answerAck s m) := h.send hm trivial
theorem ack_mlen {m : Nat} : (Vbdlao.answerAck s m).machines = s.machines := send_mlen
theorem Wf.takeAck (h : Wf N s) {m u n : Nat} (hm : m < s.machines.length) : Wf N (Vbdlao.takeAck s m u n).1 ∧ (Vbdlao.takeAck s m u n).1.machines.length = s.machines.length := by
  have hx := h.log _ (mach_mem hm)
  rw [takeAck_eq rfl]
  by_cases h1 : (Vbdlao.machine s m).log.length < n
  · rw [if_pos h1]; exact ⟨h, rfl⟩
  · rw [if_neg h1]
    by_cases h2 : (Vbdlao.machine s m).turn < u
    · rw [if_pos h2]
      obtain ⟨h3, e3⟩ := (h.putM (i := m) (x := { Vbdlao.machine s m with turn := u, acked := n, next := n, timer := 0 }) hx).pumpAll (i := m) (by rw [put_mlen]; exact hm)
      exact ⟨h3, e3.trans put_mlen⟩
    · rw [if_neg h2]
      by_cases h4 : u = (Vbdlao.machine s m).turn ∧ (Vbdlao.machine s m).acked < n
      · rw [if_pos h4]
        obtain ⟨h3, e3⟩ := (h.putM (i := m) (x := { Vbdlao.machine s m with acked := n, next := max n (Vbdlao.machine s m).next, timer := 0 }) hx).pumpAll (i := m) (by rw [put_mlen]; exact hm)
        exact ⟨h3, e3.trans put_mlen⟩
      · rw [if_neg h4]; exact ⟨h, rfl⟩
theorem drain_wf {M W : Nat} : ∀ (k : Nat) {d : Vbdlao.Desk}, DeskOk M W d → DeskOk M W (Vbdlao.drain k d)
  | 0, d, h => h
  | k + 1, d, h => by
    cases q : d.aside.find? (fun x => x.1 == d.copy.length) with
    | none => rw [drain_end q]; exact h
    | some x =>
      rw [drain_go q]
      have hm := List.mem_of_find?_eq_some q
      have hx : (x.1 == d.copy.length) = true := List.find?_some (p := fun (x : Nat × List Nat) => x.1 == d.copy.length) q
      have hx' := eq_of_beq hx
      refine drain_wf k (d := { d with copy := d.copy ++ [x.2], aside := d.aside.filter fun y => y.1 != x.1 }) ⟨h.nd.sublist ((List.filter_sublist ..).map _), ?_, fun y hy => ?_, fun e he => ?_⟩
      · show (d.copy ++ [x.2]).length + (d.aside.filter fun y => y.1 != x.1).length ≤ _
        have hlt : (d.aside.filter fun y => y.1 != x.1).length < d.aside.length := by
          refine Nat.lt_of_le_of_ne (List.length_filter_le ..) fun e => ?_
          have := (List.length_filter_eq_length_iff.mp e) x hm
          simp at this
        rw [List.length_append]
        show d.copy.length + 1 + _ ≤ _
        have := h.sz
        omega
      · have hy' := List.mem_filter.mp (show y ∈ d.aside.filter fun y => y.1 != x.1 from hy)
        obtain ⟨a1, a2, a3⟩ := h.asd y hy'.1
        have hne : y.1 ≠ x.1 := by simpa using hy'.2
        show (d.copy ++ [x.2]).length ≤ y.1 ∧ y.1 < (d.copy ++ [x.2]).length + W ∧ _
        rw [List.length_append]
        show d.copy.length + 1 ≤ y.1 ∧ y.1 < d.copy.length + 1 + W ∧ _
        exact ⟨by omega, by omega, a3⟩
      · rcases List.mem_append.mp (show e ∈ d.copy ++ [x.2] from he) with z | z
        · exact h.cpy e z
        · rw [List.mem_singleton.mp z]
          exact (h.asd x hm).2.2
theorem Wf.takeData (h : Wf N s) {m i : Nat} {e : List Nat} (hm : m < s.machines.length) (he : e.length ≤ 16) : Wf (N + 1) (Vbdlao.takeData s m i e).1 ∧ (Vbdlao.takeData s m i e).1.machines.length = s.machines.length := by
  have hd := h.desk _ (desk_mem (i := m) (by rw [h.len]; exact hm))
  have h' := h.mono (Nat.le_succ N)
  rw [takeData_eq rfl]
  by_cases h1 : i < (Vbdlao.desk s m).copy.length ∨ ((Vbdlao.desk s m).aside.any fun x => x.1 == i) = true
  · rw [if_pos h1]
    have h2 : Wf (N + 1) { s with again := s.again + 1 } := ⟨h'.len, h'.four, h'.win, h'.log, h'.desk, h'.net, h'.pkt⟩
    exact ⟨h2.answerAck hm, by rw [ack_mlen]⟩
  · rw [if_neg h1]
    have hno : ∀ x ∈ (Vbdlao.desk s m).aside, x.1 ≠ i := fun x hx z => h1 (.inr (List.any_eq_true.mpr ⟨x, hx, by rw [z]; exact beq_self_eq_true i⟩))
    by_cases h2 : i = (Vbdlao.desk s m).copy.length
    · rw [if_pos h2]
      have h3 : ∀ c : Nat, Wf (N + 1) { s with news := c } := fun c => ⟨h'.len, h'.four, h'.win, h'.log, h'.desk, h'.net, h'.pkt⟩
      have h4 : DeskOk (N + 1) s.window { Vbdlao.desk s m with copy := (Vbdlao.desk s m).copy ++ [e] } := by
        refine ⟨hd.nd, ?_, fun x hx => ?_, fun y hy => ?_⟩
        · show ((Vbdlao.desk s m).copy ++ [e]).length + (Vbdlao.desk s m).aside.length ≤ _
          rw [List.length_append]
          show (Vbdlao.desk s m).copy.length + 1 + _ ≤ _
          have := hd.sz
          omega
        · obtain ⟨a1, a2, a3⟩ := hd.asd x hx
          have := hno x hx
          show ((Vbdlao.desk s m).copy ++ [e]).length ≤ x.1 ∧ x.1 < ((Vbdlao.desk s m).copy ++ [e]).length + s.window ∧ _
          rw [List.length_append]
          show (Vbdlao.desk s m).copy.length + 1 ≤ x.1 ∧ x.1 < (Vbdlao.desk s m).copy.length + 1 + s.window ∧ _
          exact ⟨by omega, by omega, a3⟩
        · rcases List.mem_append.mp (show y ∈ (Vbdlao.desk s m).copy ++ [e] from hy) with z | z
          · exact hd.cpy y z
          · rw [List.mem_singleton.mp z]; exact he
      have h6 : Wf (N + 1) (newsOf s m (Vbdlao.drain s.window { Vbdlao.desk s m with copy := (Vbdlao.desk s m).copy ++ [e] })) := (h3 _).putD (drain_wf s.window h4)
      exact ⟨h6.answerAck hm, by rw [ack_mlen]; rfl⟩
    · rw [if_neg h2]
      by_cases h3 : i < (Vbdlao.desk s m).copy.length + s.window
      · rw [if_pos h3]
        have h4 : Wf (N + 1) (Vbdlao.putDesk s m { Vbdlao.desk s m with aside := (Vbdlao.desk s m).aside ++ [(i, e)] }) := h'.putD (by
          refine ⟨?_, ?_, fun x hx => ?_, hd.cpy⟩
          · show (((Vbdlao.desk s m).aside ++ [(i, e)]).map (·.1)).Nodup
            rw [List.map_append, List.nodup_append]
            refine ⟨hd.nd, by simp, fun x hx y hy => ?_⟩
            have ey : y = i := by simpa using hy
            intro exy
            obtain ⟨z, hz, ez⟩ := List.mem_map.mp hx
            exact hno z hz (by rw [ez, exy, ey])
          · show (Vbdlao.desk s m).copy.length + ((Vbdlao.desk s m).aside ++ [(i, e)]).length ≤ _
            rw [List.length_append]
            show (Vbdlao.desk s m).copy.length + ((Vbdlao.desk s m).aside.length + 1) ≤ _
            have := hd.sz
            omega
          · rcases List.mem_append.mp (show x ∈ (Vbdlao.desk s m).aside ++ [(i, e)] from hx) with z | z
            · exact hd.asd x z
            · rw [List.mem_singleton.mp z]
              exact ⟨by show (Vbdlao.desk s m).copy.length ≤ i; omega, h3, he⟩)
        exact ⟨h4.answerAck hm, by rw [ack_mlen]; rfl⟩
      · rw [if_neg h3]
        exact ⟨h'.answerAck hm, by rw [ack_mlen]⟩
theorem frame_small {b : List Nat} {m i : Nat} {e : List Nat} (h : Vbdlao.frameOf b = some (.data m i e)) : e.length ≤ 16 := by
  rw [frame_body] at h
  split at h
  · cases h
  · split at h
    · cases h
    · unfold bodyRead at h
      split at h
      · split at h
        · rename_i hc
          cases h
          rw [← hc.1]
          exact hc.2
        · cases h
      · cases h
      · cases h
      · cases h
theorem Wf.arrive (h : Wf N s) {p : Vbdlao.Packet} (hp : p.m < s.machines.length) : Wf (N + 1) (Vbdlao.arrive s p).1 ∧ (Vbdlao.arrive s p).1.machines.length = s.machines.length := by
  have h' := h.mono (Nat.le_succ N)
  rw [arrive_eq hp]
  have hb : Wf (N + 1) { s with bad := s.bad + 1 } := ⟨h'.len, h'.four, h'.win, h'.log, h'.desk, h'.net, h'.pkt⟩
  cases hfo : Vbdlao.frameOf p.bytes with
  | none => exact ⟨hb, rfl⟩
  | some f =>
    rw [Option.bind_some]
    cases p.toStation with
    | true =>
      rw [if_pos rfl]
      cases f with
      | data m i e =>
        by_cases hm : m < s.machines.length
        · rw [show atStation s (.data m i e) = some (Vbdlao.takeData s m i e) from if_pos hm]; exact h.takeData hm (frame_small hfo)
        · rw [show atStation s (.data m i e) = none from if_neg hm]; exact ⟨hb, rfl⟩
      | ask m =>
        by_cases hm : m < s.machines.length
        · rw [show atStation s (.ask m) = some (Vbdlao.answerAck s m, 1) from if_pos hm]; exact ⟨h'.answerAck hm, by show (Vbdlao.answerAck s m).machines.length = _; rw [ack_mlen]⟩
        · rw [show atStation s (.ask m) = none from if_neg hm]; exact ⟨hb, rfl⟩
      | ack m u n => exact ⟨hb, rfl⟩
    | false =>
      rw [if_neg Bool.false_ne_true]
      cases f with
      | data m i e => exact ⟨hb, rfl⟩
      | ask m => exact ⟨hb, rfl⟩
      | ack m u n =>
        by_cases hm : m = p.m
        · rw [show atMachine s p.m (.ack m u n) = some (if (Vbdlao.machine s m).on = false then (s, 0) else Vbdlao.takeAck s m u n) from if_pos hm]
          show Wf (N + 1) (if (Vbdlao.machine s m).on = false then (s, 0) else Vbdlao.takeAck s m u n).1 ∧ (if (Vbdlao.machine s m).on = false then (s, 0) else Vbdlao.takeAck s m u n).1.machines.length = _
          by_cases ho : (Vbdlao.machine s m).on = false
          · rw [if_pos ho]; exact ⟨h', rfl⟩
          · rw [if_neg ho]; exact h'.takeAck (by omega)
        · rw [show atMachine s p.m (.ack m u n) = none from if_neg hm]; exact ⟨hb, rfl⟩
theorem tickOf_eq {x : Vbdlao.Machine} {m : Nat} (hM : Vbdlao.machine s m = x) : Vbdlao.tickOf s m =
    if x.on = false then s else if x.timer + 1 < s.wait then Vbdlao.putMachine s m { x with timer := x.timer + 1 }
    else if x.acked < x.log.length then Vbdlao.pumpAll m (Vbdlao.putMachine s m { x with timer := 0, next := x.acked })
    else Vbdlao.send (Vbdlao.putMachine s m { x with timer := 0 }) true m (.ask m) := by
  subst hM
  rfl
theorem Wf.tickOf (h : Wf N s) {m : Nat} (hm : m < s.machines.length) : Wf N (Vbdlao.tickOf s m) ∧ (Vbdlao.tickOf s m).machines.length = s.machines.length := by
  have hx := h.log _ (mach_mem hm)
  rw [tickOf_eq rfl]
  by_cases h1 : (Vbdlao.machine s m).on = false
  · rw [if_pos h1]; exact ⟨h, rfl⟩
  · rw [if_neg h1]
    by_cases h2 : (Vbdlao.machine s m).timer + 1 < s.wait
    · rw [if_pos h2]; exact ⟨h.putM hx, put_mlen⟩
    · rw [if_neg h2]
      by_cases h3 : (Vbdlao.machine s m).acked < (Vbdlao.machine s m).log.length
      · rw [if_pos h3]
        obtain ⟨h4, e4⟩ := (h.putM (i := m) (x := { Vbdlao.machine s m with timer := 0, next := (Vbdlao.machine s m).acked }) hx).pumpAll (i := m) (by rw [put_mlen]; exact hm)
        exact ⟨h4, e4.trans put_mlen⟩
      · rw [if_neg h3]
        have h4 : Wf N (Vbdlao.putMachine s m { Vbdlao.machine s m with timer := 0 }) := h.putM hx
        exact ⟨h4.send (by rw [put_mlen]; exact hm) trivial, by rw [send_mlen, put_mlen]⟩
def tickTo (s : Vbdlao.St) (j : Nat) : Vbdlao.St := (List.range j).foldl Vbdlao.tickOf s
theorem tickTo_succ (j : Nat) : tickTo s (j + 1) = Vbdlao.tickOf (tickTo s j) j := by
  unfold tickTo
  rw [List.range_succ, List.foldl_append]
  rfl
theorem Wf.tickTo (h : Wf N s) : ∀ j, j ≤ s.machines.length → Wf N (tickTo s j) ∧ (Nw.tickTo s j).machines.length = s.machines.length
  | 0, _ => ⟨h, rfl⟩
  | j + 1, hj => by
    obtain ⟨h1, e1⟩ := Wf.tickTo h j (by omega)
    rw [tickTo_succ]
    obtain ⟨h2, e2⟩ := h1.tickOf (m := j) (by omega)
    exact ⟨h2, e2.trans e1⟩
theorem Wf.tick (h : Wf N s) : Wf N (Vbdlao.tick s) ∧ (Vbdlao.tick s).machines.length = s.machines.length := h.tickTo _ (Nat.le_refl _)
theorem ticks_succ : ∀ (n : Nat) (s : Vbdlao.St), Vbdlao.ticks (n + 1) s = Vbdlao.tick (Vbdlao.ticks n s)
  | 0, s => rfl
  | n + 1, s => by
    show Vbdlao.ticks (n + 1) (Vbdlao.tick s) = Vbdlao.tick (Vbdlao.ticks n (Vbdlao.tick s))
    rw [ticks_succ n]
theorem Wf.ticks (h : Wf N s) : ∀ n, Wf N (Vbdlao.ticks n s) ∧ (Vbdlao.ticks n s).machines.length = s.machines.length
  | 0 => ⟨h, rfl⟩
  | n + 1 => by
    rw [ticks_succ]
    obtain ⟨h1, e1⟩ := Wf.ticks h n
    obtain ⟨h2, e2⟩ := h1.tick
    exact ⟨h2, e2.trans e1⟩
end
end Nw
end
section
set_option Elab.async false
set_option linter.all false
set_option maxRecDepth 100000
set_option maxHeartbeats 2000000
namespace Nw
open PySem PySem.Spec PyProof.Rows L2
section
variable {P : Program} {w : World} {K : PySem.W.Frag} {mg : Str → Option Value} {base : Heap} {a : Adr}
def sp_tick_machine (a : Adr) : Sp := fun vs H Q _ => ∃ (g : GW) (R : List Fact) (i : Nat) (m : GM), vs = [.ref g.a, .int i] ∧ At a g R H ∧ g.ms[i]? = some m ∧ (∀ e ∈ m.evs, e.2.length ≤ 16) ∧
  ∀ (g' : GW) (H' : Hp), At a g' R H' → Keep g g' → g'.st = Vbdlao.tickOf g.st i → Q .non H'
theorem ok_tick_machine (T : Txt K mg a) : FnOk P w K mg base CX0 6 a.f_tick_machine a.d_tick_machine p_tick_machine (sp_tick_machine a) := by
  refine T.tick_machine.F.ok sc_tick_machine (fun vs H Q E h => ?_) (fun cdv A outer s H vs Q E hr h => ?_)
  · obtain ⟨g, R, i, m, rfl, _⟩ := h
    rfl
  · obtain ⟨g, R, i, m, rfl, hA, hm, hev, k⟩ := h
    refine ⟨_, (pss_cons (ps_set (i := 2) sc_tick_machine.nd rfl (Or.inl rfl) (pe_ix ix_list (pe_fld (pv 0) rfl) (pv 1) (fun _ _ => rfl)))
      (pss_cons (ps_if (pt_not (pt_val (pe_fld (pv 2) rfl))) (pss_one ps_retN) pss_nil)
      (pss_cons (ps_if (pt_cmpR op_lt (pe_op op_add (pe_fld (pv 2) rfl) pe_int) (pe_fld (pv 0) rfl) (nomark _)) (pss_cons (ps_fldaug (pv 2) pe_int in_add)
      (pss_one ps_retN)) pss_nil)
      (pss_cons (ps_fld (pv 2) pe_int rfl)
      (pss_one (ps_if (pt_cmpR op_lt (pe_fld (pv 2) rfl) (pe_callB call_len_seq rfl T.b_len PySem.boot_len (pa_cons (pe_fld (pv 2) rfl) pa_nil)) (nomark _)) (pss_cons (ps_fld (pv 2) (pe_fld (pv 2) rfl) rfl)
      (pss_one (ps_expr (pe_call (ok_pump T) (hr.mono (by decide)) rfl T.pump.mg T.pump.F.kp T.pump.b .nil pass0 (pa_cons (pv 0) (pa_cons (pv 1) pa_nil)))))) (pss_one (ps_expr (pe_call (ok_send_ask T) (hr.mono (by decide)) rfl T.send_ask.mg T.send_ask.F.kp T.send_ask.b .nil pass0 (pa_cons (pv 0) (pa_cons (pv 1) pa_nil))))))))))), ?_⟩
    have hll : m.st.log.length = m.evs.length := by show (m.evs.map (·.2)).length = _; rw [List.length_map]
    rw [tickOf_eq (GW.machine_at hm), hll] at k
    have hmm := hA.mach hm
    refine ⟨_, rfl, g.a, _, g.dx, _, _, rfl, hA.ward, T.Ward.cl, T.n_Ward_machines, rfl, _, rfl, g.lm, _, _, _, rfl, rfl, SqL.of hA.lm, mR_at hm, ?_⟩
    refine ⟨_, rfl, m.a, _, m.dx, _, _, rfl, hmm, T.Machine.cl, T.n_Machine_power, rfl, _, rfl, ifnb (fun hoff => ?_) fun hon => ?_⟩
    · rw [if_pos (show m.st.on = false from hoff)] at k
      exact k g H hA (Keep.refl g) rfl
    · rw [if_neg (show ¬ m.st.on = false from fun z => by rw [show m.st.on = true from hon] at z; cases z)] at k
      refine ⟨_, rfl, m.a, _, m.dx, _, _, rfl, hmm, T.Machine.cl, T.n_Machine_timer, rfl, _, _, rfl, rfl, _, rfl, g.a, _, g.dx, _, _, rfl, hA.ward, T.Ward.cl, T.n_Ward_wait, rfl, _, _, rfl, rfl, _, rfl, ifc (fun hlt => ?_) fun hge => ?_⟩
      · have hlt' : m.st.timer + 1 < g.st.wait := by
          have h2 : (m.timer : Int) + 1 < (g.wait : Int) := hlt
          show m.timer + 1 < g.wait
          omega
        rw [if_pos hlt'] at k
        refine ⟨_, rfl, m.a, _, m.dx, _, _, rfl, hmm, T.Machine.cl, T.n_Machine_timer, rfl, _, _, rfl, rfl, m.dx, _, hmm, (by show 6 < 1000; decide), ?_⟩
        exact k (g.setM i { m with timer := m.timer + 1 }) _ (hA.setM (m' := { m with timer := m.timer + 1 }) hm rfl rfl rfl rfl) (Keep.setM hm rfl) (GW.put_machine ..)
      · have hge' : ¬ m.st.timer + 1 < g.st.wait := by
          have h2 : ¬ (m.timer : Int) + 1 < (g.wait : Int) := hge
          show ¬ m.timer + 1 < g.wait
          omega
        rw [if_neg hge'] at k
        refine ⟨_, rfl, m.a, _, m.dx, _, rfl, hmm, T.Machine.cl, T.n_Machine_timer, (by show 6 < 1000; decide), ?_⟩
        have hA1 := hA.setM (m' := { m with timer := 0 }) hm rfl rfl rfl rfl
        have hm1 : (g.setM i { m with timer := 0 }).ms[i]? = some { m with timer := 0 } := setM_get hm
        have hmm1 := hA1.mach hm1
        refine ⟨_, rfl, m.a, _, m.dx, _, _, rfl, hmm1, T.Machine.cl, T.n_Machine_acked, rfl, _, rfl, m.a, _, m.dx, _, _, rfl, hmm1, T.Machine.cl, T.n_Machine_log, rfl, m.lg, _, rfl, .inl (SqL.of (hA1.log (m := { m with timer := 0 }) hm1)), _, _, rfl, rfl, _, rfl, ?_⟩
        rw [evR_len]
        refine ifc (fun hac => ?_) fun hnac => ?_
        · have hac' : m.st.acked < m.evs.length := by
            have h2 : (m.acked : Int) < (m.evs.length : Nat) := hac
            show m.acked < _
            omega
          rw [if_pos hac'] at k
          refine ⟨_, rfl, m.a, _, m.dx, _, _, rfl, hmm1, T.Machine.cl, T.n_Machine_acked, rfl, _, rfl, m.a, _, m.dx, _, rfl, hmm1, T.Machine.cl, T.n_Machine_next_place, (by show 6 < 1000; decide), ?_⟩
          rw [upd_upd]
          have hA2 := hA.setM (m' := { m with timer := 0, next := m.acked }) hm rfl rfl rfl rfl
          refine ⟨_, rfl, _, rfl, g.setM i { m with timer := 0, next := m.acked }, R, i, { m with timer := 0, next := m.acked }, rfl, hA2, setM_get hm, hev, fun g' H' hA' hK hst => k g' H' hA' ((Keep.setM (m' := { m with timer := 0, next := m.acked }) hm rfl).trans hK) ?_⟩
          rw [hst, GW.put_machine]
          rfl
        · have hac' : ¬ m.st.acked < m.evs.length := by
            have h2 : ¬ (m.acked : Int) < (m.evs.length : Nat) := hnac
            show ¬ m.acked < _
            omega
          rw [if_neg hac'] at k
          refine ⟨_, rfl, _, rfl, g.setM i { m with timer := 0 }, R, i, rfl, hA1, fun g' H' hA' hS => k g' H' hA' ((Keep.setM (m' := { m with timer := 0 }) hm rfl).trans hS.keep) ?_⟩
          rw [hS.st, GW.put_machine]
          rfl
def sp_tick (a : Adr) : Sp := fun vs H Q _ => ∃ (g : GW) (R : List Fact) (N : Nat), vs = [.ref g.a] ∧ At a g R H ∧ Wf N g.st ∧ ∀ (g' : GW) (H' : Hp), At a g' R H' → Keep g g' → g'.st = Vbdlao.tick g.st → Q .non H'
theorem ok_tick (T : Txt K mg a) : FnOk P w K mg base CX0 7 a.f_tick a.d_tick p_tick (sp_tick a) := by
  refine T.tick.F.ok sc_tick (fun vs H Q E h => ?_) (fun cdv A outer s H vs Q E hr h => ?_)
  · obtain ⟨g, R, N, rfl, _⟩ := h
    rfl
  · obtain ⟨g, R, N, rfl, hA, hW, k⟩ := h
    refine ⟨_, (pss_one (ps_for PassesOwn.never rfl (pi_range1 rfl T.b_range (pa_cons (pe_callB call_len_seq rfl T.b_len PySem.boot_len (pa_cons (pe_fld (pv 0) rfl) pa_nil)) pa_nil)) (pg_name (i := 1) sc_tick.nd rfl (Or.inl rfl)) (pss_one (ps_expr (pe_call (ok_tick_machine T) (hr.mono (by decide)) rfl T.tick_machine.mg T.tick_machine.F.kp T.tick_machine.b .nil pass0 (pa_cons (pv 0) (pa_cons (pv 1) pa_nil))))))), ?_⟩
    have h4 : g.ms.length ≤ 4 := by have := hW.four; rw [GW.mlen] at this; exact this
    refine ⟨_, rfl, g.a, _, g.dx, _, _, rfl, hA.ward, T.Ward.cl, T.n_Ward_machines, rfl, g.lm, _, rfl, .inl (SqL.of hA.lm), _, rfl, ?_⟩
    rw [mR_len]
    refine ⟨by omega, by omega, ?_⟩
    refine for_range (n := ((g.ms.length : Nat) : Int).toNat) (fun j σ H' => j ≤ g.ms.length ∧ ∃ g1 v, At a g1 R H' ∧ Keep g g1 ∧ g1.st = tickTo g.st j ∧ σ = [some (.ref g.a), v]) ⟨Nat.zero_le _, g, none, hA, Keep.refl g, rfl, rfl⟩ ?_ ?_
    · rintro j σ H' hj ⟨hle, g1, v, hA1, hK, hst, rfl⟩
      have hj' : j < g.ms.length := by omega
      have hW1 := (hW.tickTo j (by rw [GW.mlen]; exact hle)).1
      rw [← hst] at hW1
      obtain ⟨m1, hm1⟩ := getM (g := g1) (i := j) (by rw [hK.mlen]; exact hj')
      have e0 : (0 : Int) + (j : Nat) = (j : Nat) := by omega
      rw [e0]
      refine ⟨_, rfl, _, rfl, g1, R, j, m1, by rw [hK.a]; rfl, hA1, hm1, (hW1.logM hm1).2, fun g' H' hA' hK' hst' => ⟨hj', g', some (.int (j : Nat)), hA', hK.trans hK', ?_, rfl⟩⟩
      rw [hst', hst, tickTo_succ]
    · rintro σ H' ⟨hle, g1, v, hA1, hK, hst, rfl⟩
      refine k g1 H' hA1 hK ?_
      rw [hst]
      show _ = tickTo g.st g.st.machines.length
      rw [GW.mlen]
      rfl
def spHd (a : Adr) (Pre : Vbdlao.St → List Int → List Int → Prop) (f : Vbdlao.St → List Int → List Int → Vbdlao.St × List Int) : Sp := fun vs H Q _ => ∃ (g : GW) (R : List Fact) (N : Nat) (nl rl : Addr) (ns rs : List Int), vs = [.ref g.a, .ref nl, .ref rl] ∧
  At a g ((nl, .lst (ns.map V.int)) :: (rl, .lst (rs.map V.int)) :: R) H ∧ Wf N g.st ∧ N ≤ 9000000 ∧ Pre g.st ns rs ∧
  ∀ (g' : GW) (p : Addr) (H' : Hp), At a g' ((p, .lst ((f g.st ns rs).2.map V.int)) :: R) H' → g'.a = g.a → g'.st = (f g.st ns rs).1 → Q (.ref p) H'
def onMach (s : Vbdlao.St) (ns rs : List Int) : Prop := ∃ m : Nat, ns = [(m : Int)] ∧ m < s.machines.length
theorem GW.nlen (g : GW) : g.st.net.length = g.ps.length := by show (g.ps.map _).length = _; rw [List.length_map]
def tickS (s : Vbdlao.St) (ns rs : List Int) : Vbdlao.St × List Int := (Vbdlao.ticks (ns.headD 0).toNat s, [0])
def preN (s : Vbdlao.St) (ns rs : List Int) : Prop := ∃ n : Nat, ns = [(n : Int)] ∧ n ≤ 100
theorem ok_tick_often (T : Txt K mg a) : FnOk P w K mg base CX0 8 a.f_tick_often a.d_tick_often p_tick_often (spHd a preN tickS) := by
  refine T.tick_often.F.ok sc_tick_often (fun vs H Q E h => ?_) (fun cdv A outer s H vs Q E hr h => ?_)
  · obtain ⟨g, R, N, nl, rl, ns, rs, rfl, _⟩ := h
    rfl
  · obtain ⟨g, R, N, nl, rl, ns, rs, rfl, hA, hW, hN, ⟨n, rfl, hn⟩, k⟩ := h
    refine ⟨_, (pss_cons (ps_for PassesOwn.never rfl (pi_range1 rfl T.b_range (pa_cons (pe_ix ix_list (pv 1) pe_int (fun _ _ => rfl)) pa_nil)) (pg_name (i := 3) sc_tick_often.nd rfl (Or.inl rfl)) (pss_one (ps_expr (pe_call (ok_tick T) (hr.mono (by decide)) rfl T.tick.mg T.tick.F.kp T.tick.b .nil pass0 (pa_cons (pv 0) pa_nil)))))
      (pss_one (ps_ret (pe_lst (pa_cons pe_int pa_nil))))), ?_⟩
    have hnl : H nl = some (.lst [.int n]) := hA.rest (p := (nl, _)) (by simp)
    refine ⟨_, rfl, nl, _, _, _, rfl, rfl, SqL.of hnl, rfl, _, rfl, by omega, by omega, ?_⟩
    refine for_range (n := ((n : Nat) : Int).toNat) (fun j σ H' => ∃ g1 v, At a g1 ((nl, .lst [.int n]) :: (rl, .lst (rs.map V.int)) :: R) H' ∧ Keep g g1 ∧ g1.st = Vbdlao.ticks j g.st ∧ σ = [some (.ref g.a), some (.ref nl), some (.ref rl), v]) ⟨g, none, hA, Keep.refl g, rfl, rfl⟩ ?_ ?_
    · rintro j σ H' hj ⟨g1, v, hA1, hK, hst, rfl⟩
      have hW1 := (hW.ticks j).1
      rw [← hst] at hW1
      refine ⟨_, rfl, g1, _, N, by rw [hK.a]; rfl, hA1, hW1, fun g' H' hA' hK' hst' => ⟨g', _, hA', hK.trans hK', ?_, rfl⟩⟩
      rw [hst', hst, ticks_succ]
    · rintro σ H' ⟨g1, v, hA1, hK, hst, rfl⟩
      refine ⟨(by show 1 ≤ sizeLine; decide), fun p hp => ?_⟩
      refine k g1 p _ (hA1.drop.drop.new hp) hK.a ?_
      rw [hst]
      rfl
def cutS (s : Vbdlao.St) (ns rs : List Int) : Vbdlao.St × List Int := if (Vbdlao.machine s (ns.headD 0).toNat).on = false then (s, [-6]) else (Vbdlao.putMachine s (ns.headD 0).toNat { Vbdlao.machine s (ns.headD 0).toNat with on := false }, [0])
theorem ok_cut_power (T : Txt K mg a) : FnOk P w K mg base CX0 8 a.f_cut_power a.d_cut_power p_cut_power (spHd a onMach cutS) := by
  refine T.cut_power.F.ok sc_cut_power (fun vs H Q E h => ?_) (fun cdv A outer s H vs Q E hr h => ?_)
  · obtain ⟨g, R, N, nl, rl, ns, rs, rfl, _⟩ := h
    rfl
  · obtain ⟨g, R, N, nl, rl, ns, rs, rfl, hA, hW, hN, ⟨i, rfl, hi⟩, k⟩ := h
    refine ⟨_, (pss_cons (ps_set (i := 3) sc_cut_power.nd rfl (Or.inl rfl) (pe_ix ix_list (pe_fld (pv 0) rfl) (pe_ix ix_list (pv 1) pe_int (fun _ _ => rfl)) (fun _ _ => rfl)))
      (pss_cons (ps_if (pt_not (pt_val (pe_fld (pv 3) rfl))) (pss_one (ps_ret (pe_lst (pa_cons (pe_gint rfl T.c_NO_POWER) pa_nil)))) pss_nil)
      (pss_cons (ps_fld (pv 3) pe_bl rfl)
      (pss_one (ps_ret (pe_lst (pa_cons pe_int pa_nil))))))), ?_⟩
    have hnl : H nl = some (.lst [.int i]) := hA.rest (p := (nl, _)) (by simp)
    obtain ⟨m, hm⟩ := getM (g := g) (i := i) (by rw [GW.mlen] at hi; exact hi)
    unfold cutS at k
    rw [show ([(i : Int)].headD 0).toNat = i from rfl, GW.machine_at hm] at k
    refine ⟨_, rfl, g.a, _, g.dx, _, _, rfl, hA.ward, T.Ward.cl, T.n_Ward_machines, rfl, _, rfl, nl, _, _, _, rfl, rfl, SqL.of hnl, rfl, g.lm, _, _, _, rfl, rfl, SqL.of hA.lm, mR_at hm, ?_⟩
    refine ⟨_, rfl, m.a, _, m.dx, _, _, rfl, hA.mach hm, T.Machine.cl, T.n_Machine_power, rfl, _, rfl, ifnb (fun hoff => ?_) fun hon => ?_⟩
    · rw [if_pos (show m.st.on = false from hoff)] at k
      refine ⟨(by show 1 ≤ sizeLine; decide), fun p hp => ?_⟩
      exact k g p _ (hA.drop.drop.new hp) rfl rfl
    · rw [if_neg (show ¬ m.st.on = false from fun z => by rw [show m.st.on = true from hon] at z; cases z)] at k
      refine ⟨_, rfl, m.a, _, m.dx, _, rfl, hA.mach hm, T.Machine.cl, T.n_Machine_power, (by show 6 < 1000; decide), ?_⟩
      have hA1 := hA.setM (m' := { m with on := false }) hm rfl rfl rfl rfl
      refine ⟨(by show 1 ≤ sizeLine; decide), fun p hp => ?_⟩
      exact k (g.setM i { m with on := false }) p _ (hA1.drop.drop.new hp) rfl (GW.put_machine ..)
def backS (s : Vbdlao.St) (ns rs : List Int) : Vbdlao.St × List Int := if (Vbdlao.machine s (ns.headD 0).toNat).on = true then (s, [-11]) else (Vbdlao.back s (ns.headD 0).toNat, [0])
theorem back_eq {s : Vbdlao.St} {m : Nat} {x : Vbdlao.Machine} (h : Vbdlao.machine s m = x) : Vbdlao.back s m = Vbdlao.send (Vbdlao.putMachine s m { x with on := true, turn := 0, acked := 0, next := 0, timer := 0 }) true m (.ask m) := by
  subst h
  rfl
theorem ok_bring_back (T : Txt K mg a) : FnOk P w K mg base CX0 8 a.f_bring_back a.d_bring_back p_bring_back (spHd a onMach backS) := by
  refine T.bring_back.F.ok sc_bring_back (fun vs H Q E h => ?_) (fun cdv A outer s H vs Q E hr h => ?_)
  · obtain ⟨g, R, N, nl, rl, ns, rs, rfl, _⟩ := h
    rfl
  · obtain ⟨g, R, N, nl, rl, ns, rs, rfl, hA, hW, hN, ⟨i, rfl, hi⟩, k⟩ := h
    refine ⟨_, (pss_cons (ps_set (i := 3) sc_bring_back.nd rfl (Or.inl rfl) (pe_ix ix_list (pe_fld (pv 0) rfl) (pe_ix ix_list (pv 1) pe_int (fun _ _ => rfl)) (fun _ _ => rfl)))
      (pss_cons (ps_if (pt_val (pe_fld (pv 3) rfl)) (pss_one (ps_ret (pe_lst (pa_cons (pe_gint rfl T.c_HAS_POWER) pa_nil)))) pss_nil)
      (pss_cons (ps_fld (pv 3) pe_bl rfl)
      (pss_cons (ps_fld (pv 3) pe_int rfl)
      (pss_cons (ps_fld (pv 3) pe_int rfl)
      (pss_cons (ps_fld (pv 3) pe_int rfl)
      (pss_cons (ps_fld (pv 3) pe_int rfl)
      (pss_cons (ps_expr (pe_call (ok_send_ask T) (hr.mono (by decide)) rfl T.send_ask.mg T.send_ask.F.kp T.send_ask.b .nil pass0 (pa_cons (pv 0) (pa_cons (pe_ix ix_list (pv 1) pe_int (fun _ _ => rfl)) pa_nil))))
      (pss_one (ps_ret (pe_lst (pa_cons pe_int pa_nil)))))))))))), ?_⟩
    have hnl : H nl = some (.lst [.int i]) := hA.rest (p := (nl, _)) (by simp)
    obtain ⟨m, hm⟩ := getM (g := g) (i := i) (by rw [GW.mlen] at hi; exact hi)
    unfold backS at k
    rw [show ([(i : Int)].headD 0).toNat = i from rfl, back_eq (GW.machine_at hm), GW.machine_at hm] at k
    have hmm := hA.mach hm
    refine ⟨_, rfl, g.a, _, g.dx, _, _, rfl, hA.ward, T.Ward.cl, T.n_Ward_machines, rfl, _, rfl, nl, _, _, _, rfl, rfl, SqL.of hnl, rfl, g.lm, _, _, _, rfl, rfl, SqL.of hA.lm, mR_at hm, ?_⟩
    refine ⟨_, rfl, m.a, _, m.dx, _, _, rfl, hmm, T.Machine.cl, T.n_Machine_power, rfl, _, rfl, ifb (fun hon => ?_) fun hoff => ?_⟩
    · rw [if_pos (show m.st.on = true from hon)] at k
      refine ⟨(by show 1 ≤ sizeLine; decide), fun p hp => ?_⟩
      exact k g p _ (hA.drop.drop.new hp) rfl rfl
    · rw [if_neg (show ¬ m.st.on = true from fun z => by rw [show m.st.on = false from hoff] at z; cases z)] at k
      refine ⟨_, rfl, m.a, _, m.dx, _, rfl, hmm, T.Machine.cl, T.n_Machine_power, (by show 6 < 1000; decide), ?_⟩
      refine ⟨_, rfl, m.a, _, m.dx, _, rfl, upd_same, T.Machine.cl, T.n_Machine_turn, (by show 6 < 1000; decide), ?_⟩
      refine ⟨_, rfl, m.a, _, m.dx, _, rfl, upd_same, T.Machine.cl, T.n_Machine_acked, (by show 6 < 1000; decide), ?_⟩
      refine ⟨_, rfl, m.a, _, m.dx, _, rfl, upd_same, T.Machine.cl, T.n_Machine_next_place, (by show 6 < 1000; decide), ?_⟩
      refine ⟨_, rfl, m.a, _, m.dx, _, rfl, upd_same, T.Machine.cl, T.n_Machine_timer, (by show 6 < 1000; decide), ?_⟩
      rw [upd_upd, upd_upd, upd_upd, upd_upd]
      have hA1 := hA.setM (m' := { m with on := true, turn := 0, acked := 0, next := 0, timer := 0 }) hm rfl rfl rfl rfl
      have hnl1 := hA1.rest (p := (nl, .lst [.int i])) (by simp)
      refine ⟨_, rfl, _, rfl, nl, _, _, _, rfl, rfl, SqL.of hnl1, rfl, g.setM i { m with on := true, turn := 0, acked := 0, next := 0, timer := 0 }, _, i, rfl, hA1, fun g' H' hA' hS => ⟨(by show 1 ≤ sizeLine; decide), fun p hp => ?_⟩⟩
      refine k g' p _ (hA'.drop.drop.new hp) hS.keep.a ?_
      rw [hS.st, GW.put_machine]
      rfl
def loseS (s : Vbdlao.St) (ns rs : List Int) : Vbdlao.St × List Int := if Vbdlao.TURNS ≤ (Vbdlao.desk s (ns.headD 0).toNat).turn then (s, [-12]) else (Vbdlao.putDesk s (ns.headD 0).toNat ⟨(Vbdlao.desk s (ns.headD 0).toNat).turn + 1, [], []⟩, [((Vbdlao.desk s (ns.headD 0).toNat).copy.length : Int)])
theorem ok_lose_copy (T : Txt K mg a) : FnOk P w K mg base CX0 8 a.f_lose_copy a.d_lose_copy p_lose_copy (spHd a onMach loseS) := by
  refine T.lose_copy.F.ok sc_lose_copy (fun vs H Q E h => ?_) (fun cdv A outer s H vs Q E hr h => ?_)
  · obtain ⟨g, R, N, nl, rl, ns, rs, rfl, _⟩ := h
    rfl
  · obtain ⟨g, R, N, nl, rl, ns, rs, rfl, hA, hW, hN, ⟨i, rfl, hi⟩, k⟩ := h
    refine ⟨_, (pss_cons (ps_set (i := 3) sc_lose_copy.nd rfl (Or.inl rfl) (pe_ix ix_list (pe_fld (pv 0) rfl) (pe_ix ix_list (pv 1) pe_int (fun _ _ => rfl)) (fun _ _ => rfl)))
      (pss_cons (ps_if (pt_cmpR op_ge (pe_fld (pv 3) rfl) (pe_gint rfl T.c_TURN_LIMIT) (nomark _)) (pss_one (ps_ret (pe_lst (pa_cons (pe_gint rfl T.c_LAST_TURN) pa_nil)))) pss_nil)
      (pss_cons (ps_set (i := 4) sc_lose_copy.nd rfl (Or.inl rfl) (pe_callB call_len_seq rfl T.b_len PySem.boot_len (pa_cons (pe_fld (pv 3) rfl) pa_nil)))
      (pss_cons (ps_fld (pv 3) (pe_lst pa_nil) rfl)
      (pss_cons (ps_fld (pv 3) (pe_lst pa_nil) rfl)
      (pss_cons (ps_fldaug (pv 3) pe_int in_add)
      (pss_one (ps_ret (pe_lst (pa_cons (pv 4) pa_nil)))))))))), ?_⟩
    have hnl : H nl = some (.lst [.int i]) := hA.rest (p := (nl, _)) (by simp)
    obtain ⟨d, hd⟩ := getD' (g := g) (i := i) (by rw [hW.dlen]; rw [GW.mlen] at hi; exact hi)
    unfold loseS at k
    have hcl : d.st.copy.length = d.evs.length := by show (d.evs.map (·.2)).length = _; rw [List.length_map]
    rw [show ([(i : Int)].headD 0).toNat = i from rfl, GW.desk_at hd, hcl] at k
    have hdd := hA.desk hd
    refine ⟨_, rfl, g.a, _, g.dx, _, _, rfl, hA.ward, T.Ward.cl, T.n_Ward_desks, rfl, _, rfl, nl, _, _, _, rfl, rfl, SqL.of hnl, rfl, g.ld, _, _, _, rfl, rfl, SqL.of hA.ld, dR_at hd, ?_⟩
    refine ⟨_, rfl, d.a, _, d.dx, _, _, rfl, hdd, T.Desk.cl, T.n_Desk_turn, rfl, _, _, rfl, rfl, _, rfl, ifc (fun hge => ?_) fun hlt => ?_⟩
    · have h2 : (50 : Int) ≤ (d.turn : Int) := hge
      rw [if_pos (show Vbdlao.TURNS ≤ d.st.turn by show 50 ≤ d.turn; omega)] at k
      refine ⟨(by show 1 ≤ sizeLine; decide), fun p hp => ?_⟩
      exact k g p _ (hA.drop.drop.new hp) rfl rfl
    · have h2 : ¬ (50 : Int) ≤ (d.turn : Int) := hlt
      rw [if_neg (show ¬ Vbdlao.TURNS ≤ d.st.turn by show ¬ 50 ≤ d.turn; omega)] at k
      refine ⟨_, rfl, d.a, _, d.dx, _, _, rfl, hdd, T.Desk.cl, T.n_Desk_copied, rfl, d.cp, _, rfl, .inl (SqL.of (hA.copy hd)), ?_⟩
      rw [evR_len]
      refine ⟨Nat.zero_le _, fun l1 hl1 => ?_⟩
      have hA1 := hA.new (o := .lst []) hl1
      refine ⟨_, rfl, d.a, _, d.dx, _, rfl, hA1.desk hd, T.Desk.cl, T.n_Desk_copied, (by show 3 < 1000; decide), ?_⟩
      refine ⟨Nat.zero_le _, fun l2 hl2 => ?_⟩
      have hne : d.a ≠ l2 := ne_of_none upd_same hl2
      refine ⟨_, rfl, d.a, _, d.dx, _, rfl, (by rw [upd_ne hne]; exact upd_same), T.Desk.cl, T.n_Desk_aside, (by show 3 < 1000; decide), ?_⟩
      refine ⟨_, rfl, d.a, _, d.dx, _, _, rfl, upd_same, T.Desk.cl, T.n_Desk_turn, rfl, _, _, rfl, rfl, d.dx, _, upd_same, (by show 3 < 1000; decide), ?_⟩
      have hl2' : (upd H l1 (.lst [])) l2 = none := by rw [upd_ne (Ne.symm hne)] at hl2; exact hl2
      have hA2 := hA1.new (o := .lst []) hl2'
      have eh : upd (upd (upd (upd (upd H l1 (.lst [])) d.a (.ins a.c_Desk d.dx (putF "copied" (.ref l1) d.fl))) l2 (.lst [])) d.a (.ins a.c_Desk d.dx (putF "aside" (.ref l2) (putF "copied" (.ref l1) d.fl)))) d.a (.ins a.c_Desk d.dx (putF "turn" (.int ((d.turn : Int) + 1)) (putF "aside" (.ref l2) (putF "copied" (.ref l1) d.fl))))
          = upd (upd (upd H l1 (.lst [])) l2 (.lst [])) d.a (.ins a.c_Desk d.dx ({ d with turn := d.turn + 1, evs := [], asd := [], cp := l1, ad := l2 } : GD).fl) := by
        rw [upd_upd]
        funext b
        by_cases hb : b = d.a
        · subst hb
          rw [upd_same, upd_same]
          rfl
        · rw [upd_ne hb, upd_ne hb]
          by_cases hb2 : b = l2
          · subst hb2
            rw [upd_same, upd_same]
          · rw [upd_ne hb2, upd_ne hb2, upd_ne hb]
      refine ⟨_, rfl, (by show 1 ≤ sizeLine; decide), fun p hp => ?_⟩
      have hA3 := At.deskNew (m' := { d with turn := d.turn + 1, evs := [], asd := [], cp := l1, ad := l2 }) (hA2.perm (List.Perm.swap ..)) hd rfl rfl rfl rfl
      rw [← eh] at hA3
      exact k (g.setD i { d with turn := d.turn + 1, evs := [], asd := [], cp := l1, ad := l2 }) p _ (hA3.drop.drop.new hp) rfl (GW.put_desk ..)
end
end Nw
end
section
set_option Elab.async false
set_option linter.all false
set_option maxRecDepth 100000
set_option maxHeartbeats 2000000
namespace Nw
open PySem PySem.Spec PyProof.Rows L2
theorem erase_take {α : Type} : ∀ (l : List α) (i : Nat), l.eraseIdx i = l.take i ++ l.drop (i + 1)
  | [], i => by cases i <;> rfl
  | _ :: _, 0 => rfl
  | x :: l, i + 1 => by
    show x :: l.eraseIdx i = x :: (l.take i ++ l.drop (i + 1))
    rw [erase_take l i]
theorem GW.st_del (g : GW) (i : Nat) : ({ g with ps := g.ps.eraseIdx i } : GW).st = { g.st with net := Vbdlao.removeAt g.st.net i } := by
  show Vbdlao.St.mk _ _ _ _ ((g.ps.eraseIdx i).map GP.st) _ _ _ _ = _
  rw [erase_map GP.st g.ps i, erase_take (g.ps.map GP.st) i]
  rfl
section
variable {P : Program} {w : World} {K : PySem.W.Frag} {mg : Str → Option Value} {base : Heap} {a : Adr}
theorem pop_ix {i n : Nat} (h : i < n) : seqIndex? (i : Int) n = some i := seqIndex_of (by omega) (by omega)
def dropS (s : Vbdlao.St) (ns rs : List Int) : Vbdlao.St × List Int := ({ s with net := Vbdlao.removeAt s.net (ns.headD 0).toNat }, [0])
def preP (s : Vbdlao.St) (ns rs : List Int) : Prop := ∃ i : Nat, ns = [(i : Int)] ∧ i < s.net.length
theorem getP {g : GW} {i : Nat} (h : i < g.st.net.length) : ∃ m, g.ps[i]? = some m := ⟨_, List.getElem?_eq_getElem (by rw [GW.nlen] at h; exact h)⟩
theorem ok_drop_packet (T : Txt K mg a) : FnOk P w K mg base CX0 8 a.f_drop_packet a.d_drop_packet p_drop_packet (spHd a preP dropS) := by
  refine T.drop_packet.F.ok sc_drop_packet (fun vs H Q E h => ?_) (fun cdv A outer s H vs Q E hr h => ?_)
  · obtain ⟨g, R, N, nl, rl, ns, rs, rfl, _⟩ := h
    rfl
  · obtain ⟨g, R, N, nl, rl, ns, rs, rfl, hA, hW, hN, ⟨i, rfl, hi⟩, k⟩ := h
    refine ⟨_, (pss_cons (ps_expr (pe_bm PySem.F.plainAttrs_list PySem.F.slot_list_pop PySem.F.type_list_pop mt_popAt (pe_fld (pv 0) rfl) (pa_cons (pe_ix ix_list (pv 1) pe_int (fun _ _ => rfl)) pa_nil)))
      (pss_one (ps_ret (pe_lst (pa_cons pe_int pa_nil))))), ?_⟩
    have hnl : H nl = some (.lst [.int i]) := hA.rest (p := (nl, _)) (by simp)
    obtain ⟨q, hq⟩ := getP hi
    rw [GW.nlen] at hi
    refine ⟨_, rfl, g.a, _, g.dx, _, _, rfl, hA.ward, T.Ward.cl, T.n_Ward_packets, rfl, .inl ⟨rfl, _, SqL.of hA.lp⟩, _, rfl, nl, _, _, _, rfl, rfl, SqL.of hnl, rfl,
      g.lp, _, (i : Int), i, .ref q.a, rfl, rfl, hA.lp, by omega, (by have := hW.net; rw [GW.nlen] at this; omega), (by rw [pR_len]; exact pop_ix hi), (by unfold pR; rw [List.getElem?_map, hq]; rfl), ?_⟩
    have hA1 := hA.delP hq
    refine ⟨(by show 1 ≤ sizeLine; decide), fun p hp => ?_⟩
    exact k { g with ps := g.ps.eraseIdx i } p _ (hA1.drops.drop.drop.new hp) rfl (GW.st_del g i)
def deliverS (s : Vbdlao.St) (ns rs : List Int) : Vbdlao.St × List Int := match s.net[(ns.headD 0).toNat]? with
  | none => (s, [-4])
  | some p => ((Vbdlao.arrive { s with net := Vbdlao.removeAt s.net (ns.headD 0).toNat } p).1, [((Vbdlao.arrive { s with net := Vbdlao.removeAt s.net (ns.headD 0).toNat } p).2 : Int)])
theorem mem_erase {α : Type} {l : List α} {i : Nat} {x : α} (h : x ∈ l.eraseIdx i) : x ∈ l := (List.eraseIdx_sublist l i).subset h
theorem Wf.del {N : Nat} {s : Vbdlao.St} (h : Wf N s) (i : Nat) : Wf N { s with net := Vbdlao.removeAt s.net i } := by
  have e : Vbdlao.removeAt s.net i = s.net.eraseIdx i := (erase_take _ _).symm
  refine ⟨h.len, h.four, h.win, h.log, h.desk, ?_, fun p hp => h.pkt p ?_⟩
  · show (Vbdlao.removeAt s.net i).length ≤ 200
    rw [e]
    exact Nat.le_trans (List.eraseIdx_sublist s.net i).length_le h.net
  · have hp' : p ∈ Vbdlao.removeAt s.net i := hp
    rw [e] at hp'
    exact mem_erase hp'
theorem ok_deliver_packet (T : Txt K mg a) : FnOk P w K mg base CX0 9 a.f_deliver_packet a.d_deliver_packet p_deliver_packet (spHd a preP deliverS) := by
  refine T.deliver_packet.F.ok sc_deliver_packet (fun vs H Q E h => ?_) (fun cdv A outer s H vs Q E hr h => ?_)
  · obtain ⟨g, R, N, nl, rl, ns, rs, rfl, _⟩ := h
    rfl
  · obtain ⟨g, R, N, nl, rl, ns, rs, rfl, hA, hW, hN, ⟨i, rfl, hi⟩, k⟩ := h
    refine ⟨_, (pss_cons (ps_set (i := 3) sc_deliver_packet.nd rfl (Or.inl rfl) (pe_bm PySem.F.plainAttrs_list PySem.F.slot_list_pop PySem.F.type_list_pop mt_popAt (pe_fld (pv 0) rfl) (pa_cons (pe_ix ix_list (pv 1) pe_int (fun _ _ => rfl)) pa_nil)))
      (pss_one (ps_ret (pe_lst (pa_cons (pe_call (ok_arrive T) (hr.mono (by decide)) rfl T.arrive.mg T.arrive.F.kp T.arrive.b .nil pass0 (pa_cons (pv 0) (pa_cons (pv 3) pa_nil))) pa_nil))))), ?_⟩
    have hnl : H nl = some (.lst [.int i]) := hA.rest (p := (nl, _)) (by simp)
    obtain ⟨q, hq⟩ := getP hi
    rw [GW.nlen] at hi
    have hqs : g.st.net[i]? = some q.st := by show (g.ps.map GP.st)[i]? = _; rw [List.getElem?_map, hq]; rfl
    unfold deliverS at k
    rw [show ([(i : Int)].headD 0).toNat = i from rfl, hqs, ← GW.st_del g i] at k
    have hpk := hW.pkt q.st (List.mem_of_getElem? hqs)
    refine ⟨_, rfl, g.a, _, g.dx, _, _, rfl, hA.ward, T.Ward.cl, T.n_Ward_packets, rfl, .inl ⟨rfl, _, SqL.of hA.lp⟩, _, rfl, nl, _, _, _, rfl, rfl, SqL.of hnl, rfl,
      g.lp, _, (i : Int), i, .ref q.a, rfl, rfl, hA.lp, by omega, (by have := hW.net; rw [GW.nlen] at this; omega), (by rw [pR_len]; exact pop_ix hi), (by unfold pR; rw [List.getElem?_map, hq]; rfl), ?_⟩
    have hA1 := hA.delP hq
    have hW1 : Wf N ({ g with ps := g.ps.eraseIdx i } : GW).st := by rw [GW.st_del]; exact hW.del i
    refine ⟨_, rfl, _, rfl, { g with ps := g.ps.eraseIdx i }, _, q, N, rfl, hA1, hW1, by omega, (by rw [GW.mlen] at hpk; exact hpk.1), hpk.2, fun g' H' hA' hK hst => ⟨(by show 1 ≤ sizeLine; decide), fun p hp => ?_⟩⟩
    exact k g' p _ (hA'.drop.drop.new hp) hK.a hst
def doubleS (s : Vbdlao.St) (ns rs : List Int) : Vbdlao.St × List Int := match s.net[(ns.headD 0).toNat]? with
  | none => (s, [-4])
  | some p => if Vbdlao.NET ≤ s.net.length then (s, [-8]) else ({ s with net := s.net ++ [p] }, [(s.net.length : Int)])
theorem ok_double_packet (T : Txt K mg a) : FnOk P w K mg base CX0 8 a.f_double_packet a.d_double_packet p_double_packet (spHd a preP doubleS) := by
  refine T.double_packet.F.ok sc_double_packet (fun vs H Q E h => ?_) (fun cdv A outer s H vs Q E hr h => ?_)
  · obtain ⟨g, R, N, nl, rl, ns, rs, rfl, _⟩ := h
    rfl
  · obtain ⟨g, R, N, nl, rl, ns, rs, rfl, hA, hW, hN, ⟨i, rfl, hi⟩, k⟩ := h
    refine ⟨_, (pss_cons (ps_if (pt_cmpR op_ge (pe_callB call_len_seq rfl T.b_len PySem.boot_len (pa_cons (pe_fld (pv 0) rfl) pa_nil)) (pe_gint rfl T.c_NET_LIMIT) (nomark _)) (pss_one (ps_ret (pe_lst (pa_cons (pe_gint rfl T.c_NET_FULL) pa_nil)))) pss_nil)
      (pss_cons (ps_set (i := 3) sc_double_packet.nd rfl (Or.inl rfl) (pe_ix ix_list (pe_fld (pv 0) rfl) (pe_ix ix_list (pv 1) pe_int (fun _ _ => rfl)) (fun _ _ => rfl)))
      (pss_cons (ps_set (i := 4) sc_double_packet.nd rfl (Or.inl rfl) (pe_make T.Packet.mkr (ok_Packet_init T) (hr.mono (by decide)) rfl T.Packet.mg T.Packet.b .nil pass0 (pa_cons (pe_fld (pv 3) rfl) (pa_cons (pe_fld (pv 3) rfl) (pa_cons (pe_callTy call_list_of rfl T.b_list PyProof.Rows.boot_list (pa_cons (pe_fld (pv 3) rfl) pa_nil)) pa_nil)))))
      (pss_cons (ps_fld (pv 4) (pe_fld (pv 3) rfl) rfl)
      (pss_cons (ps_expr (pe_bm PySem.F.plainAttrs_list PySem.F.slot_list_append PySem.F.type_list_append mt_append (pe_fld (pv 0) rfl) (pa_cons (pv 4) pa_nil)))
      (pss_one (ps_ret (pe_lst (pa_cons (pe_op op_sub (pe_callB call_len_seq rfl T.b_len PySem.boot_len (pa_cons (pe_fld (pv 0) rfl) pa_nil)) pe_int) pa_nil))))))))), ?_⟩
    have hnl : H nl = some (.lst [.int i]) := hA.rest (p := (nl, _)) (by simp)
    obtain ⟨q, hq⟩ := getP hi
    have hqs : g.st.net[i]? = some q.st := by show (g.ps.map GP.st)[i]? = _; rw [List.getElem?_map, hq]; rfl
    unfold doubleS at k
    rw [show ([(i : Int)].headD 0).toNat = i from rfl, hqs, GW.nlen] at k
    dsimp only at k
    refine ⟨_, rfl, g.a, _, g.dx, _, _, rfl, hA.ward, T.Ward.cl, T.n_Ward_packets, rfl, g.lp, _, rfl, .inl (SqL.of hA.lp), _, _, rfl, rfl, _, rfl, ?_⟩
    rw [pR_len]
    refine ifc (fun hge => ?_) fun hlt => ?_
    · rw [if_pos (show Vbdlao.NET ≤ g.ps.length by show 200 ≤ _; omega)] at k
      refine ⟨(by show 1 ≤ sizeLine; decide), fun p hp => ?_⟩
      exact k g p _ (hA.drop.drop.new hp) rfl rfl
    · rw [if_neg (show ¬ Vbdlao.NET ≤ g.ps.length by show ¬ 200 ≤ _; omega)] at k
      refine ⟨_, rfl, g.a, _, g.dx, _, _, rfl, hA.ward, T.Ward.cl, T.n_Ward_packets, rfl, _, rfl, nl, _, _, _, rfl, rfl, SqL.of hnl, rfl, g.lp, _, _, _, rfl, rfl, SqL.of hA.lp, pR_at hq, ?_⟩
      refine ⟨_, rfl, q.a, _, q.dx, _, _, rfl, hA.pkt hq, T.Packet.cl, T.n_Packet_goes_to, rfl, _, rfl, q.a, _, q.dx, _, _, rfl, hA.pkt hq, T.Packet.cl, T.n_Packet_machine, rfl, _, rfl, q.a, _, q.dx, _, _, rfl, hA.pkt hq, T.Packet.cl, T.n_Packet_octets, rfl,
        q.oc, _, rfl, .inl (SqL.of (hA.oct hq)), fun o ho => ?_⟩
      have hA1 := hA.new (o := .lst (bV q.b)) ho
      intro x dx nx ndx nex
      refine ⟨x, dx, _, _, _, rfl, upd_same, rfl, ?_⟩
      have hA2 := hA1.new (o := .own x) ndx
      have nx2 : (upd (upd H o (.lst (bV q.b))) dx (.own x)) x = none := by rw [upd_ne (Ne.symm nex)]; exact nx
      rw [upd_upd]
      have hA3 := hA2.new (o := .ins a.c_Packet dx [("goes_to", dirV q.toS), ("machine", .int q.m), ("octets", .ref o), ("spoiled", .bl false)]) nx2
      refine ⟨_, rfl, q.a, _, q.dx, _, _, rfl, hA3.pkt hq, T.Packet.cl, T.n_Packet_spoiled, rfl, _, rfl, x, _, dx, _, rfl, upd_same, T.Packet.cl, T.n_Packet_spoiled, (by show 4 < 1000; decide), ?_⟩
      have hA4 := hA3.putR (o' := .ins a.c_Packet dx [("goes_to", dirV q.toS), ("machine", .int q.m), ("octets", .ref o), ("spoiled", .bl q.sp)])
      let p2 : GP := ⟨x, dx, o, q.toS, q.m, q.b, q.sp⟩
      have hA5 : At a g (p2.fs a ++ ((dx, .own x) :: (nl, .lst [.int i]) :: (rl, .lst (rs.map V.int)) :: R)) _ := hA4.perm ((List.Perm.swap ..).cons _)
      refine ⟨_, rfl, g.a, _, g.dx, _, _, rfl, hA5.ward, T.Ward.cl, T.n_Ward_packets, rfl, .inl ⟨rfl, _, SqL.of hA5.lp⟩, _, rfl, g.lp, _, _, rfl, rfl, hA5.lp, (by rw [pR_len]; exact Nat.lt_of_lt_of_le (show g.ps.length < 200 by omega) (by decide)), ?_⟩
      have hA6 := hA5.addP
      refine ⟨_, rfl, g.a, _, g.dx, _, _, rfl, hA6.ward, T.Ward.cl, T.n_Ward_packets, rfl, g.lp, _, rfl, .inl (SqL.of hA6.lp), _, _, rfl, rfl, (by show 1 ≤ sizeLine; decide), fun p hp => ?_⟩
      have e1 : (((pR (g.ps ++ [p2])).length : Nat) : Int) - 1 = (g.ps.length : Nat) := by
        rw [pR_len, List.length_append]
        show ((g.ps.length + 1 : Nat) : Int) - 1 = _
        omega
      refine k { g with ps := g.ps ++ [p2] } p _ ?_ rfl ?_
      · have hA7 := hA6.drop.drop.drop.new (o := .lst [.int (((pR (g.ps ++ [p2])).length : Nat) - 1 : Int)]) hp
        rw [e1] at hA7
        show At a _ ((p, .lst [.int (g.ps.length : Nat)]) :: R) (upd _ p (.lst [.int (((pR (g.ps ++ [p2])).length : Nat) - 1 : Int)]))
        rw [e1]
        exact hA7
      · show Vbdlao.St.mk _ _ _ _ ((g.ps ++ [p2]).map GP.st) _ _ _ _ = _
        rw [List.map_append]
        rfl
def spoilS (s : Vbdlao.St) (ns rs : List Int) : Vbdlao.St × List Int := match ns with
  | [i, k, x] => (match s.net[i.toNat]? with
    | none => (s, [-4])
    | some p => if p.spoiled = true then (s, [-9]) else if p.bytes.length ≤ k.toNat then (s, [-10]) else ({ s with net := s.net.set i.toNat { p with bytes := Vbdlao.turnBits p.bytes k.toNat x.toNat, spoiled := true } }, [0]))
  | _ => (s, [])
def preS (s : Vbdlao.St) (ns rs : List Int) : Prop := ∃ i k x : Nat, ns = [(i : Int), (k : Int), (x : Int)] ∧ i < s.net.length
theorem xor_add : ∀ (x y : Nat), (x ^^^ y) + 2 * (x &&& y) = x + y := by
  intro x
  induction x using Nat.strongRecOn with
  | ind x ih =>
    intro y
    by_cases h0 : x = 0
    · subst h0; simp
    · have h1 := ih (x / 2) (by omega) (y / 2)
      have e1 := Nat.div_add_mod (x ^^^ y) 2
      have e2 := Nat.div_add_mod (x &&& y) 2
      have d1 : (x ^^^ y) / 2 = x / 2 ^^^ y / 2 := by
        have := Nat.shiftRight_xor_distrib (a := x) (b := y) (i := 1)
        simpa [Nat.shiftRight_succ] using this
      have d2 : (x &&& y) / 2 = x / 2 &&& y / 2 := by
        have := Nat.shiftRight_and_distrib (a := x) (b := y) (i := 1)
        simpa [Nat.shiftRight_succ] using this
      have m1 : (x ^^^ y) % 2 = (x % 2) ^^^ (y % 2) := by
        have := Nat.xor_mod_two_pow (a := x) (b := y) (n := 1)
        simpa using this
      have m2 : (x &&& y) % 2 = (x % 2) &&& (y % 2) := by
        have := Nat.and_mod_two_pow (a := x) (b := y) (n := 1)
        simpa using this
      rw [d1, m1] at e1
      rw [d2, m2] at e2
      have hx : x % 2 = 0 ∨ x % 2 = 1 := by omega
      have hy : y % 2 = 0 ∨ y % 2 = 1 := by omega
      rcases hx with hx | hx <;> rcases hy with hy | hy <;> rw [hx, hy] at e1 e2 <;> simp at e1 e2 <;> omega
theorem xor_nat (x y : Nat) : Builtin.bitXor (x : Int) (y : Int) = ((x ^^^ y : Nat) : Int) := by
  rw [bitXor_and]
  have e : Builtin.bitAnd (x : Int) (y : Int) = ((x &&& y : Nat) : Int) := by
    unfold Builtin.bitAnd
    rw [decide_eq_true (show (0 : Int) ≤ (x : Int) by omega), decide_eq_true (show (0 : Int) ≤ (y : Int) by omega)]
    rfl
  rw [e]
  have := xor_add x y
  omega
theorem ok_spoil_packet (T : Txt K mg a) : FnOk P w K mg base CX0 8 a.f_spoil_packet a.d_spoil_packet p_spoil_packet (spHd a preS spoilS) := by
  refine T.spoil_packet.F.ok sc_spoil_packet (fun vs H Q E h => ?_) (fun cdv A outer s H vs Q E hr h => ?_)
  · obtain ⟨g, R, N, nl, rl, ns, rs, rfl, _⟩ := h
    rfl
  · obtain ⟨g, R, N, nl, rl, ns, rs, rfl, hA, hW, hN, ⟨i, c, x, rfl, hi⟩, k⟩ := h
    refine ⟨_, (pss_cons (ps_set (i := 3) sc_spoil_packet.nd rfl (Or.inl rfl) (pe_ix ix_list (pe_fld (pv 0) rfl) (pe_ix ix_list (pv 1) pe_int (fun _ _ => rfl)) (fun _ _ => rfl)))
      (pss_cons (ps_set (i := 4) sc_spoil_packet.nd rfl (Or.inl rfl) (pe_ix ix_list (pv 1) pe_int (fun _ _ => rfl)))
      (pss_cons (ps_if (pt_val (pe_fld (pv 3) rfl)) (pss_one (ps_ret (pe_lst (pa_cons (pe_gint rfl T.c_SPOILED_ALREADY) pa_nil)))) pss_nil)
      (pss_cons (ps_if (pt_cmpR op_le (pe_callB call_len_seq rfl T.b_len PySem.boot_len (pa_cons (pe_fld (pv 3) rfl) pa_nil)) (pv 4) (nomark _)) (pss_one (ps_ret (pe_lst (pa_cons (pe_gint rfl T.c_NO_BYTE) pa_nil)))) pss_nil)
      (pss_cons (ps_asg (pe_op op_xor (pe_ix ix_list (pe_fld (pv 3) rfl) (pv 4) (fun _ _ => rfl)) (pe_ix ix_list (pv 1) pe_int (fun _ _ => rfl))) (pg_sub (pe_fld (pv 3) rfl) (pv 4) set_list))
      (pss_cons (ps_fld (pv 3) pe_bl rfl)
      (pss_one (ps_ret (pe_lst (pa_cons pe_int pa_nil)))))))))), ?_⟩
    have hnl : H nl = some (.lst [.int i, .int c, .int x]) := hA.rest (p := (nl, _)) (by simp)
    obtain ⟨q, hq⟩ := getP hi
    have hqs : g.st.net[i]? = some q.st := by show (g.ps.map GP.st)[i]? = _; rw [List.getElem?_map, hq]; rfl
    unfold spoilS at k
    dsimp only [Int.toNat_natCast] at k
    rw [hqs] at k
    dsimp only at k
    refine ⟨_, rfl, g.a, _, g.dx, _, _, rfl, hA.ward, T.Ward.cl, T.n_Ward_packets, rfl, _, rfl, nl, _, _, _, rfl, rfl, SqL.of hnl, rfl, g.lp, _, _, _, rfl, rfl, SqL.of hA.lp, pR_at hq, ?_⟩
    refine ⟨_, rfl, nl, _, _, _, rfl, rfl, SqL.of hnl, rfl, ?_⟩
    refine ⟨_, rfl, q.a, _, q.dx, _, _, rfl, hA.pkt hq, T.Packet.cl, T.n_Packet_spoiled, rfl, _, rfl, ifb (fun hsp => ?_) fun hns => ?_⟩
    · rw [if_pos (show q.st.spoiled = true from hsp)] at k
      refine ⟨(by show 1 ≤ sizeLine; decide), fun p hp => ?_⟩
      exact k g p _ (hA.drop.drop.new hp) rfl rfl
    · rw [if_neg (show ¬ q.st.spoiled = true from fun z => by rw [show q.st.spoiled = false from hns] at z; cases z)] at k
      refine ⟨_, rfl, q.a, _, q.dx, _, _, rfl, hA.pkt hq, T.Packet.cl, T.n_Packet_octets, rfl, q.oc, _, rfl, .inl (SqL.of (hA.oct hq)), _, rfl, _, _, rfl, rfl, _, rfl, ?_⟩
      rw [bV_len]
      refine ifc (fun hle => ?_) fun hgt => ?_
      · rw [if_pos (show q.st.bytes.length ≤ c by show q.b.length ≤ c; omega)] at k
        refine ⟨(by show 1 ≤ sizeLine; decide), fun p hp => ?_⟩
        exact k g p _ (hA.drop.drop.new hp) rfl rfl
      · have hc : c < q.b.length := by omega
        rw [if_neg (show ¬ q.st.bytes.length ≤ c by show ¬ q.b.length ≤ c; omega)] at k
        obtain ⟨y, hy⟩ : ∃ y, q.b[c]? = some y := ⟨_, List.getElem?_eq_getElem hc⟩
        refine ⟨_, rfl, q.a, _, q.dx, _, _, rfl, hA.pkt hq, T.Packet.cl, T.n_Packet_octets, rfl, _, rfl, q.oc, _, _, _, rfl, rfl, SqL.of (hA.oct hq), bV_at (j := c) rfl hy, _, rfl, nl, _, _, _, rfl, rfl, SqL.of hnl, rfl, _, _, rfl, rfl, ?_⟩
        refine ⟨_, rfl, q.a, _, q.dx, _, _, rfl, hA.pkt hq, T.Packet.cl, T.n_Packet_octets, rfl, _, rfl, q.oc, _, _, c, rfl, rfl, hA.oct hq, ?_, ?_⟩
        · unfold ixN
          rw [bV_len, if_pos (by omega), if_pos (by omega)]
          rfl
        have e1 : (bV q.b).set c (.int (Builtin.bitXor (y : Int) (x : Int))) = bV (Vbdlao.turnBits q.b c x) := by
          unfold Vbdlao.turnBits bV
          rw [List.map_set, xor_nat, List.getD_eq_getElem?_getD, hy]
          rfl
        have hA1 := hA.octP (b := Vbdlao.turnBits q.b c x) hq
        have hq1 : (g.setP i { q with b := Vbdlao.turnBits q.b c x }).ps[i]? = some { q with b := Vbdlao.turnBits q.b c x } := List.getElem?_set_self (List.getElem?_eq_some_iff.mp hq).1
        show tSeq _ _ _ _ (upd H q.oc (.lst ((bV q.b).set c (.int (Builtin.bitXor (y : Int) (x : Int))))))
        rw [e1]
        have hpk := hA1.pkt (m := { q with b := Vbdlao.turnBits q.b c x }) hq1
        refine ⟨_, rfl, q.a, _, q.dx, _, rfl, hpk, T.Packet.cl, T.n_Packet_spoiled, (by show 4 < 1000; decide), ?_⟩
        have hA2 := hA1.setP (m' := { q with b := Vbdlao.turnBits q.b c x, sp := true }) hq1 rfl rfl rfl rfl
        refine ⟨(by show 1 ≤ sizeLine; decide), fun p hp => ?_⟩
        refine k _ p _ (hA2.drop.drop.new hp) rfl ?_
        show Vbdlao.St.mk _ _ _ _ (((g.ps.set i _).set i _).map GP.st) _ _ _ _ = _
        rw [List.set_set, List.map_set]
        rfl
end
end Nw
end
section
set_option Elab.async false
set_option linter.all false
set_option maxRecDepth 100000
set_option maxHeartbeats 2000000
namespace Nw
open PySem PySem.Spec PyProof.Rows L2
theorem nodup_le : ∀ (n a : Nat) (l : List Nat), l.Nodup → (∀ x ∈ l, a ≤ x ∧ x < a + n) → l.length ≤ n
  | 0, a, l, _, h => by
    cases l with
    | nil => exact Nat.le_refl _
    | cons x r => have := h x (List.mem_cons_self ..); omega
  | n + 1, a, l, nd, h => by
    have h1 := nodup_le n a (l.erase (a + n)) (nd.erase _) fun x hx => by
      have hm := nd.mem_erase_iff.mp hx
      have := h x hm.2
      have := hm.1
      omega
    have h2 : l.length ≤ (l.erase (a + n)).length + 1 := by
      rw [List.length_erase]
      split <;> omega
    omega
theorem DeskOk.few {N W : Nat} {d : Vbdlao.Desk} (h : DeskOk N W d) : d.aside.length ≤ W := by
  have := nodup_le W d.copy.length (d.aside.map (·.1)) h.nd fun x hx => by
    obtain ⟨y, hy, rfl⟩ := List.mem_map.mp hx
    exact ⟨(h.asd y hy).1, (h.asd y hy).2.1⟩
  rwa [List.length_map] at this
section
variable {N : Nat} {s : Vbdlao.St}
theorem Wf.clearNet (h : Wf N s) : Wf N { s with net := [] } := ⟨h.len, h.four, h.win, h.log, h.desk, Nat.zero_le _, fun p hp => by cases hp⟩
theorem Wf.arriveAll : ∀ (l : List Vbdlao.Packet) {N : Nat} {s : Vbdlao.St}, Wf N s → (∀ p ∈ l, p.m < s.machines.length) → Wf (N + l.length) (Vbdlao.arriveAll s l) ∧ (Vbdlao.arriveAll s l).machines.length = s.machines.length
  | [], N, s, h, _ => ⟨h, rfl⟩
  | p :: l, N, s, h, hp => by
    obtain ⟨h1, e1⟩ := h.arrive (hp p (List.mem_cons_self ..))
    obtain ⟨h2, e2⟩ := Wf.arriveAll l h1 fun q hq => by rw [e1]; exact hp q (List.mem_cons_of_mem _ hq)
    refine ⟨h2.mono ?_, e2.trans e1⟩
    rw [List.length_cons]
    omega
theorem Wf.calmRound (h : Wf N s) : Wf (N + 200) (Vbdlao.calmRound s) ∧ (Vbdlao.calmRound s).machines.length = s.machines.length := by
  obtain ⟨h1, e1⟩ := h.tick
  obtain ⟨h2, e2⟩ := Wf.arriveAll (Vbdlao.tick s).net h1.clearNet fun p hp => (h1.pkt p hp).1
  exact ⟨h2.mono (by have := h1.net; omega), e2.trans e1⟩
theorem calm_succ : ∀ (n : Nat) (s : Vbdlao.St), Vbdlao.calm (n + 1) s = Vbdlao.calmRound (Vbdlao.calm n s)
  | 0, s => rfl
  | n + 1, s => by
    show Vbdlao.calm (n + 1) (Vbdlao.calmRound s) = Vbdlao.calmRound (Vbdlao.calm n (Vbdlao.calmRound s))
    rw [calm_succ n]
theorem Wf.calm (h : Wf N s) : ∀ n, Wf (N + 200 * n) (Vbdlao.calm n s) ∧ (Vbdlao.calm n s).machines.length = s.machines.length
  | 0 => ⟨h, rfl⟩
  | n + 1 => by
    rw [calm_succ]
    obtain ⟨h1, e1⟩ := Wf.calm h n
    obtain ⟨h2, e2⟩ := h1.calmRound
    exact ⟨h2.mono (by omega), e2.trans e1⟩
def Okr (N : Nat) (r : Vbdlao.St × List Int) : Prop := Wf (N + 20000) r.1 ∧ r.2.length ≤ 700
theorem Okr.same (h : Wf N s) {l : List Int} (hl : l.length ≤ 700) : Okr N (s, l) := ⟨h.mono (Nat.le_add_right _ _), hl⟩
theorem Okr.ref (h : Wf N s) (z : Int) : Okr N (s, [z]) := Okr.same h (by show 1 ≤ 700; decide)
theorem Okr.of {t : Vbdlao.St} {l : List Int} (h : Wf N t) (hl : l.length ≤ 700) : Okr N (t, l) := Okr.same h hl
theorem Okr.two {c : Vbdlao.Call} {X : Vbdlao.St × List Int} (h : Wf N s) (k : Vbdlao.ranges c = true → ¬ (s.machines = [] ∧ Vbdlao.isOpen c = false ∧ Vbdlao.isFrame c = false) → Okr N X) :
    Okr N (if Vbdlao.ranges c = false then (s, [-1]) else if s.machines = [] ∧ Vbdlao.isOpen c = false ∧ Vbdlao.isFrame c = false then (s, [-2]) else X) := by
  by_cases h1 : Vbdlao.ranges c = false
  · rw [if_pos h1]; exact .ref h _
  · rw [if_neg h1]
    by_cases h2 : s.machines = [] ∧ Vbdlao.isOpen c = false ∧ Vbdlao.isFrame c = false
    · rw [if_pos h2]; exact .ref h _
    · rw [if_neg h2]
      exact k (by cases e : Vbdlao.ranges c with | true => rfl | false => exact absurd e h1) h2
theorem Okr.onM (h : Wf N s) {m : Int} {F : Nat → Vbdlao.St × List Int} (k : ∀ n : Nat, n < s.machines.length → Okr N (F n)) : Okr N (Vbdlao.onM s m F) := by
  unfold Vbdlao.onM
  by_cases h1 : Vbdlao.isM s m = true
  · rw [if_pos h1]
    unfold Vbdlao.isM at h1
    rw [Bool.and_eq_true, decide_eq_true_eq, decide_eq_true_eq] at h1
    exact k _ (by omega)
  · rw [if_neg h1]; exact .ref h _
theorem Okr.onI (h : Wf N s) {i : Int} {F : Nat → Vbdlao.Packet → Vbdlao.St × List Int} (k : ∀ q, s.net[i.toNat]? = some q → Okr N (F i.toNat q)) : Okr N (Vbdlao.onI s i F) := by
  unfold Vbdlao.onI
  cases e : s.net[i.toNat]? with
  | none => exact .ref h _
  | some q => exact k q e
theorem Okr.ite {c : Prop} [Decidable c] {X Y : Vbdlao.St × List Int} (h1 : c → Okr N X) (h2 : ¬ c → Okr N Y) : Okr N (if c then X else Y) := by
  by_cases h : c
  · rw [if_pos h]; exact h1 h
  · rw [if_neg h]; exact h2 h
theorem row_len (b : List Nat) : (Vbdlao.row b).length = b.length + 1 := by
  show (Vbdlao.nats b).length + 1 = _
  unfold Vbdlao.nats
  rw [List.length_map]
theorem within_le {x lo hi : Int} (h : Vbdlao.within x lo hi = true) : lo ≤ x ∧ x ≤ hi := by
  unfold Vbdlao.within at h
  rw [Bool.and_eq_true, decide_eq_true_eq, decide_eq_true_eq] at h
  exact h
theorem bytesOk_le {rs : List Int} {n : Nat} (h : Vbdlao.bytesOk rs n = true) : rs.length ≤ n := by
  unfold Vbdlao.bytesOk at h
  rw [Bool.and_eq_true, decide_eq_true_eq] at h
  exact h.1
theorem flat3 {α : Type} (f : α → List Int) (hf : ∀ x, (f x).length = 3) : ∀ l : List α, (l.flatMap f).length = 3 * l.length
  | [] => rfl
  | x :: l => by
    rw [List.flatMap_cons, List.length_append, hf, flat3 f hf l, List.length_cons]
    omega
theorem step_ok (h : Wf N s) (c : Vbdlao.Call) : Okr N (Vbdlao.step s c) := by
  cases c with
  | open_ k w r =>
    refine Okr.two (c := .open_ k w r) h fun hr _ => Okr.ite (fun _ => .ref h _) fun hn => ?_
    have hnil : s.machines = [] := Decidable.of_not_not hn
    have hr' : (Vbdlao.within k 1 4 && (Vbdlao.within w 1 8 && Vbdlao.within r 1 50)) = true := hr
    rw [Bool.and_eq_true, Bool.and_eq_true] at hr'
    obtain ⟨k1, k2⟩ := within_le hr'.1
    obtain ⟨w1, w2⟩ := within_le hr'.2.1
    refine Okr.of ⟨?_, ?_, ?_, fun x hx => ?_, fun d hd => ?_, h.net, fun p hp => ?_⟩ (by show 1 ≤ 700; decide)
    · show (List.replicate k.toNat _).length = (List.replicate k.toNat _).length
      rw [List.length_replicate, List.length_replicate]
    · show (List.replicate k.toNat _).length ≤ 4
      rw [List.length_replicate]; omega
    · show w.toNat ≤ 8
      omega
    · rw [(List.mem_replicate.mp hx).2]
      exact ⟨Nat.zero_le _, fun e he => by cases he⟩
    · rw [(List.mem_replicate.mp hd).2]
      exact ⟨List.nodup_nil, Nat.zero_le _, fun x hx => (by cases hx), fun e he => (by cases he)⟩
    · have := (h.pkt p hp).1
      rw [hnil] at this
      exact absurd this (Nat.not_lt_zero _)
  | log m e =>
    refine Okr.two (c := .log m e) h fun hr _ => Okr.onM h fun n hn => Okr.ite (fun _ => .ref h _) fun _ => Okr.ite (fun _ => .ref h _) fun hl => ?_
    have hr' : (Vbdlao.within m 0 3 && Vbdlao.bytesOk e 16) = true := hr
    rw [Bool.and_eq_true] at hr'
    have hb := bytesOk_le hr'.2
    exact Okr.of (h.logEvent hn (by rw [List.length_map]; exact hb) (Nat.not_le.mp hl)).1 (by show 1 ≤ 700; decide)
  | tick n => exact Okr.two (c := .tick n) h fun _ _ => Okr.of (h.ticks _).1 (by show 1 ≤ 700; decide)
  | deliver i =>
    refine Okr.two (c := .deliver i) h fun _ _ => Okr.onI h fun q hq => ?_
    have hp := h.pkt q (List.mem_of_getElem? hq)
    exact ⟨((h.del i.toNat).arrive hp.1).1.mono (by omega), by show 1 ≤ 700; decide⟩
  | drop i => exact Okr.two (c := .drop i) h fun _ _ => Okr.onI h fun q hq => Okr.of (h.del i.toNat) (by show 1 ≤ 700; decide)
  | double i =>
    refine Okr.two (c := .double i) h fun _ _ => Okr.onI h fun q hq => Okr.ite (fun _ => .ref h _) fun hn => ?_
    refine Okr.of ⟨h.len, h.four, h.win, h.log, h.desk, ?_, fun p hp => ?_⟩ (by show 1 ≤ 700; decide)
    · show (s.net ++ [q]).length ≤ 200
      have : ¬ 200 ≤ s.net.length := hn
      rw [List.length_append]
      show s.net.length + 1 ≤ 200
      omega
    · rcases List.mem_append.mp (show p ∈ s.net ++ [q] from hp) with z | z
      · exact h.pkt p z
      · rw [List.mem_singleton.mp z]; exact h.pkt q (List.mem_of_getElem? hq)
  | spoil i k x =>
    refine Okr.two (c := .spoil i k x) h fun _ _ => Okr.onI h fun q hq => Okr.ite (fun _ => .ref h _) fun _ => Okr.ite (fun _ => .ref h _) fun _ => ?_
    refine Okr.of ⟨h.len, h.four, h.win, h.log, h.desk, ?_, fun p hp => ?_⟩ (by show 1 ≤ 700; decide)
    · show (s.net.set _ _).length ≤ 200
      rw [List.length_set]; exact h.net
    · rcases mem_set (show p ∈ s.net.set i.toNat { q with bytes := Vbdlao.turnBits q.bytes k.toNat x.toNat, spoiled := true } from hp) with z | z
      · exact h.pkt p z
      · have hq' := h.pkt q (List.mem_of_getElem? hq)
        rw [z]
        refine ⟨hq'.1, ?_⟩
        show (Vbdlao.turnBits q.bytes k.toNat x.toNat).length ≤ 25
        unfold Vbdlao.turnBits
        rw [List.length_set]; exact hq'.2
  | cut m => exact Okr.two (c := .cut m) h fun _ _ => Okr.onM h fun n hn => Okr.ite (fun _ => .ref h _) fun _ => Okr.of (h.putM (i := n) (x := { Vbdlao.machine s n with on := false }) (h.log (Vbdlao.machine s n) (mach_mem hn))) (by show 1 ≤ 700; decide)
  | back m =>
    refine Okr.two (c := .back m) h fun _ _ => Okr.onM h fun n hn => Okr.ite (fun _ => .ref h _) fun _ => ?_
    have h1 : Wf N (Vbdlao.putMachine s n { Vbdlao.machine s n with on := true, turn := 0, acked := 0, next := 0, timer := 0 }) := h.putM (h.log (Vbdlao.machine s n) (mach_mem hn))
    exact Okr.of (h1.send (by rw [put_mlen]; exact hn) trivial) (by show 1 ≤ 700; decide)
  | lose m =>
    refine Okr.two (c := .lose m) h fun _ _ => Okr.onM h fun n hn => Okr.ite (fun _ => .ref h _) fun _ => ?_
    exact Okr.of (h.putD ⟨List.nodup_nil, Nat.zero_le _, fun x hx => (by cases hx), fun e he => (by cases he)⟩) (by show 1 ≤ 700; decide)
  | blink =>
    refine Okr.two (c := .blink) h fun _ _ => Okr.of ⟨?_, h.four, h.win, h.log, fun d hd => ?_, h.net, h.pkt⟩ (by show 1 ≤ 700; decide)
    · show (s.desks.map _).length = _
      rw [List.length_map]; exact h.len
    · obtain ⟨e, he, rfl⟩ := List.mem_map.mp (show d ∈ s.desks.map fun d => { d with aside := [] } from hd)
      have := h.desk e he
      exact ⟨List.nodup_nil, by have h2 := this.sz; show e.copy.length + 0 ≤ N; omega, fun x hx => (by cases hx), this.cpy⟩
  | calm n =>
    refine Okr.two (c := .calm n) h fun hr _ => ?_
    have hr' : Vbdlao.within n 1 100 = true := hr
    obtain ⟨n1, n2⟩ := within_le hr'
    obtain ⟨h1, e1⟩ := h.calm n.toNat
    refine ⟨h1.mono (by omega), ?_⟩
    show (Vbdlao.nats ((Vbdlao.calm n.toNat s).desks.map fun d => d.copy.length)).length ≤ 700
    unfold Vbdlao.nats
    rw [List.length_map, List.length_map, h1.len]
    exact Nat.le_trans h1.four (by decide)
  | net =>
    refine Okr.two (c := .net) h fun _ _ => Okr.same h ?_
    show (s.net.flatMap _).length + 1 ≤ 700
    rw [flat3 _ (fun _ => rfl)]
    have := h.net
    omega
  | packet i =>
    refine Okr.two (c := .packet i) h fun _ _ => Okr.onI h fun q hq => Okr.same h ?_
    rw [row_len]
    have := (h.pkt q (List.mem_of_getElem? hq)).2
    omega
  | sender m => exact Okr.two (c := .sender m) h fun _ _ => Okr.onM h fun n hn => Okr.same h (by show 6 ≤ 700; decide)
  | station m =>
    refine Okr.two (c := .station m) h fun _ _ => Okr.onM h fun n hn => Okr.same h ?_
    show (Vbdlao.row _).length + 1 + 1 ≤ 700
    rw [row_len, List.length_map]
    have h1 := (h.desk _ (desk_mem (i := n) (by rw [h.len]; exact hn))).few
    have := h.win
    omega
  | copy m j =>
    refine Okr.two (c := .copy m j) h fun _ _ => Okr.onM h fun n hn => ?_
    show Okr N (match (Vbdlao.desk s n).copy[j.toNat]? with | none => (s, [-13]) | some e => (s, Vbdlao.row e))
    cases q : (Vbdlao.desk s n).copy[j.toNat]? with
    | none => exact .ref h _
    | some e =>
      refine Okr.same h ?_
      rw [row_len]
      have := (h.desk _ (desk_mem (i := n) (by rw [h.len]; exact hn))).cpy e (List.mem_of_getElem? q)
      omega
  | event m j =>
    refine Okr.two (c := .event m j) h fun _ _ => Okr.onM h fun n hn => ?_
    show Okr N (match (Vbdlao.machine s n).log[j.toNat]? with | none => (s, [-13]) | some e => (s, Vbdlao.row e))
    cases q : (Vbdlao.machine s n).log[j.toNat]? with
    | none => exact .ref h _
    | some e =>
      refine Okr.same h ?_
      rw [row_len]
      have := (h.log _ (mach_mem hn)).2 e (List.mem_of_getElem? q)
      omega
  | whole m => exact Okr.two (c := .whole m) h fun _ _ => Okr.onM h fun n hn => Okr.same h (by show 1 ≤ 700; decide)
  | frame b =>
    refine Okr.two (c := .frame b) h fun _ _ => Okr.same h ?_
    show (Vbdlao.frameTold (Vbdlao.frameOf (b.map Int.toNat))).length + 1 ≤ 700
    cases q : Vbdlao.frameOf (b.map Int.toNat) with
    | none => show 1 + 1 ≤ 700; decide
    | some f =>
      cases f with
      | data m i e =>
        have := frame_small q
        show (Vbdlao.row e).length + 1 + 1 + 1 + 1 ≤ 700
        rw [row_len]
        omega
      | ack m t n => show 4 + 1 ≤ 700; decide
      | ask m => show 2 + 1 ≤ 700; decide
  | totals => exact Okr.two (c := .totals) h fun _ _ => Okr.same h (by show 4 ≤ 700; decide)
end
end Nw
end
section
set_option Elab.async false
set_option linter.all false
set_option maxRecDepth 100000
set_option maxHeartbeats 2000000
namespace Nw
open PySem PySem.Spec PyProof.Rows L2
section
variable {A : Adr} {g : GW} {H : Hp} {R : List Fact}
theorem At.openM {l : Addr} {ms : List GM} (hm : g.ms = []) (h : At A g ((l, .lst (mR ms)) :: (ms.flatMap (GM.fs A) ++ R)) H) : At A { g with lm := l, ms := ms } R (upd H g.a (.ins A.c_Ward g.dx ({ g with lm := l, ms := ms } : GW).fl)) := by
  have h1 : Holds ((g.a, .ins A.c_Ward g.dx g.fl) :: (g.lm, .lst (mR g.ms)) :: (g.ld, .lst (dR g.ds)) :: (g.lp, .lst (pR g.ps)) :: ((g.ms.flatMap (GM.fs A) ++ (g.ds.flatMap (GD.fs A) ++ g.ps.flatMap (GP.fs A))) ++ (l, .lst (mR ms)) :: (ms.flatMap (GM.fs A) ++ R))) H := h
  have h2 := (h1.put (o' := .ins A.c_Ward g.dx ({ g with lm := l, ms := ms } : GW).fl)).swap.tail
  refine Holds.perm h2 ?_
  show List.Perm _ ((g.a, .ins A.c_Ward g.dx ({ g with lm := l, ms := ms } : GW).fl) :: (l, .lst (mR ms)) :: (g.ld, .lst (dR g.ds)) :: (g.lp, .lst (pR g.ps)) :: ((ms.flatMap (GM.fs A) ++ (g.ds.flatMap (GD.fs A) ++ g.ps.flatMap (GP.fs A))) ++ R))
  refine List.Perm.cons _ ?_
  rw [hm]
  show List.Perm ([(g.ld, HO.lst (dR g.ds)), (g.lp, HO.lst (pR g.ps))] ++ ((g.ds.flatMap (GD.fs A) ++ g.ps.flatMap (GP.fs A)) ++ (l, HO.lst (mR ms)) :: (ms.flatMap (GM.fs A) ++ R))) ([(l, HO.lst (mR ms))] ++ ([(g.ld, HO.lst (dR g.ds)), (g.lp, HO.lst (pR g.ps))] ++ ((ms.flatMap (GM.fs A) ++ (g.ds.flatMap (GD.fs A) ++ g.ps.flatMap (GP.fs A))) ++ R)))
  refine List.Perm.trans (List.Perm.append_left _ List.perm_middle) ?_
  refine List.Perm.trans List.perm_middle ?_
  refine List.Perm.cons _ (List.Perm.append_left _ ?_)
  rw [List.append_assoc (ms.flatMap (GM.fs A))]
  exact pcomm
theorem At.openD {l : Addr} {ds : List GD} (hm : g.ds = []) (h : At A g ((l, .lst (dR ds)) :: (ds.flatMap (GD.fs A) ++ R)) H) : At A { g with ld := l, ds := ds } R (upd H g.a (.ins A.c_Ward g.dx ({ g with ld := l, ds := ds } : GW).fl)) := by
  have h1 : Holds ((g.a, .ins A.c_Ward g.dx g.fl) :: (g.lm, .lst (mR g.ms)) :: (g.ld, .lst (dR g.ds)) :: (g.lp, .lst (pR g.ps)) :: ((g.ms.flatMap (GM.fs A) ++ (g.ds.flatMap (GD.fs A) ++ g.ps.flatMap (GP.fs A))) ++ (l, .lst (dR ds)) :: (ds.flatMap (GD.fs A) ++ R))) H := h
  have h2 := (h1.put (o' := .ins A.c_Ward g.dx ({ g with ld := l, ds := ds } : GW).fl)).third.tail
  refine Holds.perm h2 ?_
  show List.Perm _ ((g.a, .ins A.c_Ward g.dx ({ g with ld := l, ds := ds } : GW).fl) :: (g.lm, .lst (mR g.ms)) :: (l, .lst (dR ds)) :: (g.lp, .lst (pR g.ps)) :: ((g.ms.flatMap (GM.fs A) ++ (ds.flatMap (GD.fs A) ++ g.ps.flatMap (GP.fs A))) ++ R))
  refine List.Perm.cons _ (List.Perm.cons _ ?_)
  rw [hm]
  show List.Perm ([(g.lp, HO.lst (pR g.ps))] ++ ((g.ms.flatMap (GM.fs A) ++ g.ps.flatMap (GP.fs A)) ++ (l, HO.lst (dR ds)) :: (ds.flatMap (GD.fs A) ++ R))) ([(l, HO.lst (dR ds))] ++ ([(g.lp, HO.lst (pR g.ps))] ++ ((g.ms.flatMap (GM.fs A) ++ (ds.flatMap (GD.fs A) ++ g.ps.flatMap (GP.fs A))) ++ R)))
  refine List.Perm.trans (List.Perm.append_left _ List.perm_middle) ?_
  refine List.Perm.trans List.perm_middle ?_
  refine List.Perm.cons _ (List.Perm.append_left _ ?_)
  rw [List.append_assoc, List.append_assoc, List.append_assoc]
  exact List.Perm.append_left _ pcomm
end
section
variable {P : Program} {w : World} {K : PySem.W.Frag} {mg : Str → Option Value} {base : Heap} {a : Adr}
def logS (s : Vbdlao.St) (ns rs : List Int) : Vbdlao.St × List Int :=
  if (Vbdlao.machine s (ns.headD 0).toNat).on = false then (s, [-6]) else if Vbdlao.LOG ≤ (Vbdlao.machine s (ns.headD 0).toNat).log.length then (s, [-7])
  else (Vbdlao.logEvent s (ns.headD 0).toNat (rs.map Int.toNat), [((Vbdlao.machine (Vbdlao.logEvent s (ns.headD 0).toNat (rs.map Int.toNat)) (ns.headD 0).toNat).log.length : Int)])
def preL (s : Vbdlao.St) (ns rs : List Int) : Prop := onMach s ns rs ∧ rs.length ≤ 16 ∧ ∀ z ∈ rs, 0 ≤ z ∧ z ≤ 255
theorem bV_ints {rs : List Int} (h : ∀ z ∈ rs, 0 ≤ z ∧ z ≤ 255) : rs.map V.int = bV (rs.map Int.toNat) := by
  unfold bV
  rw [List.map_map]
  apply List.map_congr_left
  intro z hz
  show V.int z = V.int ((z.toNat : Nat) : Int)
  rw [Int.toNat_of_nonneg (h z hz).1]
theorem ok_add_to_log (T : Txt K mg a) : FnOk P w K mg base CX0 8 a.f_add_to_log a.d_add_to_log p_add_to_log (spHd a preL logS) := by
  refine T.add_to_log.F.ok sc_add_to_log (fun vs H Q E h => ?_) (fun cdv A outer s H vs Q E hr h => ?_)
  · obtain ⟨g, R, N, nl, rl, ns, rs, rfl, _⟩ := h
    rfl
  · obtain ⟨g, R, N, nl, rl, ns, rs, rfl, hA, hW, hN, ⟨⟨i, rfl, hi⟩, hlen, hby⟩, k⟩ := h
    refine ⟨_, (pss_cons (ps_set (i := 3) sc_add_to_log.nd rfl (Or.inl rfl) (pe_ix ix_list (pe_fld (pv 0) rfl) (pe_ix ix_list (pv 1) pe_int (fun _ _ => rfl)) (fun _ _ => rfl)))
      (pss_cons (ps_if (pt_not (pt_val (pe_fld (pv 3) rfl))) (pss_one (ps_ret (pe_lst (pa_cons (pe_gint rfl T.c_NO_POWER) pa_nil)))) pss_nil)
      (pss_cons (ps_if (pt_cmpR op_ge (pe_callB call_len_seq rfl T.b_len PySem.boot_len (pa_cons (pe_fld (pv 3) rfl) pa_nil)) (pe_gint rfl T.c_LOG_LIMIT) (nomark _)) (pss_one (ps_ret (pe_lst (pa_cons (pe_gint rfl T.c_LOG_FULL) pa_nil)))) pss_nil)
      (pss_cons (ps_expr (pe_call (ok_log_event T) (hr.mono (by decide)) rfl T.log_event.mg T.log_event.F.kp T.log_event.b .nil pass0 (pa_cons (pv 0) (pa_cons (pe_ix ix_list (pv 1) pe_int (fun _ _ => rfl)) (pa_cons (pv 2) pa_nil)))))
      (pss_one (ps_ret (pe_lst (pa_cons (pe_callB call_len_seq rfl T.b_len PySem.boot_len (pa_cons (pe_fld (pv 3) rfl) pa_nil)) pa_nil)))))))), ?_⟩
    have hnl : H nl = some (.lst [.int i]) := hA.rest (p := (nl, _)) (by simp)
    obtain ⟨m, hm⟩ := getM (g := g) (i := i) (by rw [GW.mlen] at hi; exact hi)
    have hll : m.st.log.length = m.evs.length := by show (m.evs.map (·.2)).length = _; rw [List.length_map]
    unfold logS at k
    rw [show ([(i : Int)].headD 0).toNat = i from rfl, GW.machine_at hm, hll] at k
    have hmm := hA.mach hm
    refine ⟨_, rfl, g.a, _, g.dx, _, _, rfl, hA.ward, T.Ward.cl, T.n_Ward_machines, rfl, _, rfl, nl, _, _, _, rfl, rfl, SqL.of hnl, rfl, g.lm, _, _, _, rfl, rfl, SqL.of hA.lm, mR_at hm, ?_⟩
    refine ⟨_, rfl, m.a, _, m.dx, _, _, rfl, hmm, T.Machine.cl, T.n_Machine_power, rfl, _, rfl, ifnb (fun hoff => ?_) fun hon => ?_⟩
    · rw [if_pos (show m.st.on = false from hoff)] at k
      refine ⟨(by show 1 ≤ sizeLine; decide), fun p hp => ?_⟩
      exact k g p _ (hA.drop.drop.new hp) rfl rfl
    · rw [if_neg (show ¬ m.st.on = false from fun z => by rw [show m.st.on = true from hon] at z; cases z)] at k
      refine ⟨_, rfl, m.a, _, m.dx, _, _, rfl, hmm, T.Machine.cl, T.n_Machine_log, rfl, m.lg, _, rfl, .inl (SqL.of (hA.log hm)), _, _, rfl, rfl, _, rfl, ?_⟩
      rw [evR_len]
      refine ifc (fun hge => ?_) fun hlt => ?_
      · rw [if_pos (show Vbdlao.LOG ≤ m.evs.length by show 200 ≤ _; omega)] at k
        refine ⟨(by show 1 ≤ sizeLine; decide), fun p hp => ?_⟩
        exact k g p _ (hA.drop.drop.new hp) rfl rfl
      · rw [if_neg (show ¬ Vbdlao.LOG ≤ m.evs.length by show ¬ 200 ≤ _; omega)] at k
        have hA1 : At a g ((rl, .lst (bV (rs.map Int.toNat))) :: (nl, .lst [.int i]) :: R) H := by
          have h2 := hA.perm (List.Perm.swap ..)
          rw [bV_ints hby] at h2
          exact h2
        obtain ⟨hl1, hl2⟩ := hW.logM hm
        refine ⟨_, rfl, _, rfl, nl, _, _, _, rfl, rfl, SqL.of hnl, rfl, _, rfl, g, _, i, m, (rl, rs.map Int.toNat), rfl, hA1, hm, hl2, (by rw [List.length_map]; exact hlen), Nat.le_trans hl1 (by decide), fun g' H' hA' hK hst => ?_⟩
        obtain ⟨m', hm', em⟩ := hK.mach hm
        refine ⟨_, rfl, m.a, _, m'.dx, _, _, rfl, (by rw [← em]; exact hA'.mach hm'), T.Machine.cl, T.n_Machine_log, rfl, m'.lg, _, rfl, .inl (SqL.of (hA'.log hm')), (by show 1 ≤ sizeLine; decide), fun p hp => ?_⟩
        rw [← hst, GW.machine_at hm', show m'.st.log.length = (evR m'.evs).length by rw [evR_len]; show (m'.evs.map (·.2)).length = _; rw [List.length_map]] at k
        exact k g' p _ (hA'.drop.new hp) hK.a rfl
def clr (d : Vbdlao.Desk) : Vbdlao.Desk := { d with aside := [] }
def blinkS (s : Vbdlao.St) (ns rs : List Int) : Vbdlao.St × List Int := ({ s with desks := s.desks.map fun d => { d with aside := [] } }, [(s.desks.foldl (fun n d => n + (d.aside.length : Int)) 0)])
def sumTo (l : List Vbdlao.Desk) (j : Nat) : Int := (l.take j).foldl (fun n d => n + (d.aside.length : Int)) 0
theorem sumTo_succ {l : List Vbdlao.Desk} {j : Nat} {d : Vbdlao.Desk} (h : l[j]? = some d) : sumTo l (j + 1) = sumTo l j + (d.aside.length : Int) := by
  unfold sumTo
  rw [take_snoc h, List.foldl_append]
  rfl
def clrTo (l : List Vbdlao.Desk) (j : Nat) : List Vbdlao.Desk := (l.take j).map clr ++ l.drop j
theorem clrTo_get {l : List Vbdlao.Desk} {j : Nat} : (clrTo l j)[j]? = l[j]? := by
  unfold clrTo
  by_cases hj : j < l.length
  · rw [List.getElem?_append_right (by rw [List.length_map, List.length_take]; omega), List.length_map, List.length_take, Nat.min_eq_left (by omega), Nat.sub_self, List.getElem?_drop]
    rfl
  · rw [List.getElem?_eq_none (by rw [List.length_append, List.length_map, List.length_take, List.length_drop]; omega), List.getElem?_eq_none (by omega)]
theorem clrTo_succ {l : List Vbdlao.Desk} {j : Nat} {d : Vbdlao.Desk} (h : l[j]? = some d) : clrTo l (j + 1) = (clrTo l j).set j (clr d) := by
  have hj : j < l.length := (List.getElem?_eq_some_iff.mp h).1
  unfold clrTo
  have e : ((l.take j).map clr).length = j := by rw [List.length_map, List.length_take, Nat.min_eq_left (by omega)]
  rw [List.set_append, if_neg (by omega), e, Nat.sub_self, take_snoc h, List.map_append, List.append_assoc]
  congr 1
  have e2 : l.drop j = d :: l.drop (j + 1) := by
    rw [List.drop_eq_getElem_cons hj]
    rw [(List.getElem?_eq_some_iff.mp h).2]
  rw [e2]
  rfl
def preY (s : Vbdlao.St) (ns rs : List Int) : Prop := True
theorem ok_blink_station (T : Txt K mg a) : FnOk P w K mg base CX0 8 a.f_blink_station a.d_blink_station p_blink_station (spHd a preY blinkS) := by
  refine T.blink_station.F.ok sc_blink_station (fun vs H Q E h => ?_) (fun cdv A outer s H vs Q E hr h => ?_)
  · obtain ⟨g, R, N, nl, rl, ns, rs, rfl, _⟩ := h
    rfl
  · obtain ⟨g, R, N, nl, rl, ns, rs, rfl, hA, hW, hN, _, k⟩ := h
    refine ⟨_, (pss_cons (ps_set (i := 3) sc_blink_station.nd rfl (Or.inl rfl) pe_int)
      (pss_cons (ps_for PassesOwn.never rfl (pi_list (pe_fld (pv 0) rfl)) (pg_name (i := 4) sc_blink_station.nd rfl (Or.inl rfl)) (pss_cons (ps_aug (i := 3) sc_blink_station.nd rfl (Or.inl rfl) (pe_callB call_len_seq rfl T.b_len PySem.boot_len (pa_cons (pe_fld (pv 4) rfl) pa_nil)) ip_add)
      (pss_one (ps_fld (pv 4) (pe_lst pa_nil) rfl))))
      (pss_one (ps_ret (pe_lst (pa_cons (pv 3) pa_nil)))))), ?_⟩
    refine ⟨_, rfl, g.a, _, g.dx, _, _, rfl, hA.ward, T.Ward.cl, T.n_Ward_desks, rfl, g.ld, rfl, ⟨_, SqL.of hA.ld⟩, ?_⟩
    refine for_list (K := K) (a := g.ld) (xs := dR g.ds) (fun j σ H' => ∃ (ds : List GD) (v : Option V), At a { g with ds := ds } ((nl, .lst (ns.map V.int)) :: (rl, .lst (rs.map V.int)) :: R) H' ∧ ds.map (·.a) = g.ds.map (·.a) ∧ ds.map GD.st = clrTo (g.ds.map GD.st) j ∧
      σ = [some (.ref g.a), some (.ref nl), some (.ref rl), some (.int (sumTo (g.ds.map GD.st) j)), v]) ⟨g.ds, none, hA, rfl, rfl, rfl⟩ ?_ ?_ ?_
    · rintro j σ H' _ ⟨ds, v, hA1, ed, _, _⟩
      have e : dR ds = dR g.ds := by
        unfold dR
        have := congrArg (List.map V.ref) ed
        rw [List.map_map, List.map_map] at this
        exact this
      have h2 := hA1.ld
      rw [show dR ({ g with ds := ds } : GW).ds = dR g.ds from e] at h2
      exact SqL.of h2
    · rintro j y σ H' hj ⟨ds, v, hA1, ed, es, rfl⟩
      obtain ⟨d, hd, rfl⟩ : ∃ d, g.ds[j]? = some d ∧ y = V.ref d.a := by
        unfold dR at hj
        rw [List.getElem?_map] at hj
        cases q : g.ds[j]? with
        | none => rw [q] at hj; cases hj
        | some x => rw [q] at hj; exact ⟨x, rfl, (Option.some.inj hj).symm⟩
      have hst : (g.ds.map GD.st)[j]? = some d.st := by rw [List.getElem?_map, hd]; rfl
      have q1 : (ds.map GD.st)[j]? = some d.st := by rw [es, clrTo_get]; exact hst
      obtain ⟨d1, hd1, e1⟩ : ∃ d1, ds[j]? = some d1 ∧ d1.st = d.st := by
        rw [List.getElem?_map] at q1
        cases q : ds[j]? with
        | none => rw [q] at q1; cases q1
        | some x => rw [q] at q1; exact ⟨x, rfl, Option.some.inj q1⟩
      have ea : d1.a = d.a := by
        have q2 : (ds.map (·.a))[j]? = (g.ds.map (·.a))[j]? := by rw [ed]
        rw [List.getElem?_map, List.getElem?_map, hd1, hd] at q2
        exact Option.some.inj q2
      have hd1' : ({ g with ds := ds } : GW).ds[j]? = some d1 := hd1
      have hdd : H' d.a = some (.ins a.c_Desk d1.dx d1.fl) := by rw [← ea]; exact hA1.desk hd1'
      refine ⟨_, rfl, _, rfl, d.a, _, d1.dx, _, _, rfl, hdd, T.Desk.cl, T.n_Desk_aside, rfl, d1.ad, _, rfl, .inl (SqL.of (hA1.aside hd1')), _, _, rfl, rfl, ?_⟩
      refine ⟨Nat.zero_le _, fun l hl => ?_⟩
      have hA2 := hA1.new (o := .lst []) hl
      refine ⟨_, rfl, d.a, _, d1.dx, _, rfl, (by rw [← ea]; exact hA2.desk hd1'), T.Desk.cl, T.n_Desk_aside, (by show 3 < 1000; decide), ?_⟩
      have hA3 : At a { g with ds := ds.set j { d1 with asd := [], ad := l } } ((nl, .lst (ns.map V.int)) :: (rl, .lst (rs.map V.int)) :: R) (upd (upd H' l (.lst [])) d.a (.ins a.c_Desk d1.dx ({ d1 with asd := [], ad := l } : GD).fl)) := by
        rw [← ea]
        exact At.asideNew (m' := { d1 with asd := [], ad := l }) hA2 hd1' rfl rfl rfl rfl rfl
      refine ⟨ds.set j { d1 with asd := [], ad := l }, some (.ref d.a), hA3, ?_, ?_, ?_⟩
      · exact (set_map (fun m : GD => m.a) (y := { d1 with asd := [], ad := l }) hd1 rfl).trans ed
      · rw [List.map_set, es, clrTo_succ hst]
        have e3 : GD.st { d1 with asd := [], ad := l } = clr d.st := by rw [← e1]; rfl
        rw [e3]
      · rw [sumTo_succ hst, ← e1]
        show _ = [_, _, _, some (V.int (sumTo (List.map GD.st g.ds) j + ((d1.asd.map _).length : Nat))), _]
        rw [List.length_map]
        unfold asR
        rw [List.length_map]
        rfl
    · rintro σ H' ⟨ds, v, hA1, ed, es, rfl⟩
      have hl : (dR g.ds).length = (g.ds.map GD.st).length := by unfold dR; rw [List.length_map, List.length_map]
      rw [hl] at es ⊢
      refine ⟨_, rfl, (by show 1 ≤ sizeLine; decide), fun p hp => ?_⟩
      have e2 : sumTo (g.ds.map GD.st) (g.ds.map GD.st).length = (g.ds.map GD.st).foldl (fun n d => n + (d.aside.length : Int)) 0 := by unfold sumTo; rw [List.take_length]
      rw [e2]
      refine k { g with ds := ds } p _ (hA1.drop.drop.new hp) rfl ?_
      show Vbdlao.St.mk _ _ _ (ds.map GD.st) _ _ _ _ _ = _
      rw [es]
      unfold clrTo
      rw [List.take_length, List.drop_length, List.append_nil]
      rfl
end
end Nw
end
section
set_option Elab.async false
set_option linter.all false
set_option maxRecDepth 100000
set_option maxHeartbeats 2000000
namespace Nw
open PySem PySem.Spec PyProof.Rows L2
theorem upd_comm {H : Hp} {p l : Addr} {o u : HO} (h : p ≠ l) : upd (upd H p o) l u = upd (upd H l u) p o := by
  funext b
  by_cases hb : b = p
  · subst hb; rw [upd_ne h, upd_same, upd_same]
  · rw [upd_ne (H := upd H l u) hb]
    by_cases hb2 : b = l
    · subst hb2; rw [upd_same, upd_same]
    · rw [upd_ne hb2, upd_ne hb2, upd_ne hb]
section
variable {P : Program} {w : World} {K : PySem.W.Frag} {mg : Str → Option Value} {base : Heap} {a : Adr}
def wardF (l1 l2 l3 : Addr) : List (Str × V) := [("machines", .ref l1), ("desks", .ref l2), ("window", .int 0), ("wait", .int 0), ("packets", .ref l3), ("lost", .int 0), ("bad", .int 0), ("again", .int 0), ("news", .int 0)]
def sp_Ward_init (C : Addr) : Sp := fun vs H Q _ => ∃ (p dx : Addr), vs = [.ref p] ∧ H p = some (.ins C dx []) ∧ ∀ l1 l2 l3, H l1 = none → upd H l1 (.lst []) l2 = none → upd (upd H l1 (.lst [])) l2 (.lst []) l3 = none →
  Q .non (upd (upd (upd (upd H l1 (.lst [])) l2 (.lst [])) l3 (.lst [])) p (.ins C dx (wardF l1 l2 l3)))
theorem ok_Ward_init (T : Txt K mg a) : FnOk P w K mg base CX0 1 a.f_Ward_init a.d_Ward_init p_Ward_init (sp_Ward_init a.c_Ward) := by
  refine T.Ward.F.ok sc_Ward_init (fun vs H Q E h => ?_) (fun cdv A outer s H vs Q E hr h => ?_)
  · obtain ⟨p, dx, rfl, _⟩ := h
    rfl
  · obtain ⟨p, dx, rfl, hp, k⟩ := h
    refine ⟨_, (pss_cons (ps_fld (pv 0) (pe_lst pa_nil) rfl)
      (pss_cons (ps_fld (pv 0) (pe_lst pa_nil) rfl)
      (pss_cons (ps_fld (pv 0) pe_int rfl)
      (pss_cons (ps_fld (pv 0) pe_int rfl)
      (pss_cons (ps_fld (pv 0) (pe_lst pa_nil) rfl)
      (pss_cons (ps_fld (pv 0) pe_int rfl)
      (pss_cons (ps_fld (pv 0) pe_int rfl)
      (pss_cons (ps_fld (pv 0) pe_int rfl)
      (pss_one (ps_fld (pv 0) pe_int rfl)))))))))), ?_⟩
    refine ⟨Nat.zero_le _, fun l1 h1 => ?_⟩
    have n1 : p ≠ l1 := ne_of_none hp h1
    refine ⟨_, rfl, p, _, dx, _, rfl, (by rw [upd_ne n1]; exact hp), T.Ward.cl, T.n_Ward_machines, (by show 0 < 1000; decide), ?_⟩
    refine ⟨Nat.zero_le _, fun l2 h2 => ?_⟩
    have n2 : p ≠ l2 := ne_of_none upd_same h2
    rw [upd_ne (Ne.symm n2)] at h2
    rw [upd_comm n2]
    refine ⟨_, rfl, p, _, dx, _, rfl, upd_same, T.Ward.cl, T.n_Ward_desks, (by show 1 < 1000; decide), ?_⟩
    rw [upd_upd]
    refine ⟨_, rfl, p, _, dx, _, rfl, upd_same, T.Ward.cl, T.n_Ward_window, (by show 2 < 1000; decide), ?_⟩
    rw [upd_upd]
    refine ⟨_, rfl, p, _, dx, _, rfl, upd_same, T.Ward.cl, T.n_Ward_wait, (by show 3 < 1000; decide), ?_⟩
    rw [upd_upd]
    refine ⟨Nat.zero_le _, fun l3 h3 => ?_⟩
    have n3 : p ≠ l3 := ne_of_none upd_same h3
    rw [upd_ne (Ne.symm n3)] at h3
    rw [upd_comm n3]
    refine ⟨_, rfl, p, _, dx, _, rfl, upd_same, T.Ward.cl, T.n_Ward_packets, (by show 4 < 1000; decide), ?_⟩
    rw [upd_upd]
    refine ⟨_, rfl, p, _, dx, _, rfl, upd_same, T.Ward.cl, T.n_Ward_lost, (by show 5 < 1000; decide), ?_⟩
    rw [upd_upd]
    refine ⟨_, rfl, p, _, dx, _, rfl, upd_same, T.Ward.cl, T.n_Ward_bad, (by show 6 < 1000; decide), ?_⟩
    rw [upd_upd]
    refine ⟨_, rfl, p, _, dx, _, rfl, upd_same, T.Ward.cl, T.n_Ward_again, (by show 7 < 1000; decide), ?_⟩
    rw [upd_upd]
    refine ⟨_, rfl, p, _, dx, _, rfl, upd_same, T.Ward.cl, T.n_Ward_news, (by show 8 < 1000; decide), ?_⟩
    rw [upd_upd]
    exact k l1 l2 l3 h1 h2 h3
def openS (s : Vbdlao.St) (ns rs : List Int) : Vbdlao.St × List Int := match ns with
  | [k, w, r] => if s.machines ≠ [] then (s, [-5]) else ({ s with window := w.toNat, wait := r.toNat, machines := List.replicate k.toNat Vbdlao.newMachine, desks := List.replicate k.toNat Vbdlao.newDesk }, [0])
  | _ => (s, [])
def preO (s : Vbdlao.St) (ns rs : List Int) : Prop := (∃ k w r : Nat, ns = [(k : Int), (w : Int), (r : Int)] ∧ k ≤ 4)
theorem ok_open_ward (T : Txt K mg a) : FnOk P w K mg base CX0 8 a.f_open_ward a.d_open_ward p_open_ward (spHd a preO openS) := by
  refine T.open_ward.F.ok sc_open_ward (fun vs H Q E h => ?_) (fun cdv A outer s H vs Q E hr h => ?_)
  · obtain ⟨g, R, N, nl, rl, ns, rs, rfl, _⟩ := h
    rfl
  · obtain ⟨g, R, N, nl, rl, ns, rs, rfl, hA, hW, hN, ⟨kk, ww, rr, rfl, hk4⟩, k⟩ := h
    refine ⟨_, (pss_cons (ps_if (pt_cmpR op_gt (pe_callB call_len_seq rfl T.b_len PySem.boot_len (pa_cons (pe_fld (pv 0) rfl) pa_nil)) pe_int (nomark _)) (pss_one (ps_ret (pe_lst (pa_cons (pe_gint rfl T.c_OPEN_ALREADY) pa_nil)))) pss_nil)
      (pss_cons (ps_fld (pv 0) (pe_lc (own := [("number", 3)]) rfl sc_open_ward.nd (pi_range1 rfl T.b_range (pa_cons (pe_ix ix_list (pv 1) pe_int (fun _ _ => rfl)) pa_nil)) (blkOk_by (show blkC n_open_ward (defScope s_open_ward) _ _ = true by decide +kernel)) (fun _ _ _ _ _ => (pg_name (i := 3) sc_open_ward.nd rfl (Or.inl rfl))) (fun _ _ _ _ _ => pts_nil) (fun _ _ _ _ _ => (pe_make0 T.Machine.mkr (ok_Machine_init T) (hr.mono (by decide)) rfl T.Machine.mg T.Machine.b .nil pass0))) rfl)
      (pss_cons (ps_fld (pv 0) (pe_lc (own := [("number", 3)]) rfl sc_open_ward.nd (pi_range1 rfl T.b_range (pa_cons (pe_ix ix_list (pv 1) pe_int (fun _ _ => rfl)) pa_nil)) (blkOk_by (show blkC n_open_ward (defScope s_open_ward) _ _ = true by decide +kernel)) (fun _ _ _ _ _ => (pg_name (i := 3) sc_open_ward.nd rfl (Or.inl rfl))) (fun _ _ _ _ _ => pts_nil) (fun _ _ _ _ _ => (pe_make0 T.Desk.mkr (ok_Desk_init T) (hr.mono (by decide)) rfl T.Desk.mg T.Desk.b .nil pass0))) rfl)
      (pss_cons (ps_fld (pv 0) (pe_ix ix_list (pv 1) pe_int (fun _ _ => rfl)) rfl)
      (pss_cons (ps_fld (pv 0) (pe_ix ix_list (pv 1) pe_int (fun _ _ => rfl)) rfl)
      (pss_one (ps_ret (pe_lst (pa_cons pe_int pa_nil))))))))), ?_⟩
    have hnl : H nl = some (.lst [.int kk, .int ww, .int rr]) := hA.rest (p := (nl, _)) (by simp)
    unfold openS at k
    dsimp only [Int.toNat_natCast] at k
    refine ⟨_, rfl, g.a, _, g.dx, _, _, rfl, hA.ward, T.Ward.cl, T.n_Ward_machines, rfl, g.lm, _, rfl, .inl (SqL.of hA.lm), _, _, rfl, rfl, _, rfl, ?_⟩
    rw [mR_len]
    refine ifc (fun hgt => ?_) fun hle => ?_
    · rw [if_pos (show g.st.machines ≠ [] from fun e => by have := GW.mlen g; rw [e] at this; simp at this; omega)] at k
      refine ⟨(by show 1 ≤ sizeLine; decide), fun p hp => ?_⟩
      exact k g p _ (hA.drop.drop.new hp) rfl rfl
    · have hms : g.ms = [] := List.length_eq_zero_iff.mp (by omega)
      have hds : g.ds = [] := List.length_eq_zero_iff.mp (by rw [hW.dlen]; omega)
      rw [if_neg (show ¬ g.st.machines ≠ [] from fun hn => hn (by show g.ms.map GM.st = []; rw [hms]; rfl))] at k
      refine ⟨_, rfl, nl, _, _, _, rfl, rfl, SqL.of hnl, rfl, _, rfl, by omega, by omega, fun D hD => ?_⟩
      have hA1 := hA.new (o := .lst []) hD
      refine lc_range (n := ((kk : Nat) : Int).toNat) (fun j H' => ∃ ms : List GM, ms.map GM.st = List.replicate j Vbdlao.newMachine ∧ At a g ((D, .lst (mR ms)) :: (ms.flatMap (GM.fs a) ++ ((nl, .lst [.int kk, .int ww, .int rr]) :: (rl, .lst (rs.map V.int)) :: R))) H') ⟨[], rfl, hA1⟩ ?_ ?_
      · rintro j H' hj ⟨ms, hms', hB⟩
        refine ⟨rfl, ?_⟩
        dsimp only [tYes]
        rw [if_pos rfl]
        intro x dx nx ndx nex
        refine ⟨x, dx, rfl, upd_same, fun l hl => ⟨rfl, ?_⟩⟩
        have nx2 : (upd H' dx (.own x)) x = none := by rw [upd_ne (Ne.symm nex)]; exact nx
        have hB1 := (hB.new (o := .own x) ndx).new (o := .ins a.c_Machine dx []) nx2
        have hB2 := hB1.new (o := .lst []) hl
        have hB3 := (hB2.perm (List.Perm.swap ..)).putR (o' := .ins a.c_Machine dx (machF l))
        let m : GM := ⟨x, dx, l, [], true, 0, 0, 0, 0⟩
        have hB4 : At a g ((D, .lst (mR ms)) :: [(x, .ins a.c_Machine dx (machF l)), (l, .lst []), (dx, .own x)] ++ (ms.flatMap (GM.fs a) ++ ((nl, .lst [.int kk, .int ww, .int rr]) :: (rl, .lst (rs.map V.int)) :: R))) _ := hB3.perm (List.perm_middle (l₁ := [_, _, _]))
        have hD4 := hB4.rest (p := (D, .lst (mR ms))) (by simp)
        refine ⟨_, hD4, ?_, ms ++ [m], ?_, ?_⟩
        · have : ms.length = j := by have e := congrArg List.length hms'; rwa [List.length_map, List.length_replicate] at e
          rw [mR_len]
          exact Nat.lt_of_lt_of_le (show ms.length < 5 by omega) (by decide)
        · rw [List.map_append, hms', List.replicate_succ']
          rfl
        · have hB5 := hB4.putR (o' := .lst (mR ms ++ [.ref x]))
          have e1 : mR (ms ++ [m]) = mR ms ++ [.ref x] := by unfold mR; rw [List.map_append]; rfl
          have e2 : (ms ++ [m]).flatMap (GM.fs a) = ms.flatMap (GM.fs a) ++ [(x, .ins a.c_Machine dx (machF l)), (l, .lst [])] := by rw [List.flatMap_append]; rfl
          rw [e1, e2]
          have hB6 : At a g ((dx, .own x) :: ([(D, .lst (mR ms ++ [.ref x])), (x, .ins a.c_Machine dx (machF l)), (l, .lst [])] ++ (ms.flatMap (GM.fs a) ++ ((nl, .lst [.int kk, .int ww, .int rr]) :: (rl, .lst (rs.map V.int)) :: R)))) _ := hB5.perm (List.perm_middle (l₁ := [_, _, _]))
          refine hB6.drop.perm ?_
          refine List.Perm.cons _ ?_
          show List.Perm ([(x, HO.ins a.c_Machine dx (machF l)), (l, HO.lst [])] ++ (ms.flatMap (GM.fs a) ++ ((nl, HO.lst [.int kk, .int ww, .int rr]) :: (rl, HO.lst (rs.map V.int)) :: R))) ((ms.flatMap (GM.fs a) ++ [(x, HO.ins a.c_Machine dx (machF l)), (l, HO.lst [])]) ++ ((nl, HO.lst [.int kk, .int ww, .int rr]) :: (rl, HO.lst (rs.map V.int)) :: R))
          rw [List.append_assoc]
          exact pcomm
      · rintro H1 ⟨ms, hms', hB⟩
        refine ⟨_, rfl, g.a, _, g.dx, _, rfl, hB.ward, T.Ward.cl, T.n_Ward_machines, (by show 9 < 1000; decide), ?_⟩
        have hC := hB.openM hms
        let g1 : GW := { g with lm := D, ms := ms }
        have hC : At a g1 ((nl, .lst [.int kk, .int ww, .int rr]) :: (rl, .lst (rs.map V.int)) :: R) (upd H1 g.a (.ins a.c_Ward g.dx g1.fl)) := hC
        have hnl1 := hC.rest (p := (nl, .lst [.int kk, .int ww, .int rr])) (by simp)
        refine ⟨_, rfl, nl, _, _, _, rfl, rfl, SqL.of hnl1, rfl, _, rfl, by omega, by omega, fun D2 hD2 => ?_⟩
        have hC1 := hC.new (o := .lst []) hD2
        refine lc_range (n := ((kk : Nat) : Int).toNat) (fun j H' => ∃ ds : List GD, ds.map GD.st = List.replicate j Vbdlao.newDesk ∧ At a g1 ((D2, .lst (dR ds)) :: (ds.flatMap (GD.fs a) ++ ((nl, .lst [.int kk, .int ww, .int rr]) :: (rl, .lst (rs.map V.int)) :: R))) H') ⟨[], rfl, hC1⟩ ?_ ?_
        · rintro j H' hj ⟨ds, hds', hB⟩
          refine ⟨rfl, ?_⟩
          dsimp only [tYes]
          rw [if_pos rfl]
          intro x dx nx ndx nex
          refine ⟨x, dx, rfl, upd_same, fun l q hl hq => ⟨rfl, ?_⟩⟩
          have nx2 : (upd H' dx (.own x)) x = none := by rw [upd_ne (Ne.symm nex)]; exact nx
          have hB1 := (hB.new (o := .own x) ndx).new (o := .ins a.c_Desk dx []) nx2
          have hB2 := (hB1.new (o := .lst []) hl).new (o := .lst []) hq
          have hB3 := (hB2.perm (List.perm_middle (l₁ := [_, _]))).putR (o' := .ins a.c_Desk dx (deskF l q))
          let m : GD := ⟨x, dx, l, q, 0, [], []⟩
          have hB4 : At a g1 ((D2, .lst (dR ds)) :: [(x, .ins a.c_Desk dx (deskF l q)), (q, .lst []), (l, .lst []), (dx, .own x)] ++ (ds.flatMap (GD.fs a) ++ ((nl, .lst [.int kk, .int ww, .int rr]) :: (rl, .lst (rs.map V.int)) :: R))) _ := hB3.perm (List.perm_middle (l₁ := [_, _, _, _]))
          have hD4 := hB4.rest (p := (D2, .lst (dR ds))) (by simp)
          refine ⟨_, hD4, ?_, ds ++ [m], ?_, ?_⟩
          · have : ds.length = j := by have e := congrArg List.length hds'; rwa [List.length_map, List.length_replicate] at e
            rw [dR_len]
            exact Nat.lt_of_lt_of_le (show ds.length < 5 by omega) (by decide)
          · rw [List.map_append, hds', List.replicate_succ']
            rfl
          · have hB5 := hB4.putR (o' := .lst (dR ds ++ [.ref x]))
            have e1 : dR (ds ++ [m]) = dR ds ++ [.ref x] := by unfold dR; rw [List.map_append]; rfl
            have e2 : (ds ++ [m]).flatMap (GD.fs a) = ds.flatMap (GD.fs a) ++ [(x, .ins a.c_Desk dx (deskF l q)), (l, .lst []), (q, .lst [])] := by rw [List.flatMap_append]; rfl
            rw [e1, e2]
            have hB6 : At a g1 ((dx, .own x) :: ([(D2, .lst (dR ds ++ [.ref x])), (x, .ins a.c_Desk dx (deskF l q)), (q, .lst []), (l, .lst [])] ++ (ds.flatMap (GD.fs a) ++ ((nl, .lst [.int kk, .int ww, .int rr]) :: (rl, .lst (rs.map V.int)) :: R)))) _ := hB5.perm (List.perm_middle (l₁ := [_, _, _, _]))
            refine hB6.drop.perm ?_
            refine List.Perm.cons _ ?_
            show List.Perm ([(x, HO.ins a.c_Desk dx (deskF l q)), (q, HO.lst []), (l, HO.lst [])] ++ (ds.flatMap (GD.fs a) ++ ((nl, HO.lst [.int kk, .int ww, .int rr]) :: (rl, HO.lst (rs.map V.int)) :: R))) ((ds.flatMap (GD.fs a) ++ [(x, HO.ins a.c_Desk dx (deskF l q)), (l, HO.lst []), (q, HO.lst [])]) ++ ((nl, HO.lst [.int kk, .int ww, .int rr]) :: (rl, HO.lst (rs.map V.int)) :: R))
            rw [List.append_assoc]
            refine List.Perm.trans (List.Perm.append_right _ ((List.Perm.swap ..).cons _)) pcomm
        · rintro H2 ⟨ds, hds', hB⟩
          refine ⟨_, rfl, g.a, _, g.dx, _, rfl, hB.ward, T.Ward.cl, T.n_Ward_desks, (by show 9 < 1000; decide), ?_⟩
          let g2 : GW := { g1 with ld := D2, ds := ds }
          have hE : At a g2 ((nl, .lst [.int kk, .int ww, .int rr]) :: (rl, .lst (rs.map V.int)) :: R) (upd H2 g.a (.ins a.c_Ward g.dx g2.fl)) := hB.openD hds
          have hnl2 := hE.rest (p := (nl, .lst [.int kk, .int ww, .int rr])) (by simp)
          refine ⟨_, rfl, nl, _, _, _, rfl, rfl, SqL.of hnl2, rfl, _, rfl, g.a, _, g.dx, _, rfl, hE.ward, T.Ward.cl, T.n_Ward_window, (by show 9 < 1000; decide), ?_⟩
          have hF := hE.setW (g' := { g2 with win := ww }) rfl rfl rfl
          have hnl3 := hF.rest (p := (nl, .lst [.int kk, .int ww, .int rr])) (by simp)
          refine ⟨_, rfl, nl, _, _, _, rfl, rfl, SqL.of hnl3, rfl, _, rfl, g.a, _, g.dx, _, rfl, hF.ward, T.Ward.cl, T.n_Ward_wait, (by show 9 < 1000; decide), ?_⟩
          have hG := hF.setW (g' := { g2 with win := ww, wait := rr }) rfl rfl rfl
          refine ⟨(by show 1 ≤ sizeLine; decide), fun p hp => ?_⟩
          refine k { g2 with win := ww, wait := rr } p _ (hG.drop.drop.new hp) rfl ?_
          show Vbdlao.St.mk ww rr (ms.map GM.st) (ds.map GD.st) _ _ _ _ _ = _
          rw [hms', hds']
          rfl
end
end Nw
end
section
set_option Elab.async false
set_option linter.all false
set_option maxRecDepth 100000
set_option maxHeartbeats 2000000
namespace Nw
open PySem PySem.Spec PyProof.Rows L2
structure KD (K : PySem.W.Frag) (a : Addr) (kvs : List (Int × V)) : Prop where
  nm : (a == sysModules) = false
  ob : ∃ (o : Obj) (es : Array DictEntry) (ep : Nat) (xs : List (Int × Tok × Value)), K.lookup a = some o ∧ o.ExactDict ∧ o.data = .dict es ep ∧ es.toList = xs.map (fun x => ⟨hashInt x.1, .int x.1 x.2.1, x.2.2⟩) ∧ Paired (fun (p : Int × V) (q : Int × Tok × Value) => p.1 = q.1 ∧ RelV p.2 q.2.2) kvs xs
  nd : (kvs.map (·.1)).Nodup
def keyed (kvs : List (Int × V)) : List (Key × V) := kvs.map fun p => (Sum.inl p.1, p.2)
theorem keyed_val : ∀ (kvs : List (Int × V)) (k : Int), valV (keyed kvs) (Sum.inl k) = kvs.lookup k
  | [], k => rfl
  | (j, v) :: r, k => by
    have ih := keyed_val r k
    unfold valV keyed at ih ⊢
    rw [List.map_cons, List.find?_cons]
    by_cases h : j = k
    · subst h
      rw [decide_eq_true rfl]
      show some v = List.lookup j ((j, v) :: r)
      rw [List.lookup_cons, beq_self_eq_true]
    · have hb : (k == j) = false := beq_eq_false_iff_ne.mpr fun e => h e.symm
      rw [decide_eq_false (fun e => h (Sum.inl.inj e)), List.lookup_cons, hb]
      exact ih
theorem KD.of {K : PySem.W.Frag} {a : Addr} {kvs : List (Int × V)} (d : KD K a kvs) {P : Program} {w : World} {h : Heap} (X : K.In h) : ∃ vs, KV (keyed kvs) vs ∧ h.DictOf (mixKind P w) a vs := by
  obtain ⟨o, es, ep, xs, lk, ex, hd, he, pr⟩ := d.ob
  refine ⟨xs.map fun x => (Sum.inl x.1, x.2.2), ?_, o, es, ep, X _ _ lk, ex, hd, ?_, ?_, ?_⟩
  · clear he
    have nd := d.nd
    clear nd d
    induction pr with
    | nil => exact .nil
    | cons r t ih => exact .cons ⟨congrArg Sum.inl r.1, r.2⟩ ih
  · intro e hm
    have hm' : e ∈ es.toList := Array.mem_toList_iff.mpr hm
    rw [he] at hm'
    obtain ⟨x, _, rfl⟩ := List.mem_map.mp hm'
    exact ⟨Sum.inl x.1, by show Value.isInt x.1 (.int x.1 x.2.1) = true; exact beq_self_eq_true x.1, rfl⟩
  · rw [he]
    clear he pr hd
    induction xs with
    | nil => exact .nil
    | cons x r ih => exact .cons (by show Value.isInt x.1 (.int x.1 x.2.1) = true; exact beq_self_eq_true x.1) rfl ih
  · have e : (xs.map fun x => ((Sum.inl x.1 : Key), x.2.2)).map (·.1) = (kvs.map (·.1)).map Sum.inl := by
      clear he hd
      have nd := d.nd
      clear nd d
      induction pr with
      | nil => rfl
      | cons r t ih => rw [List.map_cons, List.map_cons, List.map_cons, List.map_cons, ih, r.1]
    rw [e]
    exact d.nd.map (f := Sum.inl) (fun a b h => fun e => h (Sum.inl.inj e))
section
variable {X : Cx} {i e f : Expr} {x : Str} {p pos apos cpos : Pos} {ty tx : TE} {a : Addr} {kvs : List (Int × V)}
def tGD (kvs : List (Int × V)) (ty : TE) : TE := fun σ H Q => ty σ H fun y H1 => ∃ k v, y = .int k ∧ kvs.lookup k = some v ∧ Q v H1
theorem pe_gdict (hg : Gl X x) (hm : X.mg x = some (.ref a)) (d : KD X.K a kvs) (hi : PE X i ty) (hs : NoSl i) (hdb : (x == ("__debug__" : Str)) = false := by decide) : PE X (.Subscript (.Name x p) i pos) (tGD kvs ty) := by
  intro pins s σ H Q I h
  refine subD_of PySem.F.slot_dict_getitem.lookup hs (ld_glob I hg hm (thn (hi pins s σ H _ I h) fun iv s2 ⟨y, H2, I2, ry, k, v, ey, l, q2⟩ => ?_) hdb)
  subst ey
  obtain ⟨vs, rel, dd⟩ := d.of (P := X.prog) (w := X.w) I2.kIn
  obtain ⟨w', hw, rw'⟩ := RelO.some_of (v := v) (o := valueAt vs (Sum.inl k)) (by rw [← l, ← keyed_val]; exact rel.val (Sum.inl k))
  exact ⟨dd.typeIs, wpAny_getItem_of (kV_is (k := Sum.inl k) ry) dd.mapOf hw ⟨v, H2, I2.tok _, rw', q2⟩⟩
def tGIn (kvs : List (Int × V)) (ty : TE) : TE := fun σ H Q => ty σ H fun y H1 => ∃ k, y = .int k ∧ Q (.bl (kvs.lookup k).isSome) H1
theorem pc_gin (hg : Gl X x) (hm : X.mg x = some (.ref a)) (d : KD X.K a kvs) (hi : PE X i ty) (hdb : (x == ("__debug__" : Str)) = false := by decide) : PC X .In i (.Name x p) (tGIn kvs ty) := by
  intro pins s σ H Q I h
  refine thn (hi pins s σ H _ I h) fun iv s1 ⟨y, H1, I1, ry, k, ey, q1⟩ => ld_glob I1 hg hm ?_ hdb
  subst ey
  obtain ⟨vs, rel, dd⟩ := d.of (P := X.prog) (w := X.w) I1.kIn
  refine wpAny_in_of (kV_is (k := Sum.inl k) ry) d.nm dd.mapOf ?_
  rw [← (rel.val (Sum.inl k)).isSome_eq, keyed_val]
  exact ⟨.bl _, H1, I1.tok _, rfl, q1⟩
def tGNotIn (kvs : List (Int × V)) (ty : TE) : TE := fun σ H Q => ty σ H fun y H1 => ∃ k, y = .int k ∧ Q (.bl (!(kvs.lookup k).isSome)) H1
theorem pc_gnotIn (hg : Gl X x) (hm : X.mg x = some (.ref a)) (d : KD X.K a kvs) (hi : PE X i ty) (hdb : (x == ("__debug__" : Str)) = false := by decide) : PC X .NotIn i (.Name x p) (tGNotIn kvs ty) := by
  intro pins s σ H Q I h
  refine thn (hi pins s σ H _ I h) fun iv s1 ⟨y, H1, I1, ry, k, ey, q1⟩ => ld_glob I1 hg hm ?_ hdb
  subst ey
  obtain ⟨vs, rel, dd⟩ := d.of (P := X.prog) (w := X.w) I1.kIn
  refine wpAny_notIn_of (kV_is (k := Sum.inl k) ry) d.nm dd.mapOf ?_
  rw [← (rel.val (Sum.inl k)).isSome_eq, keyed_val]
  exact ⟨.bl _, H1, I1.tok _, rfl, q1⟩
def tGGet (kvs : List (Int × V)) (ty tx : TE) : TE := fun σ H Q => ty σ H fun y H1 => tx σ H1 fun z H2 => ∃ k, y = .int k ∧ Q ((kvs.lookup k).getD z) H2
theorem pe_gdget (hg : Gl X x) (hm : X.mg x = some (.ref a)) (d : KD X.K a kvs) (he : PE X e ty) (hf : PE X f tx) (m : M2 X (.Name x p) "get" apos e f cpos) (hdb : (x == ("__debug__" : Str)) = false := by decide) :
    PE X (.Call (.Attribute (.Name x p) "get" apos) [e, f] [] cpos) (tGGet kvs ty tx) := by
  intro pins s σ H Q I h
  refine wpAny_Call_method m.base m.few m.line PySem.F.plainAttrs_dict PySem.F.slot_dict_get PySem.F.type_dict_get (ld_glob I hg hm ?_ hdb)
  obtain ⟨vs0, rel0, dd0⟩ := d.of (P := X.prog) (w := X.w) I.kIn
  refine ⟨dd0.typeIs, fun b q => ?_, ?_⟩
  · cases q
    obtain ⟨ob, _, _, h1, h2, _⟩ := dd0
    exact ⟨ob, h1, h2.2.1⟩
  rw [m.trees]
  refine Calls.callWith_builtin rfl (Calls.evalArgs_plain (Calls.spliced_cons (thn (he pins s σ H _ I h) fun iv s2 ⟨y, H2, I2, ry, q2⟩ =>
    Calls.spliced_cons (thn (hf pins s2 σ H2 _ I2 q2) fun fv s3 ⟨z, H3, I3, rz, k, ey, q3⟩ => Calls.spliced_nil ?_))))
  subst ey
  obtain ⟨vs, rel, dd⟩ := d.of (P := X.prog) (w := X.w) I3.kIn
  refine call_meetsIn PySem.F.slot_dict_get dd.typeIs PySem.F.entry_dict_get (PySem.F.args_dict_get_3 _ _ _) (meets_dict_get_default (mixKind X.prog X.w) a (kV_is (k := Sum.inl k) ry) d.nm fv) ⟨_, dd.mapOf, ⟨_, H3, I3.tok _, ?_, q3⟩⟩
  rw [← keyed_val]
  exact (rel.val (Sum.inl k)).getD rz
end
def tCallV (X : Cx) (tf : TE) (t : TA) : TE := fun σ H Q => tf σ H fun x H0 => ∃ (k : Nat) (f : Addr) (fd : FuncData) (ps : List Str) (sp : Sp), x = .ref f ∧ FnOk X.prog X.w X.K X.mg X.base CX0 k f fd ps sp ∧ Room k X.A ∧ PySem.W.keepIn X.K (.ref f) = true ∧ Binds X.K fd ps [] ∧
  t σ H0 fun vs H1 => sp vs H1 Q E0
theorem pe_calll {X : Cx} {x : Str} {p pos : Pos} {e : Expr} {es : List Expr} {tf : TE} {t : TA} (hf : PE X (.Name x p) tf) (ha : PA X (e :: es) t)
    (he : starEach (e :: es) X.env = (false, eval e X.env) :: starEach es X.env := by rfl) (hpl : (backTo pos (starEach es X.env)).any (·.1) = false := by rfl) : PE X (.Call (.Name x p) (e :: es) [] pos) (tCallV X tf t) := by
  intro pins s σ H Q I h
  refine wpAny_Call_Name_kw (thn (hf pins s σ H _ I h) fun u s0 ⟨y, H0, I0, r0, k, f, fd, ps, sp, ey, F, hr, hk, hb, q0⟩ => ?_)
  subst ey
  obtain rfl : u = Value.ref f := r0
  refine PySem.W.callWith_K (h₀ := X.base) I0.ok.mod.kin hk (thn (ha pos pins s0 σ H0 _ I0 q0) fun us s1 ⟨vs, H1, I1, r, q⟩ => ⟨I1.kIn, ?_⟩) he hpl
  refine run_fn (dvs := []) (ds := []) F hr hb .nil pass0 I1 r ?_
  rw [List.append_nil]
  exact q
end Nw
end
section
set_option Elab.async false
set_option linter.all false
set_option maxRecDepth 100000
set_option maxHeartbeats 2000000
namespace Nw
open PySem PyProof.Rows L2
theorem tupIter_at {h h' : Heap} {a t : Addr} {i : Nat} (x : h.IsTupleIter a t i) (k : ∀ o, h.get? a = some o → h'.get? a = some o) : h'.IsTupleIter a t i := by
  obtain ⟨o, ho, r⟩ := x
  exact ⟨o, k o ho, r⟩
section
variable {prog : Program} {w : World} {A : Around} {E : Value → Shared → Prop} {s : Shared}
theorem nxt_tup {ir ls : Addr} {i : Nat} {ys} {vx : Value} {Q : Value → Shared → Prop} (hir : s.heap.IsTupleIter ir ls i)
    (hls : s.heap.IsTuple ls ys) (hvx : ys[i]? = some vx)
    (hgo : ∀ h', h'.IsTupleIter ir ls (i + 1) → Heap.SameBut ir s.heap h' → Q vx { s with heap := h' }) :
    wpAny (model prog w) A (Builtin.SmallTypes.nextOf (.ref ir)) Q E s := by
  obtain ⟨oo, hoo, hcc, hdd⟩ := id hir
  obtain ⟨ol, hol, _, nl, hdl⟩ := hls
  unfold Builtin.SmallTypes.nextOf
  refine wpAny_bind (wpAny_callSpecial?_slot (name := Str.ofString "__next__") hir.typeIs F.slot_tuple_iterator_next
    (wpAny_call_entry F.slot_tuple_iterator_next hir.typeIs F.entry_tuple_iterator_next ?_ (F.args_tuple_iterator_next_1 _)))
  show wpAny _ _ (field (.ref ir) 0 >>= _) _ _ s
  refine wpAny_bind (wpAny_field hoo hdd (x := .ref ls) rfl ?_)
  show wpAny _ _ (if (Value.ref ls == Value.none) = true then _ else _) _ _ s
  rw [if_neg (show ¬ ((Value.ref ls == Value.none) = true) from Bool.false_ne_true)]
  show wpAny _ _ (field (.ref ir) 1 >>= _) _ _ s
  refine wpAny_bind (wpAny_field hoo hdd (x := .int i 0) rfl ?_)
  show wpAny _ _ (seqItems? (.ref ls) >>= _) _ _ s
  refine wpAny_bind (wpAny_seqItems hol hdl ?_)
  simp only [Int.toNat_natCast, hvx]
  refine wpAny_bind (wpAny_setField hoo hdd (by simp) (wpAny_pure ⟨vx, rfl, wpAny_pure (hgo _ ?_ (Heap.SameBut.update ..))⟩))
  exact ⟨_, Heap.get?_update_self _ hoo (Obj.isFreed_of_fields (Obj.data_mapFields hdd _)), (Obj.cls_mapFields ..).trans hcc, by
    rw [Obj.data_mapFields hdd]; simp [rawInt]⟩
theorem nxt_tupEnd {ir ls : Addr} {i : Nat} {ys} {Q : Value → Shared → Prop} (hh : A.handled = none)
    (hir : s.heap.IsTupleIter ir ls i) (hls : s.heap.IsTuple ls ys) (hvx : ys[i]? = none)
    (hgoE : ∀ h' ee, Heap.ExtBut ir s.heap h' → (∃ oo, h'.get? ee = some oo ∧ oo.cls = .type "StopIteration") → E (.ref ee) { s with heap := h' }) :
    wpAny (model prog w) A (Builtin.SmallTypes.nextOf (.ref ir)) Q E s := by
  obtain ⟨oo, hoo, hcc, hdd⟩ := id hir
  obtain ⟨ol, hol, _, nl, hdl⟩ := hls
  unfold Builtin.SmallTypes.nextOf
  refine wpAny_bind (wpAny_callSpecial?_slot (name := Str.ofString "__next__") hir.typeIs F.slot_tuple_iterator_next
    (wpAny_call_entry F.slot_tuple_iterator_next hir.typeIs F.entry_tuple_iterator_next ?_ (F.args_tuple_iterator_next_1 _)))
  show wpAny _ _ (field (.ref ir) 0 >>= _) _ _ s
  refine wpAny_bind (wpAny_field hoo hdd (x := .ref ls) rfl ?_)
  show wpAny _ _ (if (Value.ref ls == Value.none) = true then _ else _) _ _ s
  rw [if_neg (show ¬ ((Value.ref ls == Value.none) = true) from Bool.false_ne_true)]
  show wpAny _ _ (field (.ref ir) 1 >>= _) _ _ s
  refine wpAny_bind (wpAny_field hoo hdd (x := .int i 0) rfl ?_)
  show wpAny _ _ (seqItems? (.ref ls) >>= _) _ _ s
  refine wpAny_bind (wpAny_seqItems hol hdl ?_)
  simp only [Int.toNat_natCast, hvx]
  refine wpAny_bind (wpAny_rule (wpAny_bind (wpAny_setField hoo hdd (by simp) ?_)))
  show wpAny _ _ (newExc (.type "StopIteration") [] >>= _) _ _ _
  refine wpAny_bind ?_
  simp only [newExc, newTuple]
  refine wpAny_bind (wpAny_newObj_type ?_ (by size_fits))
  refine wpAny_bind (m := firstArgMember _ _) (wpAny_of_eq (a := Value.none) (by first | rfl | (simp only [firstArgMember]; rfl)) ?_)
  refine wpAny_newObj_type ?_ (by size_fits)
  simp only [raiseNew]
  refine wpAny_bind (wpAny_handled ?_)
  first | rw [show A.in1.handled = none from hh] | rw [hh]
  refine wpAny_bind (wpAny_pure (wpAny_throw ?_))
  exact hgoE _ _ (((Heap.SameBut.update ..).extBut.push _).push _) ⟨_, Heap.get?_push_size _ rfl, rfl⟩
theorem zipT_next {zz ti tq ja jb la lb : Addr} {k1 k2 : Nat} {us ws : Array Value} {vx vy a b : Value} {Q : Value → Shared → Prop} (D : ZipApart zz ti tq ja jb la lb)
    (hzz : IsZip s.heap zz ti tq .none) (hti : IsPair s.heap ti (.ref ja) (.ref jb)) (htq : IsPair s.heap tq a b)
    (h1 : s.heap.IsListIter ja la k1) (h2 : s.heap.IsTupleIter jb lb k2) (hla : s.heap.IsList la us) (hlb : s.heap.IsTuple lb ws) (hvx : us[k1]? = some vx) (hvy : ws[k2]? = some vy)
    (hgo : ∀ h', IsZip h' zz ti tq (rawInt s.heap.objs.size) → IsPair h' tq vx vy → h'.IsListIter ja la (k1 + 1) → h'.IsTupleIter jb lb (k2 + 1) → IsPair h' s.heap.objs.size vx vy → h'.objs.size = s.heap.objs.size + 1 →
      (∀ cc oo, cc ≠ zz → cc ≠ tq → cc ≠ ja → cc ≠ jb → s.heap.get? cc = some oo → h'.get? cc = some oo) → Q (.ref s.heap.objs.size) { s with heap := h' }) :
    wpAny (model prog w) A (Builtin.«zip.__next__» ⟨[.ref zz], []⟩) (fun fin s' => ∃ v, fin = .done (.ret v) ∧ Q v s') E s := by
  show wpAny _ _ (field (.ref zz) 2 >>= _) _ _ _
  refine wpAny_bind (wpAny_field hzz rfl (x := .bool false) rfl ?_)
  show wpAny _ _ (field (.ref zz) 3 >>= _) _ _ _
  refine wpAny_bind (wpAny_field hzz rfl (x := .ref ti) rfl ?_)
  refine wpAny_bind (wpAny_seqItems hti rfl ?_)
  show wpAny _ _ (Builtin.SmallTypes.ownedTupleIsFree (.ref zz) >>= _) _ _ _
  refine wpAny_bind ?_
  unfold Builtin.SmallTypes.ownedTupleIsFree
  refine wpAny_bind (wpAny_field hzz rfl (x := .none) rfl (wpAny_pure ?_))
  simp only [if_true]
  refine wpAny_bind (wpAny_rule ?_)
  refine wpAny_bind (wpAny_field hzz rfl (x := .ref tq) rfl ?_)
  refine wpAny_bind (wpAny_setField_rec hzz (by simp) fun m1 hzx1 hsx1 => ?_)
  replace hzx1 : IsZip m1 zz ti tq .ellipsis := hzx1
  refine wpAny_bind ?_
  simp only [List.zipIdx_cons, List.zipIdx_nil, List.forIn_cons, List.forIn_nil]
  refine wpAny_bind (wpAny_bind (wpAny_onRaise ?_))
  show wpAny _ _ (Builtin.SmallTypes.nextOf (.ref ja) >>= _) _ _ _
  refine wpAny_bind (wpAny_nextOf_list_item (h1.extBut hsx1.extBut D.i1z) (hla.extBut hsx1.extBut D.l1z) hvx fun m2 h1x2 hsx2 => wpAny_pure ?_)
  have hTOx2 : IsPair m2 tq a b := hsx2.extBut _ _ D.TOi1 (hsx1.extBut _ _ D.TOz htq)
  refine wpAny_bind (wpAny_seqItems hTOx2 rfl ?_)
  refine wpAny_bind (wpAny_updateSeq_pair hTOx2 fun m3 hTOx3 hsx3 => ?_)
  replace hTOx3 : IsPair m3 tq vx b := hTOx3
  refine wpAny_bind (wpAny_letGo (wpAny_pure ?_))
  refine wpAny_bind (wpAny_bind (wpAny_onRaise ?_))
  show wpAny _ _ (Builtin.SmallTypes.nextOf (.ref jb) >>= _) _ _ _
  refine wpAny_bind (nxt_tup (((h2.extBut hsx1.extBut D.i2z).extBut hsx2.extBut D.i12.symm).extBut hsx3.extBut D.TOi2.symm)
    (((hlb.extBut hsx1.extBut D.l2z).extBut hsx2.extBut D.l2i1).extBut hsx3.extBut D.l2TO) hvy fun m4 h2x4 hsx4 => wpAny_pure ?_)
  have hTOx4 : IsPair m4 tq vx b := hsx4.extBut _ _ D.TOi2 hTOx3
  refine wpAny_bind (wpAny_seqItems hTOx4 rfl ?_)
  refine wpAny_bind (wpAny_updateSeq_pair hTOx4 fun m5 hTOx5 hsx5 => ?_)
  replace hTOx5 : IsPair m5 tq vx vy := hTOx5
  refine wpAny_bind (wpAny_letGo (wpAny_pure (wpAny_pure ?_)))
  refine wpAny_bind (wpAny_seqItems hTOx5 rfl ?_)
  refine wpAny_bind (wpAny_newTuple ?_)
  have hsz : m5.objs.size = s.heap.objs.size := by rw [hsx5.1, hsx4.1, hsx3.1, hsx2.1, hsx1.1]
  have hzx5 : IsZip m5 zz ti tq .ellipsis := hsx5.extBut _ _ D.TOz.symm (hsx4.extBut _ _ D.i2z.symm (hsx3.extBut _ _ D.TOz.symm (hsx2.extBut _ _ D.i1z.symm hzx1)))
  have hkx5 : ∀ cc oo, cc ≠ zz → cc ≠ tq → cc ≠ ja → cc ≠ jb → s.heap.get? cc = some oo → m5.get? cc = some oo := fun cc oo c1 c2 c3 c4 ee =>
    hsx5.extBut _ _ c2 (hsx4.extBut _ _ c4 (hsx3.extBut _ _ c2 (hsx2.extBut _ _ c3 (hsx1.extBut _ _ c1 ee))))
  have h1x5 : m5.IsListIter ja la (k1 + 1) := ((h1x2.extBut hsx3.extBut D.TOi1.symm).extBut hsx4.extBut D.i12).extBut hsx5.extBut D.TOi1.symm
  have h2x5 : m5.IsTupleIter jb lb (k2 + 1) := h2x4.extBut hsx5.extBut D.TOi2.symm
  have hzlt : zz < m5.objs.size := Heap.lt_size hzx5
  have hTOlt : tq < m5.objs.size := Heap.lt_size hTOx5
  have hi1lt : ja < m5.objs.size := by obtain ⟨_, ee, _⟩ := h1x5; exact Heap.lt_size ee
  have hi2lt : jb < m5.objs.size := by obtain ⟨_, ee, _⟩ := h2x5; exact Heap.lt_size ee
  show wpAny _ _ (Builtin.SmallTypes.ownedTupleHandOut (.ref zz) (.ref m5.objs.size) >>= _) _ _ _
  refine wpAny_bind ?_
  unfold Builtin.SmallTypes.ownedTupleHandOut
  have hzx6 : IsZip (m5.push { cls := .type "tuple", data := .seq #[vx, vy] }) zz ti tq .ellipsis := Heap.get?_push_of_some _ hzx5
  refine wpAny_bind (wpAny_setField_rec hzx6 (by simp) fun m7 hzx7 hsx7 => ?_)
  replace hzx7 : IsZip m7 zz ti tq (rawInt m5.objs.size) := hzx7
  refine wpAny_setField_rec hzx7 (by simp) fun m8 hzx8 hsx8 => ?_
  replace hzx8 : IsZip m8 zz ti tq (rawInt m5.objs.size) := hzx8
  have up : ∀ cc oo, cc ≠ zz → m5.get? cc = some oo → m8.get? cc = some oo := fun cc oo c1 ee => hsx8.extBut _ _ c1 (hsx7.extBut _ _ c1 (Heap.get?_push_of_some _ ee))
  have hTx8 : IsPair m8 m5.objs.size vx vy := hsx8.extBut _ _ (Nat.ne_of_gt hzlt) (hsx7.extBut _ _ (Nat.ne_of_gt hzlt) (Heap.get?_push_size _ rfl))
  have hz8 : m8.objs.size = m5.objs.size + 1 := by rw [hsx8.1, hsx7.1, Heap.size_push]
  rw [hsz] at hzx8 hTx8 hz8
  refine wpAny_pure ⟨_, rfl, ?_⟩
  show Q (.ref m5.objs.size) _
  rw [hsz]
  exact hgo m8 hzx8 (up _ _ D.TOz hTOx5) (h1x5.at fun oo ee => up _ oo D.i1z ee) (tupIter_at h2x5 fun oo ee => up _ oo D.i2z ee) hTx8 hz8 fun cc oo c1 c2 c3 c4 ee => up cc oo c1 (hkx5 cc oo c1 c2 c3 c4 ee)
theorem zipT_nextEnd {zz ti tq ja jb la lb : Addr} {k1 k2 : Nat} {us ws : Array Value} {a b : Value} {Q : Fin → Shared → Prop} (hh : A.handled = none) (D : ZipApart zz ti tq ja jb la lb)
    (hzz : IsZip s.heap zz ti tq .none) (hti : IsPair s.heap ti (.ref ja) (.ref jb)) (htq : IsPair s.heap tq a b)
    (h1 : s.heap.IsListIter ja la k1) (h2 : s.heap.IsTupleIter jb lb k2) (hla : s.heap.IsList la us) (hlb : s.heap.IsTuple lb ws) (hfin : us[k1]? = none ∨ ws[k2]? = none)
    (hgoE : ∀ h' ee, (∀ cc oo, cc ≠ zz → cc ≠ tq → cc ≠ ja → cc ≠ jb → s.heap.get? cc = some oo → h'.get? cc = some oo) → (∃ oo, h'.get? ee = some oo ∧ oo.cls = .type "StopIteration") → E (.ref ee) { s with heap := h' }) :
    wpAny (model prog w) A (Builtin.«zip.__next__» ⟨[.ref zz], []⟩) Q E s := by
  show wpAny _ _ (field (.ref zz) 2 >>= _) _ _ _
  refine wpAny_bind (wpAny_field hzz rfl (x := .bool false) rfl ?_)
  show wpAny _ _ (field (.ref zz) 3 >>= _) _ _ _
  refine wpAny_bind (wpAny_field hzz rfl (x := .ref ti) rfl ?_)
  refine wpAny_bind (wpAny_seqItems hti rfl ?_)
  show wpAny _ _ (Builtin.SmallTypes.ownedTupleIsFree (.ref zz) >>= _) _ _ _
  refine wpAny_bind ?_
  unfold Builtin.SmallTypes.ownedTupleIsFree
  refine wpAny_bind (wpAny_field hzz rfl (x := .none) rfl (wpAny_pure ?_))
  simp only [if_true]
  refine wpAny_bind (wpAny_rule ?_)
  refine wpAny_bind (wpAny_field hzz rfl (x := .ref tq) rfl ?_)
  refine wpAny_bind (wpAny_setField_rec hzz (by simp) fun m1 hzx1 hsx1 => ?_)
  replace hzx1 : IsZip m1 zz ti tq .ellipsis := hzx1
  refine wpAny_bind ?_
  simp only [List.zipIdx_cons, List.zipIdx_nil, List.forIn_cons, List.forIn_nil]
  refine wpAny_bind (wpAny_bind (wpAny_onRaise ?_))
  show wpAny _ _ (Builtin.SmallTypes.nextOf (.ref ja) >>= _) _ _ _
  cases hvx : us[k1]? with
  | none =>
    refine wpAny_bind (wpAny_nextOf_list_end hh (h1.extBut hsx1.extBut D.i1z) (hla.extBut hsx1.extBut D.l1z) hvx fun m2 ee hsx2 he => ?_)
    obtain ⟨oe, hoe, hce⟩ := he
    have hzx2 : IsZip m2 zz ti tq .ellipsis := hsx2 _ _ D.i1z.symm hzx1
    have hez : ee ≠ zz := fun vx => by subst vx; rw [hzx2] at hoe; cases hoe; simp at hce
    refine wpAny_setField_rec hzx2 (by simp) fun m3 _ hsx3 => hgoE m3 ee (fun cc oo c1 _ c3 _ vx => hsx3.extBut _ _ c1 (hsx2 _ _ c3 (hsx1.extBut _ _ c1 vx))) ⟨oe, hsx3.extBut _ _ hez hoe, hce⟩
  | some vx =>
    have hvy : ws[k2]? = none := by rcases hfin with h | h; rw [hvx] at h; cases h; exact h
    refine wpAny_bind (wpAny_nextOf_list_item (h1.extBut hsx1.extBut D.i1z) (hla.extBut hsx1.extBut D.l1z) hvx fun m2 h1x2 hsx2 => wpAny_pure ?_)
    have hTOx2 : IsPair m2 tq a b := hsx2.extBut _ _ D.TOi1 (hsx1.extBut _ _ D.TOz htq)
    refine wpAny_bind (wpAny_seqItems hTOx2 rfl ?_)
    refine wpAny_bind (wpAny_updateSeq_pair hTOx2 fun m3 hTOx3 hsx3 => ?_)
    refine wpAny_bind (wpAny_letGo (wpAny_pure ?_))
    refine wpAny_bind (wpAny_bind (wpAny_onRaise ?_))
    show wpAny _ _ (Builtin.SmallTypes.nextOf (.ref jb) >>= _) _ _ _
    refine wpAny_bind (nxt_tupEnd hh (((h2.extBut hsx1.extBut D.i2z).extBut hsx2.extBut D.i12.symm).extBut hsx3.extBut D.TOi2.symm)
      (((hlb.extBut hsx1.extBut D.l2z).extBut hsx2.extBut D.l2i1).extBut hsx3.extBut D.l2TO) hvy fun m4 ee hsx4 he => ?_)
    obtain ⟨oe, hoe, hce⟩ := he
    have hzx4 : IsZip m4 zz ti tq .ellipsis := hsx4 _ _ D.i2z.symm (hsx3.extBut _ _ D.TOz.symm (hsx2.extBut _ _ D.i1z.symm hzx1))
    have hez : ee ≠ zz := fun vx => by subst vx; rw [hzx4] at hoe; cases hoe; simp at hce
    refine wpAny_setField_rec hzx4 (by simp) fun m5 _ hsx5 => hgoE m5 ee (fun cc oo c1 c2 c3 c4 vx => hsx5.extBut _ _ c1 (hsx4 _ _ c4 (hsx3.extBut _ _ c2 (hsx2.extBut _ _ c3 (hsx1.extBut _ _ c1 vx))))) ⟨oe, hsx5.extBut _ _ hez hoe, hce⟩
theorem zipT_item {zz ti tq ja jb la lb : Addr} {k1 k2 : Nat} {us ws : Array Value} {vx vy a b : Value} {Q : Option Value → Shared → Prop} (D : ZipApart zz ti tq ja jb la lb)
    (hzz : IsZip s.heap zz ti tq .none) (hti : IsPair s.heap ti (.ref ja) (.ref jb)) (htq : IsPair s.heap tq a b)
    (h1 : s.heap.IsListIter ja la k1) (h2 : s.heap.IsTupleIter jb lb k2) (hla : s.heap.IsList la us) (hlb : s.heap.IsTuple lb ws) (hvx : us[k1]? = some vx) (hvy : ws[k2]? = some vy)
    (hgo : ∀ h', IsZip h' zz ti tq (rawInt s.heap.objs.size) → IsPair h' tq vx vy → h'.IsListIter ja la (k1 + 1) → h'.IsTupleIter jb lb (k2 + 1) → IsPair h' s.heap.objs.size vx vy → h'.objs.size = s.heap.objs.size + 1 →
      (∀ cc oo, cc ≠ zz → cc ≠ tq → cc ≠ ja → cc ≠ jb → s.heap.get? cc = some oo → h'.get? cc = some oo) → Q (some (.ref s.heap.objs.size)) { s with heap := h' }) :
    wpAny (model prog w) A (pyNext (.ref zz)) Q E s := by
  have hTy : s.TypeIs (.ref zz) "zip" := ⟨_, hzz, rfl⟩
  unfold pyNext
  exact wpAny_bind (wpAny_attempt (wpAny_callSpecial?_slot (name := Str.ofString "__next__") hTy F.slot_zip_next
    (wpAny_call_entry F.slot_zip_next hTy F.entry_zip_next
      (zipT_next D hzz hti htq h1 h2 hla hlb hvx hvy fun h' a1 a2 a3 a4 a5 a6 a7 => wpAny_pure (hgo h' a1 a2 a3 a4 a5 a6 a7)) (F.args_zip_next_1 _))))
theorem zipT_end {zz ti tq ja jb la lb : Addr} {k1 k2 : Nat} {us ws : Array Value} {a b : Value} {Q : Option Value → Shared → Prop} (hh : A.handled = none) (D : ZipApart zz ti tq ja jb la lb)
    (hzz : IsZip s.heap zz ti tq .none) (hti : IsPair s.heap ti (.ref ja) (.ref jb)) (htq : IsPair s.heap tq a b)
    (h1 : s.heap.IsListIter ja la k1) (h2 : s.heap.IsTupleIter jb lb k2) (hla : s.heap.IsList la us) (hlb : s.heap.IsTuple lb ws) (hfin : us[k1]? = none ∨ ws[k2]? = none)
    (hgo : ∀ h', (∀ cc oo, cc ≠ zz → cc ≠ tq → cc ≠ ja → cc ≠ jb → s.heap.get? cc = some oo → h'.get? cc = some oo) → Q none { s with heap := h' }) : wpAny (model prog w) A (pyNext (.ref zz)) Q E s := by
  have hTy : s.TypeIs (.ref zz) "zip" := ⟨_, hzz, rfl⟩
  unfold pyNext
  refine wpAny_bind (wpAny_attempt (wpAny_callSpecial?_slot (name := Str.ofString "__next__") hTy F.slot_zip_next
    (wpAny_call_entry F.slot_zip_next hTy F.entry_zip_next (zipT_nextEnd hh D hzz hti htq h1 h2 hla hlb hfin fun h' ee hk he => ?_) (F.args_zip_next_1 _))))
  obtain ⟨oo, hoo, hcc⟩ := he
  refine wpAny_bind (wpAny_isInstance (T := "StopIteration") (b := true) ⟨oo, hoo, hcc⟩ isSubtype_stop ?_)
  exact wpAny_pure (hgo _ hk)
end
abbrev zipT2 (h : Heap) (l1 l2 : Addr) : Heap := (zipH1 h l1).push { cls := .type "tuple_iterator", data := .fields #[.ref l2, .int 0 0] }
abbrev zipT3 (h : Heap) (l1 l2 : Addr) : Heap := (zipT2 h l1 l2).push { cls := .type "tuple", data := .seq #[.ref h.objs.size, .ref (zipH1 h l1).objs.size] }
abbrev zipT4 (h : Heap) (l1 l2 : Addr) : Heap := (zipT3 h l1 l2).push { cls := .type "tuple", data := .seq #[.none, .none] }
abbrev zipT5 (h : Heap) (l1 l2 : Addr) : Heap := (zipT4 h l1 l2).push { cls := .type "zip", data := .fields #[.none, .bool false, .bool false, .ref (zipT2 h l1 l2).objs.size, .ref (zipT3 h l1 l2).objs.size] }
theorem zipT_new (la lb : Addr) (us ws : Array Value) :
    Meets (Builtin.«zip.__new__» ⟨[.type "zip", .ref la, .ref lb], []⟩) (fun _ R s => s.heap.IsList la us ∧ s.heap.IsTuple lb ws ∧
      R (.ok (.ret (.ref (zipT4 s.heap la lb).objs.size))) { s with heap := zipT5 s.heap la lb }) :=
  .of_wp fun prog w A R s h => by
    obtain ⟨hq0, g0, d0, t0, o0⟩ := s; obtain ⟨hla, hlb, h⟩ := h
    have hsu := F.called_zip.sub
    have hL1 : Heap.IsList (Shared.heap ⟨hq0, g0, d0, t0, o0⟩) la us := hla
    have hL2 : Heap.IsTuple (Shared.heap ⟨hq0.push { cls := .type "list_iterator", data := .fields #[.ref la, .int 0 0] }, g0, d0, t0, o0⟩) lb ws := Heap.IsTuple.push hlb _
    wp_walk using wpAny_pyIter_list hL1, wpAny_pyIter_tuple hL2
    exact ⟨_, rfl, h⟩
section
variable {prog : Program} {w : World} {A : Around} {E : Value → Shared → Prop} {s : Shared}
theorem zipT_call {la lb : Addr} {us ws : Array Value} {Q : Value → Shared → Prop} (hla : s.heap.IsList la us) (hlb : s.heap.IsTuple lb ws)
    (h : ∀ h', IsZip h' (s.heap.objs.size + 4) (s.heap.objs.size + 2) (s.heap.objs.size + 3) .none → IsPair h' (s.heap.objs.size + 2) (.ref s.heap.objs.size) (.ref (s.heap.objs.size + 1)) →
      IsPair h' (s.heap.objs.size + 3) .none .none → h'.IsListIter s.heap.objs.size la 0 → h'.IsTupleIter (s.heap.objs.size + 1) lb 0 → h'.objs.size = s.heap.objs.size + 5 →
      (∀ cc oo, s.heap.get? cc = some oo → h'.get? cc = some oo) → Q (.ref (s.heap.objs.size + 4)) { s with heap := h' }) :
    wpAny (model prog w) A (call (.type "zip") [.ref la, .ref lb]) Q E s := by
  refine callType_new F.called_zip (by decide) (F.typeCall_zip_2 _ _) (F.newCall_zip_2 _ _) (fun obj => F.args_object_init_3 obj _ _) F.entry_zip_new
    (zipT_new la lb us ws) ⟨hla, hlb, ?_⟩
  have y1 : (zipH1 s.heap la).objs.size = s.heap.objs.size + 1 := Heap.size_push ..
  have y2 : (zipT2 s.heap la lb).objs.size = s.heap.objs.size + 2 := by rw [Heap.size_push, y1]
  have y3 : (zipT3 s.heap la lb).objs.size = s.heap.objs.size + 3 := by rw [Heap.size_push, y2]
  have y4 : (zipT4 s.heap la lb).objs.size = s.heap.objs.size + 4 := by rw [Heap.size_push, y3]
  have y5 : (zipT5 s.heap la lb).objs.size = s.heap.objs.size + 5 := by rw [Heap.size_push, y4]
  have r5 : (zipT5 s.heap la lb).get? (zipT4 s.heap la lb).objs.size = some _ := Heap.get?_push_size _ rfl
  have r4 : (zipT5 s.heap la lb).get? (zipT3 s.heap la lb).objs.size = some _ := Heap.get?_push_of_some _ (Heap.get?_push_size _ rfl)
  have r3 : (zipT5 s.heap la lb).get? (zipT2 s.heap la lb).objs.size = some _ := Heap.get?_push_of_some _ (Heap.get?_push_of_some _ (Heap.get?_push_size _ rfl))
  have r2 : (zipT5 s.heap la lb).get? (zipH1 s.heap la).objs.size = some _ := Heap.get?_push_of_some _ (Heap.get?_push_of_some _ (Heap.get?_push_of_some _ (Heap.get?_push_size _ rfl)))
  have r1 : (zipT5 s.heap la lb).get? s.heap.objs.size = some _ := Heap.get?_push_of_some _ (Heap.get?_push_of_some _ (Heap.get?_push_of_some _ (Heap.get?_push_of_some _ (Heap.get?_push_size _ rfl))))
  show _ ∧ _
  rw [y2, y3, y4] at r5
  rw [y1, y2] at r3
  rw [y3] at r4
  rw [y1] at r2
  rw [y4]
  exact ⟨⟨_, r5, rfl⟩, h _ r5 r3 r4 ⟨_, r1, rfl, rfl⟩ ⟨_, r2, rfl, rfl⟩ y5 fun cc oo vx =>
    Heap.get?_push_of_some _ (Heap.get?_push_of_some _ (Heap.get?_push_of_some _ (Heap.get?_push_of_some _ (Heap.get?_push_of_some _ vx))))⟩
end
end Nw
end
section
set_option Elab.async false
set_option linter.all false
set_option maxRecDepth 100000
set_option maxHeartbeats 2000000
namespace Nw
open PySem PySem.Spec PyProof.Rows L2
def ItzT (K : PySem.W.Frag) (a b : Addr) : It :=
  ⟨fun i H => ∃ (xs ys : List V) (x y : V), SqL K H a xs ∧ SqT K H b ys ∧ xs[i]? = some x ∧ ys[i]? = some y,
    fun i H v H' => ∃ T x y, v = .ref T ∧ H T = none ∧ H' = upd H T (.tup [x, y]) ∧ (∀ xs, SqL K H a xs → xs[i]? = some x) ∧ ∀ ys, SqT K H b ys → ys[i]? = some y,
    fun i H => ∃ xs ys : List V, SqL K H a xs ∧ SqT K H b ys ∧ (xs.length ≤ i ∨ ys.length ≤ i)⟩
theorem turn_zipT {P : Program} {w : World} {K : PySem.W.Frag} {elts : List Expr} {kk : Nat} {tpos : Pos} {a b z TI TO i1 i2 : Addr} (D : ZipApart z TI TO i1 i2 a b) :
    Turn P w K (.Tuple elts kk tpos) (ItzT K a b) [z, TI, TO, i1, i2] z (fun i h => IsZip h z TI TO .none ∧ IsPair h TI (.ref i1) (.ref i2) ∧ (∃ x y, IsPair h TO x y) ∧ h.IsListIter i1 a i ∧ h.IsTupleIter i2 b i) where
  mem := by simp
  obj := fun i h st c hc => by
    obtain ⟨hz, hTI, ⟨x, y, hTO⟩, ⟨o1, e1, _, d1⟩, ⟨o2, e2, _, d2⟩⟩ := st
    have e' : c = z ∨ c = TI ∨ c = TO ∨ c = i1 ∨ c = i2 := by simpa using hc
    rcases e' with q | q | q | q | q
    · rw [q]; exact ⟨_, hz, fun v q => nomatch q⟩
    · rw [q]; exact ⟨_, hTI, fun v q => nomatch q⟩
    · rw [q]; exact ⟨_, hTO, fun v q => nomatch q⟩
    · rw [q]; exact ⟨o1, e1, fun v q => by rw [d1] at q; cases q⟩
    · rw [q]; exact ⟨o2, e2, fun v q => by rw [d2] at q; cases q⟩
  keep := fun i h h' st k => by
    obtain ⟨hz, hTI, ⟨x, y, hTO⟩, h1, h2⟩ := st
    exact ⟨k z (by simp) _ hz, k TI (by simp) _ hTI, ⟨x, y, k TO (by simp) _ hTO⟩, h1.at fun o q => k i1 (by simp) o q, tupIter_at h2 fun o q => k i2 (by simp) o q⟩
  item := by
    intro X hP hw hK hc i pins s σ H E I hf st hg
    subst hP hw hK
    obtain ⟨hz, hTI, ⟨x0, y0, hTO⟩, h1, h2⟩ := st
    obtain ⟨xs, ys, x, y, hqx, hqy, hx, hy⟩ := hg
    obtain ⟨its, rv, p, _⟩ := I.list hqx
    obtain ⟨its2, rv2, p2, _⟩ := I.tuple hqy
    obtain ⟨u, hu, ru⟩ := rv.get hx
    obtain ⟨u2, hu2, ru2⟩ := rv2.get hy
    have hzl : z < s.heap.objs.size := Heap.lt_size hz
    refine zipT_item D hz hTI hTO h1 h2 p.isList p2 (vx := u) (vy := u2) (by simpa using hu) (by simpa using hu2) fun h' z' TO' h1' h2' hT hsz hk => ?_
    refine ⟨_, rfl, wpAny_letOwnedTupleGo_zip (s := { s with heap := h' }) z' fun h'' z'' sb => ?_⟩
    have hT2 : h''.get? s.heap.objs.size = some { cls := .type "tuple", data := .seq #[u, u2] } := (sb.2 _ (Nat.ne_of_gt hzl)).trans hT
    have new : ObjOk X.prog X.w (upd H s.heap.objs.size (.tup [x, y])) h'' s.heap.objs.size (.tup [x, y]) :=
      ⟨by show 2 ≤ sizeLine; decide, [u, u2], .cons ru (.cons ru2 .nil), ⟨_, hT2, rfl, _, rfl⟩⟩
    have I1 : Inv X pins σ (upd H s.heap.objs.size (.tup [x, y])) { s with heap := h'' } :=
      I.turnedNew (t' := s.toks) (ch := [z, TI, TO, i1, i2]) (fun c o hb q => (sb.2 c (fun q' => hb (by simp [q']))).trans (hk c o (fun q' => hb (by simp [q'])) (fun q' => hb (by simp [q'])) (fun q' => hb (by simp [q'])) (fun q' => hb (by simp [q'])) q)) hf (Nat.le_refl _) new
    refine ⟨.ref s.heap.objs.size, _, I1, rfl, ⟨_, x, y, rfl, I.hok.fresh (Nat.le_refl _), rfl, fun l hl => by rw [I.list_inj hl hqx]; exact hx, fun l hl => by rw [I.tuple_inj hl hqy]; exact hy⟩, ⟨z'', ?_, ⟨u, u2, ?_⟩, ?_, ?_⟩, fun c hcm => ?_⟩
    · exact (sb.2 _ D.TIz).trans (hk _ _ D.TIz D.TITO D.TIi1 D.TIi2 hTI)
    · exact (sb.2 _ D.TOz).trans TO'
    · exact h1'.at fun o q => (sb.2 _ D.i1z).trans q
    · exact tupIter_at h2' fun o q => (sb.2 _ D.i2z).trans q
    · have hlt : c < s.heap.objs.size := by
        have e' : c = z ∨ c = TI ∨ c = TO ∨ c = i1 ∨ c = i2 := by simpa using hcm
        rcases e' with q | q | q | q | q
        · rw [q]; exact hzl
        · rw [q]; exact Heap.lt_size hTI
        · rw [q]; exact Heap.lt_size hTO
        · rw [q]; obtain ⟨_, e1, _⟩ := h1; exact Heap.lt_size e1
        · rw [q]; obtain ⟨_, e2, _⟩ := h2; exact Heap.lt_size e2
      rw [upd_ne (Nat.ne_of_lt hlt)]
      exact (hf c hcm).1
  done := by
    intro X hP hw hK hc i pins s σ H E I hf st hg
    subst hP hw hK
    obtain ⟨hz, hTI, ⟨x0, y0, hTO⟩, h1, h2⟩ := st
    obtain ⟨xs, ys, hqx, hqy, hend⟩ := hg
    obtain ⟨its, rv, p, _⟩ := I.list hqx
    obtain ⟨its2, rv2, p2, _⟩ := I.tuple hqy
    have l1 := rv.length
    have l2 := rv2.length
    have he : its.toArray[i]? = none ∨ its2.toArray[i]? = none := by
      rcases hend with q | q
      · exact .inl (by simp; omega)
      · exact .inr (by simp; omega)
    exact zipT_end (I.ok.hd hc) D hz hTI hTO h1 h2 p.isList p2 he fun h' hk => ⟨rfl, I.turnedL (t' := s.toks) (ch := [z, TI, TO, i1, i2]) (fun c o hb q =>
      hk c o (fun q' => hb (by simp [q'])) (fun q' => hb (by simp [q'])) (fun q' => hb (by simp [q'])) (fun q' => hb (by simp [q'])) q) hf⟩
  self := fun A i s Q E st h => wpAny_pyIter_zip st.1 h
def iZipT (K : PySem.W.Frag) (ta : TA) : TI := fun σ H R => ta σ H fun vs H1 => ∃ a b xs ys, vs = [.ref a, .ref b] ∧ SqL K H1 a xs ∧ SqT K H1 b ys ∧ R (ItzT K a b) H1
theorem pi_zipLT {X : Cx} {e e2 : Expr} {ta : TA} {p pos tpos : Pos} {elts : List Expr} {kk : Nat} (hg : Gl X "zip") (hm : X.mg "zip" = none) (ha : PA X [e, e2] ta)
    (hs : starEach [e, e2] X.env = (false, eval e X.env) :: starEach [e2] X.env := by rfl) (hpl : (backTo pos (starEach [e2] X.env)).any (·.1) = false := by rfl) :
    PI X (.Tuple elts kk tpos) (.Call (.Name "zip" p) [e, e2] [] pos) (iZipT X.K ta) := by
  intro pins s σ H R I h
  refine Call_ (ld_blt I hg hm boot_zip5 (PyProof.Rows.callWith_type1 (thn (ha pos pins s σ H _ I h) fun us s1 ⟨vs, H1, I1, r1, q1⟩ => ?_) hs hpl))
  obtain ⟨a, b, xs, ys, ex, hqx, hqy, q⟩ := q1
  subst ex
  cases r1 with
  | cons r rr =>
    cases rr with
    | cons r' rr =>
      cases rr
      cases r
      cases r'
      obtain ⟨its, rv, p1, _⟩ := I1.list hqx
      obtain ⟨its2, rv2, p2, _⟩ := I1.tuple hqy
      have la : a < s1.heap.objs.size := p1.lt
      have lb : b < s1.heap.objs.size := p2.lt
      refine zipT_call p1.isList p2 fun h' hz hTI hTO h1 h2 hsz hk => wpAny_pyIter_zip hz ?_
      have I2 : Inv X pins σ H1 { s1 with heap := h' } := I1.kept (t' := s1.toks) hk
      refine ⟨s1.heap.objs.size + 4, [s1.heap.objs.size + 4, s1.heap.objs.size + 2, s1.heap.objs.size + 3, s1.heap.objs.size, s1.heap.objs.size + 1], _, _, H1, rfl, I2, turn_zipT (PySem.W.ktu_apart s1.heap.objs.size a b la lb), ⟨hz, hTI, ⟨_, _, hTO⟩, h1, h2⟩, fun c hcm => ?_, q⟩
      have e' : c = s1.heap.objs.size + 4 ∨ c = s1.heap.objs.size + 2 ∨ c = s1.heap.objs.size + 3 ∨ c = s1.heap.objs.size ∨ c = s1.heap.objs.size + 1 := by simpa using hcm
      have hle : s1.heap.objs.size ≤ c := by
        rcases e' with z | z | z | z | z
        · rw [z]; exact Nat.le_add_right _ _
        · rw [z]; exact Nat.le_add_right _ _
        · rw [z]; exact Nat.le_add_right _ _
        · rw [z]; exact Nat.le_refl _
        · rw [z]; exact Nat.le_add_right _ _
      exact I1.fpOk hle (I1.hok.fresh hle)
theorem for_zipT {K : PySem.W.Frag} {a b : Addr} {xs ys : List V} {g : TG} {tb : TS} {D : Ends} {σ : L2.St} {H : Hp} (Pv : Nat → L2.St → Hp → Prop) (h0 : Pv 0 σ H) (hl : ∀ i σ H, Pv i σ H → SqL K H a xs ∧ SqT K H b ys)
    (hs : ∀ i x y T σ H, xs[i]? = some x → ys[i]? = some y → Pv i σ H → H T = none → g (.ref T) σ (upd H T (.tup [x, y])) fun σ2 H2 => tb { D with nx := Pv (i + 1), ct := Pv (i + 1), bk := D.nx } σ2 H2)
    (hd : ∀ i σ H, (i = xs.length ∨ i = ys.length) → i ≤ xs.length → i ≤ ys.length → Pv i σ H → D.nx σ H) :
    ∃ W : Nat → Nat → L2.St → Hp → Prop, (∃ m, W 0 m σ H) ∧ ∀ i m σ H, W i m σ H →
      ((ItzT K a b).stop i H ∧ D.nx σ H) ∨ ((ItzT K a b).go i H ∧ ∃ N : L2.St → Hp → Prop, (∀ σ' H', N σ' H' → ∃ m', m' < m ∧ W (i + 1) m' σ' H') ∧ ∀ x H', (ItzT K a b).yld i H x H' → g x σ H' fun σ2 H2 => tb { D with nx := N, ct := N, bk := D.nx } σ2 H2) := by
  refine ⟨fun i m σ H => m = xs.length - i ∧ i ≤ xs.length ∧ i ≤ ys.length ∧ Pv i σ H, ⟨xs.length, by simp, Nat.zero_le _, Nat.zero_le _, h0⟩, ?_⟩
  rintro i m σ H ⟨rfl, hi, hi2, p⟩
  obtain ⟨q1, q2⟩ := hl i σ H p
  by_cases hlt : i < xs.length ∧ i < ys.length
  · refine .inr ⟨⟨xs, ys, xs[i], ys[i], q1, q2, by simp [hlt.1], by simp [hlt.2]⟩, Pv (i + 1), fun σ' H' p' => ⟨xs.length - (i + 1), by omega, rfl, hlt.1, hlt.2, p'⟩, fun x H' y => ?_⟩
    obtain ⟨T, u, v, rfl, hT, rfl, y1, y2⟩ := y
    exact hs i u v T σ H (y1 xs q1) (y2 ys q2) p hT
  · exact .inl ⟨⟨xs, ys, q1, q2, by omega⟩, hd i σ H (by omega) hi hi2 p⟩
end Nw
end
section
set_option Elab.async false
set_option linter.all false
set_option maxRecDepth 100000
set_option maxHeartbeats 2000000
namespace Nw
open PySem PySem.Spec PyProof.Rows L2
def calmS (s : Vbdlao.St) (ns rs : List Int) : Vbdlao.St × List Int := (Vbdlao.calm (ns.headD 0).toNat s, Vbdlao.nats ((Vbdlao.calm (ns.headD 0).toNat s).desks.map fun d => d.copy.length))
def netS (s : Vbdlao.St) (ns rs : List Int) : Vbdlao.St × List Int := (s, (s.net.length : Int) :: s.net.flatMap fun p => [Vbdlao.bit (!p.toStation), (p.m : Int), (p.bytes.length : Int)])
def packetS (s : Vbdlao.St) (ns rs : List Int) : Vbdlao.St × List Int := match s.net[(ns.headD 0).toNat]? with
  | none => (s, [-4])
  | some p => (s, Vbdlao.row p.bytes)
def senderOf (x : Vbdlao.Machine) : List Int := [Vbdlao.bit x.on, (x.log.length : Int), (x.turn : Int), (x.acked : Int), (x.next : Int), (x.timer : Int)]
def senderS (s : Vbdlao.St) (ns rs : List Int) : Vbdlao.St × List Int := (s, senderOf (Vbdlao.machine s (ns.headD 0).toNat))
def stationOf (d : Vbdlao.Desk) : List Int := [(d.turn : Int), (d.copy.length : Int)] ++ Vbdlao.row (d.aside.map fun x => x.1)
def stationS (s : Vbdlao.St) (ns rs : List Int) : Vbdlao.St × List Int := (s, stationOf (Vbdlao.desk s (ns.headD 0).toNat))
def evOf (l : List (List Nat)) (j : Nat) : List Int := match l[j]? with
  | none => [-13]
  | some e => Vbdlao.row e
def copyS (s : Vbdlao.St) (ns rs : List Int) : Vbdlao.St × List Int := (s, evOf (Vbdlao.desk s (ns.headD 0).toNat).copy ((ns.drop 1).headD 0).toNat)
def eventS (s : Vbdlao.St) (ns rs : List Int) : Vbdlao.St × List Int := (s, evOf (Vbdlao.machine s (ns.headD 0).toNat).log ((ns.drop 1).headD 0).toNat)
def wholeS (s : Vbdlao.St) (ns rs : List Int) : Vbdlao.St × List Int := (s, [Vbdlao.bit ((Vbdlao.desk s (ns.headD 0).toNat).copy == (Vbdlao.machine s (ns.headD 0).toNat).log)])
def frameS (s : Vbdlao.St) (ns rs : List Int) : Vbdlao.St × List Int := (s, (Vbdlao.check (rs.map Int.toNat) : Int) :: Vbdlao.frameTold (Vbdlao.frameOf (rs.map Int.toNat)))
def totalsS (s : Vbdlao.St) (ns rs : List Int) : Vbdlao.St × List Int := (s, Vbdlao.nats [s.lost, s.bad, s.again, s.news])
def onMJ (s : Vbdlao.St) (ns rs : List Int) : Prop := ∃ m j : Nat, ns = [(m : Int), (j : Int)] ∧ m < s.machines.length ∧ j ≤ 199
def preF (s : Vbdlao.St) (ns rs : List Int) : Prop := rs.length ≤ 40 ∧ ∀ z ∈ rs, 0 ≤ z ∧ z ≤ 255
end Nw
end
section
set_option Elab.async false
set_option linter.all false
set_option maxRecDepth 100000
set_option maxHeartbeats 2000000
namespace Nw
open PySem PySem.Spec PyProof.Rows L2
theorem upd_none {H : Hp} {p q : Addr} {o : HO} (h : upd H p o q = none) : H q = none := by
  by_cases e : q = p
  · subst e
    rw [upd_same] at h
    cases h
  · rwa [upd_ne e] at h
theorem ix_tupK {X : Cx} {K : PySem.W.Frag} (e : X.K = K) : IxR X (rIxT K) := e ▸ ix_tup
theorem len_K {X : Cx} {K : PySem.W.Frag} (e : X.K = K) : CallR X (.builtin "len") (fun xs H Q => ∃ p ys, xs = [.ref p] ∧ (SqL K H p ys ∨ SqT K H p ys) ∧ Q (.int ys.length) H) := e ▸ call_len_seq
theorem pe_fldK {X : Cx} {K : PySem.W.Frag} {e : Expr} {f : Str} {pos : Pos} {ta : TE} (k : X.K = K) (he : PE X e ta) (hb : attributeBase e f X.env (eval e X.env) = eval e X.env) : PE X (.Attribute e f pos) (tFld K ta f) := k ▸ pe_fld he hb
theorem At.keep1 {A : Adr} {g : GW} {H : Hp} {x y z : Fact} {R : List Fact} (h : At A g (x :: y :: z :: R) H) : At A g (x :: R) H := ((h.perm (List.Perm.swap ..)).drop.perm (List.Perm.swap ..)).drop
theorem row_bV (b : List Nat) : (Vbdlao.row b).map V.int = V.int (b.length : Nat) :: bV b := by
  show V.int (b.length : Nat) :: (Vbdlao.nats b).map V.int = _
  unfold Vbdlao.nats bV
  rw [List.map_map]
  rfl
section
variable {P : Program} {w : World} {K : PySem.W.Frag} {mg : Str → Option Value} {base : Heap} {a : Adr}
def newL (H : Hp) (xs : List V) (Q : VK) : Prop := ∀ (p : Addr) (H' : Hp), H p = none → Same H H' → H' p = some (.lst xs) → Q (.ref p) H'
def sp_counted : Sp := fun vs H Q _ => ∃ (l : Addr) (xs : List V), vs = [.ref l] ∧ H l = some (.lst xs) ∧ xs.length ≤ 300 ∧ newL H (.int (xs.length : Nat) :: xs) Q
theorem ok_counted (T : Txt K mg a) : FnOk P w K mg base CX0 1 a.f_counted a.d_counted p_counted sp_counted := by
  refine T.counted.F.ok sc_counted (fun vs H Q E h => ?_) (fun cdv A outer s H vs Q E hr h => ?_)
  · obtain ⟨l, xs, rfl, _⟩ := h
    rfl
  · obtain ⟨l, xs, rfl, hl, hz, k⟩ := h
    refine ⟨_, (pss_one (ps_ret (pe_op op_cat (pe_lst (pa_cons (pe_callB call_len_seq rfl T.b_len PySem.boot_len (pa_cons (pv 0) pa_nil)) pa_nil)) (pv 0)))), ?_⟩
    refine ⟨_, rfl, l, _, rfl, .inl (SqL.of hl), (by show 1 ≤ sizeLine; decide), fun p hp => ?_⟩
    have hne : l ≠ p := ne_of_none hl hp
    refine ⟨_, rfl, p, l, _, _, rfl, rfl, upd_same, (by rw [upd_ne hne]; exact hl), ?_, fun q hq => ?_⟩
    · show 1 + xs.length ≤ sizeLine
      exact Nat.le_trans (show 1 + xs.length ≤ 301 by omega) (by decide)
    · exact k q _ (upd_none hq) ((Same.new hp).trans (Same.new hq)) upd_same
theorem ok_look_at_packet (T : Txt K mg a) : FnOk P w K mg base CX0 2 a.f_look_at_packet a.d_look_at_packet p_look_at_packet (spHd a preP packetS) := by
  refine T.look_at_packet.F.ok sc_look_at_packet (fun vs H Q E h => ?_) (fun cdv A outer s H vs Q E hr h => ?_)
  · obtain ⟨g, R, N, nl, rl, ns, rs, rfl, _⟩ := h
    rfl
  · obtain ⟨g, R, N, nl, rl, ns, rs, rfl, hA, hW, hN, ⟨i, rfl, hi⟩, k⟩ := h
    refine ⟨_, (pss_one (ps_ret (pe_call (ok_counted T) (hr.mono (by decide)) rfl T.counted.mg T.counted.F.kp T.counted.b .nil pass0 (pa_cons (pe_fld (pe_ix ix_list (pe_fld (pv 0) rfl) (pe_ix ix_list (pv 1) pe_int (fun _ _ => rfl)) (fun _ _ => rfl)) rfl) pa_nil)))), ?_⟩
    have hnl : H nl = some (.lst [.int i]) := hA.rest (p := (nl, _)) (by simp)
    obtain ⟨x, hx⟩ := getP hi
    have hst : g.st.net[i]? = some x.st := by show (g.ps.map GP.st)[i]? = _; rw [List.getElem?_map, hx]; rfl
    have hb : x.b.length ≤ 25 := (hW.pkt x.st (List.mem_of_getElem? hst)).2
    have e : packetS g.st [(i : Int)] rs = (g.st, Vbdlao.row x.b) := by
      unfold packetS
      rw [show ([(i : Int)].headD 0).toNat = i from rfl, hst]
      rfl
    rw [e, row_bV] at k
    refine ⟨_, rfl, g.a, _, g.dx, _, _, rfl, hA.ward, T.Ward.cl, T.n_Ward_packets, rfl, _, rfl, nl, _, _, _, rfl, rfl, SqL.of hnl, rfl, g.lp, _, _, _, rfl, rfl, SqL.of hA.lp, pR_at hx, x.a, _, x.dx, _, _, rfl, hA.pkt hx, T.Packet.cl, T.n_Packet_octets, rfl, x.oc, _, rfl, hA.oct hx, ?_, fun p H' hp hs hq => ?_⟩
    · rw [bV_len]; omega
    · rw [bV_len] at hq
      exact k g p H' (hA.drop.drop.add hs hp hq) rfl rfl
theorem ok_look_at_totals (T : Txt K mg a) : FnOk P w K mg base CX0 1 a.f_look_at_totals a.d_look_at_totals p_look_at_totals (spHd a preY totalsS) := by
  refine T.look_at_totals.F.ok sc_look_at_totals (fun vs H Q E h => ?_) (fun cdv A outer s H vs Q E hr h => ?_)
  · obtain ⟨g, R, N, nl, rl, ns, rs, rfl, _⟩ := h
    rfl
  · obtain ⟨g, R, N, nl, rl, ns, rs, rfl, hA, hW, hN, _, k⟩ := h
    refine ⟨_, (pss_one (ps_ret (pe_lst (pa_cons (pe_fld (pv 0) rfl) (pa_cons (pe_fld (pv 0) rfl) (pa_cons (pe_fld (pv 0) rfl) (pa_cons (pe_fld (pv 0) rfl) pa_nil))))))), ?_⟩
    refine ⟨_, rfl, g.a, _, g.dx, _, _, rfl, hA.ward, T.Ward.cl, T.n_Ward_lost, rfl, _, rfl, g.a, _, g.dx, _, _, rfl, hA.ward, T.Ward.cl, T.n_Ward_bad, rfl, _, rfl, g.a, _, g.dx, _, _, rfl, hA.ward, T.Ward.cl, T.n_Ward_again, rfl, _, rfl, g.a, _, g.dx, _, _, rfl, hA.ward, T.Ward.cl, T.n_Ward_news, rfl, (by show 4 ≤ sizeLine; decide), fun p hp => ?_⟩
    exact k g p _ (hA.drop.drop.new hp) rfl rfl
theorem ok_look_at_sender (T : Txt K mg a) : FnOk P w K mg base CX0 1 a.f_look_at_sender a.d_look_at_sender p_look_at_sender (spHd a onMach senderS) := by
  refine T.look_at_sender.F.ok sc_look_at_sender (fun vs H Q E h => ?_) (fun cdv A outer s H vs Q E hr h => ?_)
  · obtain ⟨g, R, N, nl, rl, ns, rs, rfl, _⟩ := h
    rfl
  · obtain ⟨g, R, N, nl, rl, ns, rs, rfl, hA, hW, hN, ⟨i, rfl, hi⟩, k⟩ := h
    refine ⟨_, (pss_cons (ps_set (i := 3) sc_look_at_sender.nd rfl (Or.inl rfl) (pe_ix ix_list (pe_fld (pv 0) rfl) (pe_ix ix_list (pv 1) pe_int (fun _ _ => rfl)) (fun _ _ => rfl)))
      (pss_cons (ps_set (i := 4) sc_look_at_sender.nd rfl (Or.inl rfl) (pe_ifExp (pt_val (pe_fld (pv 3) rfl)) pe_int pe_int))
      (pss_one (ps_ret (pe_lst (pa_cons (pv 4) (pa_cons (pe_callB call_len_seq rfl T.b_len PySem.boot_len (pa_cons (pe_fld (pv 3) rfl) pa_nil)) (pa_cons (pe_fld (pv 3) rfl) (pa_cons (pe_fld (pv 3) rfl) (pa_cons (pe_fld (pv 3) rfl) (pa_cons (pe_fld (pv 3) rfl) pa_nil))))))))))), ?_⟩
    have hnl : H nl = some (.lst [.int i]) := hA.rest (p := (nl, _)) (by simp)
    obtain ⟨m, hm⟩ := getM (g := g) (i := i) (by rw [GW.mlen] at hi; exact hi)
    have hll : m.st.log.length = m.evs.length := by show (m.evs.map (·.2)).length = _; rw [List.length_map]
    have e : senderS g.st [(i : Int)] rs = (g.st, [Vbdlao.bit m.on, (m.evs.length : Int), (m.turn : Int), (m.acked : Int), (m.next : Int), (m.timer : Int)]) := by
      unfold senderS senderOf
      rw [show ([(i : Int)].headD 0).toNat = i from rfl, GW.machine_at hm, hll]
      rfl
    rw [e] at k
    have hmm := hA.mach hm
    refine ⟨_, rfl, g.a, _, g.dx, _, _, rfl, hA.ward, T.Ward.cl, T.n_Ward_machines, rfl, _, rfl, nl, _, _, _, rfl, rfl, SqL.of hnl, rfl, g.lm, _, _, _, rfl, rfl, SqL.of hA.lm, mR_at hm, ?_⟩
    have fin : ∀ z : Int, Vbdlao.bit m.on = z → ∀ (p : Addr), H p = none → Q (.ref p) (upd H p (.lst [.int z, .int ((evR m.evs).length : Nat), .int m.turn, .int m.acked, .int m.next, .int m.timer])) := fun z hz p hp => by
      rw [evR_len]
      subst hz
      exact k g p _ (hA.drop.drop.new hp) rfl rfl
    refine ⟨_, rfl, m.a, _, m.dx, _, _, rfl, hmm, T.Machine.cl, T.n_Machine_power, rfl, _, rfl, ifb (fun hon => ?_) fun hoff => ?_⟩
    · refine ⟨_, rfl, _, rfl, m.a, _, m.dx, _, _, rfl, hmm, T.Machine.cl, T.n_Machine_log, rfl, m.lg, _, rfl, .inl (SqL.of (hA.log hm)), _, rfl, m.a, _, m.dx, _, _, rfl, hmm, T.Machine.cl, T.n_Machine_turn, rfl, _, rfl, m.a, _, m.dx, _, _, rfl, hmm, T.Machine.cl, T.n_Machine_acked, rfl, _, rfl, m.a, _, m.dx, _, _, rfl, hmm, T.Machine.cl, T.n_Machine_next_place, rfl, _, rfl, m.a, _, m.dx, _, _, rfl, hmm, T.Machine.cl, T.n_Machine_timer, rfl, (by show 6 ≤ sizeLine; decide), ?_⟩
      exact fin 1 (by rw [hon]; rfl)
    · refine ⟨_, rfl, _, rfl, m.a, _, m.dx, _, _, rfl, hmm, T.Machine.cl, T.n_Machine_log, rfl, m.lg, _, rfl, .inl (SqL.of (hA.log hm)), _, rfl, m.a, _, m.dx, _, _, rfl, hmm, T.Machine.cl, T.n_Machine_turn, rfl, _, rfl, m.a, _, m.dx, _, _, rfl, hmm, T.Machine.cl, T.n_Machine_acked, rfl, _, rfl, m.a, _, m.dx, _, _, rfl, hmm, T.Machine.cl, T.n_Machine_next_place, rfl, _, rfl, m.a, _, m.dx, _, _, rfl, hmm, T.Machine.cl, T.n_Machine_timer, rfl, (by show 6 ≤ sizeLine; decide), ?_⟩
      exact fin 0 (by rw [hoff]; rfl)
end
end Nw
end
section
set_option Elab.async false
set_option linter.all false
set_option maxRecDepth 100000
set_option maxHeartbeats 2000000
namespace Nw
open PySem PySem.Spec PyProof.Rows L2
section
variable {P : Program} {w : World} {K : PySem.W.Frag} {mg : Str → Option Value} {base : Heap} {a : Adr}
def asN (l : List (Addr × Nat × Ev)) : List V := l.map fun t => V.int (t.2.1 : Nat)
theorem asR_get {l : List (Addr × Nat × Ev)} {j : Nat} {y : V} (h : (asR l)[j]? = some y) : ∃ t, l[j]? = some t ∧ y = .ref t.1 := by
  unfold asR at h
  rw [List.getElem?_map] at h
  cases q : l[j]? with
  | none => rw [q] at h; cases h
  | some x => rw [q] at h; exact ⟨x, rfl, (Option.some.inj h).symm⟩
theorem Wf.asFew {g : GW} {N : Nat} (h : Wf N g.st) {i : Nat} {d : GD} (hi : g.ds[i]? = some d) : d.asd.length ≤ 8 := by
  have h1 := (h.desk d.st (List.mem_map.mpr ⟨d, List.mem_of_getElem? hi, rfl⟩)).few
  have e2 : d.st.aside.length = d.asd.length := by show (d.asd.map _).length = _; rw [List.length_map]
  have := h.win
  omega
theorem ok_look_at_station (T : Txt K mg a) : FnOk P w K mg base CX0 2 a.f_look_at_station a.d_look_at_station p_look_at_station (spHd a onMach stationS) := by
  refine T.look_at_station.F.ok sc_look_at_station (fun vs H Q E h => ?_) (fun cdv A outer s H vs Q E hr h => ?_)
  · obtain ⟨g, R, N, nl, rl, ns, rs, rfl, _⟩ := h
    rfl
  · obtain ⟨g, R, N, nl, rl, ns, rs, rfl, hA, hW, hN, ⟨i, rfl, hi⟩, k⟩ := h
    refine ⟨_, (pss_cons (ps_set (i := 3) sc_look_at_station.nd rfl (Or.inl rfl) (pe_ix ix_list (pe_fld (pv 0) rfl) (pe_ix ix_list (pv 1) pe_int (fun _ _ => rfl)) (fun _ _ => rfl)))
      (pss_one (ps_ret (pe_op op_cat (pe_lst (pa_cons (pe_fld (pv 3) rfl) (pa_cons (pe_callB call_len_seq rfl T.b_len PySem.boot_len (pa_cons (pe_fld (pv 3) rfl) pa_nil)) pa_nil))) (pe_call (ok_counted T) (hr.mono (by decide)) rfl T.counted.mg T.counted.F.kp T.counted.b .nil pass0 (pa_cons (pe_lc (own := [("held", 4)]) rfl sc_look_at_station.nd (pi_list (pe_fld (pv 3) rfl)) (blkOk_by (show blkC n_look_at_station (defScope s_look_at_station) _ _ = true by decide +kernel)) (fun _ _ _ _ _ => (pg_name (i := 4) sc_look_at_station.nd rfl (Or.inl rfl))) (fun _ _ _ _ _ => pts_nil) (fun _ _ _ _ _ => (pe_ix (ix_tupK (K := K) rfl) (pv 4) pe_int (fun _ _ => rfl)))) pa_nil)))))), ?_⟩
    have hnl : H nl = some (.lst [.int i]) := hA.rest (p := (nl, _)) (by simp)
    obtain ⟨d, hd⟩ := getD' (g := g) (i := i) (by rw [hW.dlen]; rw [GW.mlen] at hi; exact hi)
    have h8 := hW.asFew hd
    have hn : asN d.asd = bV (d.st.aside.map fun x => x.1) := by
      show _ = bV ((d.asd.map fun t => (t.2.1, t.2.2.2)).map fun x => x.1)
      unfold asN bV
      rw [List.map_map, List.map_map]
      rfl
    have hnl' : (asN d.asd).length = d.asd.length := by unfold asN; rw [List.length_map]
    have e : (stationS g.st [(i : Int)] rs).2.map V.int = [V.int d.turn, V.int ((evR d.evs).length : Nat)] ++ (V.int ((asN d.asd).length : Nat) :: asN d.asd) := by
      unfold stationS stationOf
      rw [show ([(i : Int)].headD 0).toNat = i from rfl, GW.desk_at hd]
      show ([(d.turn : Int), ((d.st.copy.length : Nat) : Int)] ++ Vbdlao.row (d.st.aside.map fun x => x.1)).map V.int = _
      rw [List.map_append, row_bV, hn, bV_len, evR_len]
      show [V.int d.turn, V.int (((d.evs.map (·.2)).length : Nat) : Int)] ++ _ = _
      rw [List.length_map]
    rw [e] at k
    have hdd := hA.desk hd
    refine ⟨_, rfl, g.a, _, g.dx, _, _, rfl, hA.ward, T.Ward.cl, T.n_Ward_desks, rfl, _, rfl, nl, _, _, _, rfl, rfl, SqL.of hnl, rfl, g.ld, _, _, _, rfl, rfl, SqL.of hA.ld, dR_at hd, ?_⟩
    refine ⟨_, rfl, d.a, _, d.dx, _, _, rfl, hdd, T.Desk.cl, T.n_Desk_turn, rfl, _, rfl, d.a, _, d.dx, _, _, rfl, hdd, T.Desk.cl, T.n_Desk_copied, rfl, d.cp, _, rfl, .inl (SqL.of (hA.copy hd)), (by show 2 ≤ sizeLine; decide), fun p1 hp1 => ?_⟩
    have hA1 := hA.new (o := .lst [V.int d.turn, V.int ((evR d.evs).length : Nat)]) hp1
    refine ⟨_, rfl, d.a, _, d.dx, _, _, rfl, hA1.desk hd, T.Desk.cl, T.n_Desk_aside, rfl, d.ad, rfl, ⟨_, SqL.of (hA1.aside hd)⟩, fun D hD => ?_⟩
    refine lc_list (K := K) (a := d.ad) (xs := asR d.asd) (fun j H' => At a g ((D, .lst ((asN d.asd).take j)) :: (p1, .lst [V.int d.turn, V.int ((evR d.evs).length : Nat)]) :: (nl, .lst [.int i]) :: (rl, .lst (rs.map V.int)) :: R) H') (hA1.new hD) ?_ ?_ ?_
    · intro j H' _ hA2
      exact SqL.of (hA2.aside hd)
    · intro j y H' hj hA2
      obtain ⟨t, ht, rfl⟩ := asR_get hj
      have ht2 : (asN d.asd)[j]? = some (V.int (t.2.1 : Nat)) := by unfold asN; rw [List.getElem?_map, ht]; rfl
      have hjl : j < d.asd.length := (List.getElem?_eq_some_iff.mp ht).1
      refine ⟨rfl, ?_⟩
      dsimp only [tYes]
      rw [if_pos rfl]
      refine ⟨_, rfl, t.1, _, _, _, rfl, rfl, SqT.of (hA2.asTup hd ht), rfl, _, hA2.rest (p := (D, .lst ((asN d.asd).take j))) (by simp), ?_, ?_⟩
      · rw [List.length_take]
        exact Nat.lt_of_le_of_lt (Nat.min_le_left _ _) (Nat.lt_of_lt_of_le (show j < 9 by omega) (by decide))
      · rw [take_snoc ht2]
        exact hA2.putR
    · intro H' hA2
      have hal : (asR d.asd).length = (asN d.asd).length := by rw [hnl']; unfold asR; rw [List.length_map]
      rw [hal, List.take_length] at hA2
      refine ⟨D, _, rfl, hA2.rest (p := (D, .lst (asN d.asd))) (by simp), by rw [hnl']; omega, fun p2 H2 hp2 hs2 hq2 => ?_⟩
      have hA3 := hA2.add hs2 hp2 hq2
      refine ⟨p1, p2, _, _, rfl, rfl, hA3.rest (p := (p1, .lst [V.int d.turn, V.int ((evR d.evs).length : Nat)])) (by simp), hq2, ?_, fun p3 hp3 => ?_⟩
      · show 2 + ((asN d.asd).length + 1) ≤ sizeLine
        exact Nat.le_trans (show _ ≤ 20 by omega) (by decide)
      · exact k g p3 _ (hA3.drop.drop.drop.drop.drop.new hp3) rfl rfl
def netP (p : Vbdlao.Packet) : List Int := [Vbdlao.bit (!p.toStation), (p.m : Int), (p.bytes.length : Int)]
def netTo (l : List Vbdlao.Packet) (j : Nat) : List Int := (l.length : Int) :: (l.take j).flatMap netP
theorem netTo_succ {l : List Vbdlao.Packet} {j : Nat} {p : Vbdlao.Packet} (h : l[j]? = some p) : netTo l (j + 1) = netTo l j ++ netP p := by
  unfold netTo
  rw [take_snoc h, List.flatMap_append]
  show _ = _ :: (_ ++ _)
  rw [List.flatMap_cons, List.flatMap_nil, List.append_nil]
theorem netTo_len (l : List Vbdlao.Packet) (j : Nat) : (netTo l j).length ≤ 3 * l.length + 1 := by
  unfold netTo
  rw [List.length_cons, flat3 netP (fun _ => rfl), List.length_take]
  have := Nat.min_le_right j l.length
  omega
theorem netP_V (p : GP) : (netP p.st).map V.int = [dirV p.toS, V.int (p.m : Nat), V.int (p.b.length : Nat)] := by
  unfold netP dirV
  show [V.int (Vbdlao.bit (!p.toS)), _, _] = _
  cases p.toS <;> rfl
theorem pR_get {l : List GP} {j : Nat} {y : V} (h : (pR l)[j]? = some y) : ∃ t, l[j]? = some t ∧ y = .ref t.a := by
  unfold pR at h
  rw [List.getElem?_map] at h
  cases q : l[j]? with
  | none => rw [q] at h; cases h
  | some x => rw [q] at h; exact ⟨x, rfl, (Option.some.inj h).symm⟩
theorem ok_look_at_net (T : Txt K mg a) : FnOk P w K mg base CX0 1 a.f_look_at_net a.d_look_at_net p_look_at_net (spHd a preY netS) := by
  refine T.look_at_net.F.ok sc_look_at_net (fun vs H Q E h => ?_) (fun cdv A outer s H vs Q E hr h => ?_)
  · obtain ⟨g, R, N, nl, rl, ns, rs, rfl, _⟩ := h
    rfl
  · obtain ⟨g, R, N, nl, rl, ns, rs, rfl, hA, hW, hN, _, k⟩ := h
    refine ⟨_, (pss_cons (ps_set (i := 3) sc_look_at_net.nd rfl (Or.inl rfl) (pe_lst (pa_cons (pe_callB call_len_seq rfl T.b_len PySem.boot_len (pa_cons (pe_fld (pv 0) rfl) pa_nil)) pa_nil)))
      (pss_cons (ps_for PassesOwn.never rfl (pi_list (pe_fld (pv 0) rfl)) (pg_name (i := 4) sc_look_at_net.nd rfl (Or.inl rfl)) (pss_one (ps_expr (pe_bm PySem.F.plainAttrs_list PySem.F.slot_list_extend PySem.F.type_list_extend mt_extend (pv 3) (pa_cons (pe_lst (pa_cons (pe_fld (pv 4) rfl) (pa_cons (pe_fld (pv 4) rfl) (pa_cons (pe_callB call_len_seq rfl T.b_len PySem.boot_len (pa_cons (pe_fld (pv 4) rfl) pa_nil)) pa_nil)))) pa_nil)))))
      (pss_one (ps_ret (pv 3))))), ?_⟩
    have h200 : g.st.net.length ≤ 200 := hW.net
    have e : netS g.st ns rs = (g.st, netTo g.st.net g.st.net.length) := by
      unfold netS netTo
      rw [List.take_length]
      rfl
    rw [e] at k
    refine ⟨_, rfl, g.a, _, g.dx, _, _, rfl, hA.ward, T.Ward.cl, T.n_Ward_packets, rfl, g.lp, _, rfl, .inl (SqL.of hA.lp), (by show 1 ≤ sizeLine; decide), fun p hp => ?_⟩
    have hA1 := hA.new (o := .lst [V.int ((pR g.ps).length : Nat)]) hp
    refine ⟨_, rfl, g.a, _, g.dx, _, _, rfl, hA1.ward, T.Ward.cl, T.n_Ward_packets, rfl, g.lp, rfl, ⟨_, SqL.of hA1.lp⟩, ?_⟩
    refine for_list (K := K) (a := g.lp) (xs := pR g.ps) (fun j σ H' => ∃ v, At a g ((p, .lst ((netTo g.st.net j).map V.int)) :: (nl, .lst (ns.map V.int)) :: (rl, .lst (rs.map V.int)) :: R) H' ∧ σ = [some (.ref g.a), some (.ref nl), some (.ref rl), some (.ref p), v]) ⟨none, ?_, rfl⟩ ?_ ?_ ?_
    · rw [pR_len, ← GW.nlen] at hA1 ⊢
      exact hA1
    · rintro j σ H' _ ⟨v, hA2, _⟩
      exact SqL.of hA2.lp
    · rintro j y σ H' hj ⟨v, hA2, rfl⟩
      obtain ⟨x, hx, rfl⟩ := pR_get hj
      have hst : g.st.net[j]? = some x.st := by show (g.ps.map GP.st)[j]? = _; rw [List.getElem?_map, hx]; rfl
      have hpk := hA2.pkt hx
      have hpl := hA2.rest (p := (p, .lst ((netTo g.st.net j).map V.int))) (by simp)
      refine ⟨_, rfl, .inl ⟨rfl, _, SqL.of hpl⟩, _, rfl, x.a, _, x.dx, _, _, rfl, hpk, T.Packet.cl, T.n_Packet_goes_to, rfl, _, rfl, x.a, _, x.dx, _, _, rfl, hpk, T.Packet.cl, T.n_Packet_machine, rfl, _, rfl, x.a, _, x.dx, _, _, rfl, hpk, T.Packet.cl, T.n_Packet_octets, rfl, x.oc, _, rfl, .inl (SqL.of (hA2.oct hx)), (by show 3 ≤ sizeLine; decide), fun q hq => ?_⟩
      have hA3 := hA2.new (o := .lst [dirV x.toS, V.int (x.m : Nat), V.int ((bV x.b).length : Nat)]) hq
      refine ⟨p, q, _, _, rfl, rfl, hA3.rest (p := (p, .lst ((netTo g.st.net j).map V.int))) (by simp), upd_same, ?_, ?_⟩
      · rw [List.length_map]
        have := netTo_len g.st.net j
        show (netTo g.st.net j).length + 3 ≤ sizeLine
        exact Nat.le_trans (show _ ≤ 604 by omega) (by decide)
      · refine ⟨some (.ref x.a), ?_, rfl⟩
        rw [netTo_succ hst, List.map_append, netP_V]
        rw [bV_len] at hA3 ⊢
        exact ((hA3.perm (List.Perm.swap ..)).putR.perm (List.Perm.swap ..)).drop
    · rintro σ H' ⟨v, hA2, rfl⟩
      refine ⟨_, rfl, ?_⟩
      rw [pR_len, ← GW.nlen] at hA2
      exact k g p H' hA2.keep1 rfl rfl
end
end Nw
end
section
set_option Elab.async false
set_option linter.all false
set_option maxRecDepth 100000
set_option maxHeartbeats 2000000
namespace Nw
open PySem PySem.Spec PyProof.Rows L2
section
variable {P : Program} {w : World} {K : PySem.W.Frag} {mg : Str → Option Value} {base : Heap} {a : Adr}
def sp_event_at : Sp := fun vs H Q _ => ∃ (l : Addr) (evs : List Ev) (j : Nat), vs = [.ref l, .int (j : Nat)] ∧ H l = some (.lst (evR evs)) ∧ (∀ e ∈ evs, H e.1 = some (.lst (bV e.2)) ∧ e.2.length ≤ 16) ∧ newL H ((evOf (evs.map (·.2)) j).map V.int) Q
theorem ok_event_at (T : Txt K mg a) : FnOk P w K mg base CX0 2 a.f_event_at a.d_event_at p_event_at sp_event_at := by
  refine T.event_at.F.ok sc_event_at (fun vs H Q E h => ?_) (fun cdv A outer s H vs Q E hr h => ?_)
  · obtain ⟨l, evs, j, rfl, _⟩ := h
    rfl
  · obtain ⟨l, evs, j, rfl, hl, hev, k⟩ := h
    refine ⟨_, (pss_cons (ps_if (pt_cmpR op_ge (pv 1) (pe_callB call_len_seq rfl T.b_len PySem.boot_len (pa_cons (pv 0) pa_nil)) (nomark _)) (pss_one (ps_ret (pe_lst (pa_cons (pe_gint rfl T.c_NO_EVENT) pa_nil)))) pss_nil)
      (pss_one (ps_ret (pe_call (ok_counted T) (hr.mono (by decide)) rfl T.counted.mg T.counted.F.kp T.counted.b .nil pass0 (pa_cons (pe_ix ix_list (pv 0) (pv 1) (fun _ _ => rfl)) pa_nil))))), ?_⟩
    refine ⟨_, rfl, _, rfl, l, _, rfl, .inl (SqL.of hl), _, _, rfl, rfl, _, rfl, ?_⟩
    rw [evR_len]
    unfold evOf at k
    rw [List.getElem?_map] at k
    refine ifc (fun hge => ?_) fun hlt => ?_
    · rw [List.getElem?_eq_none (show evs.length ≤ j by omega)] at k
      refine ⟨(by show 1 ≤ sizeLine; decide), fun p hp => ?_⟩
      exact k p _ hp (Same.new hp) upd_same
    · have hj : j < evs.length := by omega
      have he : evs[j]? = some evs[j] := List.getElem?_eq_getElem hj
      rw [he] at k
      obtain ⟨h1, h2⟩ := hev _ (List.getElem_mem hj)
      refine ⟨_, rfl, _, rfl, l, _, _, _, rfl, rfl, SqL.of hl, evR_at he, _, _, rfl, h1, by rw [bV_len]; omega, ?_⟩
      have k' : newL H ((Vbdlao.row (evs[j]).2).map V.int) Q := k
      rw [row_bV] at k'
      rw [bV_len]
      exact k'
theorem ok_look_at_copy (T : Txt K mg a) : FnOk P w K mg base CX0 3 a.f_look_at_copy a.d_look_at_copy p_look_at_copy (spHd a onMJ copyS) := by
  refine T.look_at_copy.F.ok sc_look_at_copy (fun vs H Q E h => ?_) (fun cdv A outer s H vs Q E hr h => ?_)
  · obtain ⟨g, R, N, nl, rl, ns, rs, rfl, _⟩ := h
    rfl
  · obtain ⟨g, R, N, nl, rl, ns, rs, rfl, hA, hW, hN, ⟨i, j, rfl, hi, hj⟩, k⟩ := h
    refine ⟨_, (pss_one (ps_ret (pe_call (ok_event_at T) (hr.mono (by decide)) rfl T.event_at.mg T.event_at.F.kp T.event_at.b .nil pass0 (pa_cons (pe_fld (pe_ix ix_list (pe_fld (pv 0) rfl) (pe_ix ix_list (pv 1) pe_int (fun _ _ => rfl)) (fun _ _ => rfl)) rfl) (pa_cons (pe_ix ix_list (pv 1) pe_int (fun _ _ => rfl)) pa_nil))))), ?_⟩
    have hnl : H nl = some (.lst [.int i, .int j]) := hA.rest (p := (nl, _)) (by simp)
    obtain ⟨d, hd⟩ := getD' (g := g) (i := i) (by rw [hW.dlen]; rw [GW.mlen] at hi; exact hi)
    have e : copyS g.st [(i : Int), (j : Int)] rs = (g.st, evOf (d.evs.map (·.2)) j) := by
      unfold copyS
      rw [show ([(i : Int), (j : Int)].headD 0).toNat = i from rfl, GW.desk_at hd]
      rfl
    rw [e] at k
    have hcp := (hW.desk d.st (List.mem_map.mpr ⟨d, List.mem_of_getElem? hd, rfl⟩)).cpy
    refine ⟨_, rfl, g.a, _, g.dx, _, _, rfl, hA.ward, T.Ward.cl, T.n_Ward_desks, rfl, _, rfl, nl, _, _, _, rfl, rfl, SqL.of hnl, rfl, g.ld, _, _, _, rfl, rfl, SqL.of hA.ld, dR_at hd, d.a, _, d.dx, _, _, rfl, hA.desk hd, T.Desk.cl, T.n_Desk_copied, rfl, _, rfl, nl, _, _, _, rfl, rfl, SqL.of hnl, rfl, d.cp, d.evs, j, rfl, hA.copy hd, fun x hx => ?_, fun p H' hp hs hq => ?_⟩
    · obtain ⟨n, hn, e1⟩ := List.getElem_of_mem hx
      have hx' : d.evs[n]? = some x := by rw [List.getElem?_eq_getElem hn, e1]
      exact ⟨hA.copyEv hd hx', hcp x.2 (List.mem_map.mpr ⟨x, hx, rfl⟩)⟩
    · exact k g p H' (hA.drop.drop.add hs hp hq) rfl rfl
theorem ok_look_at_event (T : Txt K mg a) : FnOk P w K mg base CX0 3 a.f_look_at_event a.d_look_at_event p_look_at_event (spHd a onMJ eventS) := by
  refine T.look_at_event.F.ok sc_look_at_event (fun vs H Q E h => ?_) (fun cdv A outer s H vs Q E hr h => ?_)
  · obtain ⟨g, R, N, nl, rl, ns, rs, rfl, _⟩ := h
    rfl
  · obtain ⟨g, R, N, nl, rl, ns, rs, rfl, hA, hW, hN, ⟨i, j, rfl, hi, hj⟩, k⟩ := h
    refine ⟨_, (pss_one (ps_ret (pe_call (ok_event_at T) (hr.mono (by decide)) rfl T.event_at.mg T.event_at.F.kp T.event_at.b .nil pass0 (pa_cons (pe_fld (pe_ix ix_list (pe_fld (pv 0) rfl) (pe_ix ix_list (pv 1) pe_int (fun _ _ => rfl)) (fun _ _ => rfl)) rfl) (pa_cons (pe_ix ix_list (pv 1) pe_int (fun _ _ => rfl)) pa_nil))))), ?_⟩
    have hnl : H nl = some (.lst [.int i, .int j]) := hA.rest (p := (nl, _)) (by simp)
    obtain ⟨d, hd⟩ := getM (g := g) (i := i) (by rw [GW.mlen] at hi; exact hi)
    have e : eventS g.st [(i : Int), (j : Int)] rs = (g.st, evOf (d.evs.map (·.2)) j) := by
      unfold eventS
      rw [show ([(i : Int), (j : Int)].headD 0).toNat = i from rfl, GW.machine_at hd]
      rfl
    rw [e] at k
    have hcp := (hW.logM hd).2
    refine ⟨_, rfl, g.a, _, g.dx, _, _, rfl, hA.ward, T.Ward.cl, T.n_Ward_machines, rfl, _, rfl, nl, _, _, _, rfl, rfl, SqL.of hnl, rfl, g.lm, _, _, _, rfl, rfl, SqL.of hA.lm, mR_at hd, d.a, _, d.dx, _, _, rfl, hA.mach hd, T.Machine.cl, T.n_Machine_log, rfl, _, rfl, nl, _, _, _, rfl, rfl, SqL.of hnl, rfl, d.lg, d.evs, j, rfl, hA.log hd, fun x hx => ?_, fun p H' hp hs hq => ?_⟩
    · obtain ⟨n, hn, e1⟩ := List.getElem_of_mem hx
      have hx' : d.evs[n]? = some x := by rw [List.getElem?_eq_getElem hn, e1]
      exact ⟨hA.logEv hd hx', hcp x hx⟩
    · exact k g p H' (hA.drop.drop.add hs hp hq) rfl rfl
theorem ok_look_whether_whole (T : Txt K mg a) : FnOk P w K mg base CX0 1 a.f_look_whether_whole a.d_look_whether_whole p_look_whether_whole (spHd a onMach wholeS) := by
  refine T.look_whether_whole.F.ok sc_look_whether_whole (fun vs H Q E h => ?_) (fun cdv A outer s H vs Q E hr h => ?_)
  · obtain ⟨g, R, N, nl, rl, ns, rs, rfl, _⟩ := h
    rfl
  · obtain ⟨g, R, N, nl, rl, ns, rs, rfl, hA, hW, hN, ⟨i, rfl, hi⟩, k⟩ := h
    refine ⟨_, (pss_cons (ps_if (pt_cmpR (op_eqD hr.units) (pe_fld (pe_ix ix_list (pe_fld (pv 0) rfl) (pe_ix ix_list (pv 1) pe_int (fun _ _ => rfl)) (fun _ _ => rfl)) rfl) (pe_fld (pe_ix ix_list (pe_fld (pv 0) rfl) (pe_ix ix_list (pv 1) pe_int (fun _ _ => rfl)) (fun _ _ => rfl)) rfl) (nomark _)) (pss_one (ps_ret (pe_lst (pa_cons pe_int pa_nil)))) pss_nil)
      (pss_one (ps_ret (pe_lst (pa_cons pe_int pa_nil))))), ?_⟩
    have hnl : H nl = some (.lst [.int i]) := hA.rest (p := (nl, _)) (by simp)
    obtain ⟨m, hm⟩ := getM (g := g) (i := i) (by rw [GW.mlen] at hi; exact hi)
    obtain ⟨d, hd⟩ := getD' (g := g) (i := i) (by rw [hW.dlen]; rw [GW.mlen] at hi; exact hi)
    have e : wholeS g.st [(i : Int)] rs = (g.st, [Vbdlao.bit ((d.evs.map (·.2)) == (m.evs.map (·.2)))]) := by
      unfold wholeS
      rw [show ([(i : Int)].headD 0).toNat = i from rfl, GW.desk_at hd, GW.machine_at hm]
      rfl
    rw [e] at k
    have h1 : ∀ x ∈ d.evs, H x.1 = some (.lst (bV x.2)) := fun x hx => by
      obtain ⟨n, hn, e1⟩ := List.getElem_of_mem hx
      exact hA.copyEv hd (j := n) (by rw [List.getElem?_eq_getElem hn, e1])
    have h2 : ∀ x ∈ m.evs, H x.1 = some (.lst (bV x.2)) := fun x hx => by
      obtain ⟨n, hn, e1⟩ := List.getElem_of_mem hx
      exact hA.logEv hm (j := n) (by rw [List.getElem?_eq_getElem hn, e1])
    refine ⟨_, rfl, g.a, _, g.dx, _, _, rfl, hA.ward, T.Ward.cl, T.n_Ward_desks, rfl, _, rfl, nl, _, _, _, rfl, rfl, SqL.of hnl, rfl, g.ld, _, _, _, rfl, rfl, SqL.of hA.ld, dR_at hd, d.a, _, d.dx, _, _, rfl, hA.desk hd, T.Desk.cl, T.n_Desk_copied, rfl,
      _, rfl, g.a, _, g.dx, _, _, rfl, hA.ward, T.Ward.cl, T.n_Ward_machines, rfl, _, rfl, nl, _, _, _, rfl, rfl, SqL.of hnl, rfl, g.lm, _, _, _, rfl, rfl, SqL.of hA.lm, mR_at hm, m.a, _, m.dx, _, _, rfl, hA.mach hm, T.Machine.cl, T.n_Machine_log, rfl,
      _, _, dp_list (hA.copy hd) h1, dp_list (hA.log hm) h2, shaped_e _, shaped_e _, _, rfl, ?_⟩
    rw [eqv_eq]
    refine ifb (fun hy => ?_) fun hn => ?_
    · rw [hy] at k
      refine ⟨(by show 1 ≤ sizeLine; decide), fun p hp => ?_⟩
      exact k g p _ (hA.drop.drop.new hp) rfl rfl
    · rw [hn] at k
      refine ⟨(by show 1 ≤ sizeLine; decide), fun p hp => ?_⟩
      exact k g p _ (hA.drop.drop.new hp) rfl rfl
theorem ok_look_at_frame (T : Txt K mg a) : FnOk P w K mg base CX0 5 a.f_look_at_frame a.d_look_at_frame p_look_at_frame (spHd a preF frameS) := by
  refine T.look_at_frame.F.ok sc_look_at_frame (fun vs H Q E h => ?_) (fun cdv A outer s H vs Q E hr h => ?_)
  · obtain ⟨g, R, N, nl, rl, ns, rs, rfl, _⟩ := h
    rfl
  · obtain ⟨g, R, N, nl, rl, ns, rs, rfl, hA, hW, hN, ⟨hlen, hby⟩, k⟩ := h
    refine ⟨_, (pss_cons (ps_set (i := 3) sc_look_at_frame.nd rfl (Or.inl rfl) (pe_call (ok_check_of T) (hr.mono (by decide)) rfl T.check_of.mg T.check_of.F.kp T.check_of.b .nil pass0 (pa_cons (pv 2) pa_nil)))
      (pss_cons (ps_set (i := 4) sc_look_at_frame.nd rfl (Or.inl rfl) (pe_call (ok_read_frame T) (hr.mono (by decide)) rfl T.read_frame.mg T.read_frame.F.kp T.read_frame.b .nil pass0 (pa_cons (pv 2) pa_nil)))
      (pss_cons (ps_if (pt_cmp (pc_isN (pv 4))) (pss_one (ps_ret (pe_lst (pa_cons (pv 3) (pa_cons (pe_gint rfl T.c_IS_NO_FRAME) pa_nil))))) pss_nil)
      (pss_cons (ps_if (pt_cmpR op_eq (pe_ix ix_tup (pv 4) pe_int (fun _ _ => rfl)) (pe_gint rfl T.c_DATA) (nomark _)) (pss_one (ps_ret (pe_op op_cat (pe_lst (pa_cons (pv 3) (pa_cons (pe_gint rfl T.c_IS_DATA) (pa_cons (pe_ix ix_tup (pv 4) pe_int (fun _ _ => rfl)) (pa_cons (pe_ix ix_tup (pv 4) pe_int (fun _ _ => rfl)) pa_nil))))) (pe_call (ok_counted T) (hr.mono (by decide)) rfl T.counted.mg T.counted.F.kp T.counted.b .nil pass0 (pa_cons (pe_ix ix_tup (pv 4) pe_int (fun _ _ => rfl)) pa_nil))))) pss_nil)
      (pss_cons (ps_if (pt_cmpR op_eq (pe_ix ix_tup (pv 4) pe_int (fun _ _ => rfl)) (pe_gint rfl T.c_ACK) (nomark _)) (pss_one (ps_ret (pe_lst (pa_cons (pv 3) (pa_cons (pe_gint rfl T.c_IS_ACK) (pa_cons (pe_ix ix_tup (pv 4) pe_int (fun _ _ => rfl)) (pa_cons (pe_ix ix_tup (pv 4) pe_int (fun _ _ => rfl)) (pa_cons (pe_ix ix_tup (pv 4) pe_int (fun _ _ => rfl)) pa_nil)))))))) pss_nil)
      (pss_one (ps_ret (pe_lst (pa_cons (pv 3) (pa_cons (pe_gint rfl T.c_IS_ASK) (pa_cons (pe_ix ix_tup (pv 4) pe_int (fun _ _ => rfl)) pa_nil))))))))))), ?_⟩
    have hb : (rs.map Int.toNat).length ≤ 1000000 := by rw [List.length_map]; omega
    have hrl : H rl = some (.lst (bV (rs.map Int.toNat))) := by
      have h2 := hA.rest (p := (rl, .lst (rs.map V.int))) (by simp)
      rw [bV_ints hby] at h2
      exact h2
    unfold frameS at k
    generalize rs.map Int.toNat = b at hb hrl k
    refine ⟨_, rfl, rl, b, rfl, SqL.of hrl, hb, fun H1 s1 => ?_⟩
    have hA1 := hA.same s1
    refine ⟨_, rfl, rl, b, rfl, SqL.of (s1 _ _ hrl), hb, ?_⟩
    cases hf : Vbdlao.frameOf b with
    | none =>
      rw [hf] at k
      refine fun H2 s2 => ?_
      have hA2 := hA1.same s2
      refine ⟨_, rfl, _, rfl, ifT rfl ?_⟩
      refine ⟨_, rfl, (by show 2 ≤ sizeLine; decide), fun p hp => ?_⟩
      exact k g p _ (hA2.drop.drop.new hp) rfl rfl
    | some f =>
      rw [hf] at k
      refine fun t H2 s2 hn => ?_
      have hA2 := hA1.same s2
      refine ⟨_, rfl, _, rfl, ifF (by intro z; cases z) ?_⟩
      cases f with
      | data m i e =>
        obtain ⟨l, ht, hl, hl0⟩ := hn
        have he : e.length ≤ 16 := frame_small hf
        refine ⟨_, rfl, t, _, _, _, rfl, rfl, SqT.of ht, rfl, rfl, _, rfl, ifT rfl ?_⟩
        refine ⟨_, rfl, _, rfl, t, _, _, _, rfl, rfl, SqT.of ht, rfl, _, rfl, t, _, _, _, rfl, rfl, SqT.of ht, rfl, (by show 4 ≤ sizeLine; decide), fun p1 hp1 => ?_⟩
        have ht1 := (Same.new (o := .lst [V.int (Vbdlao.check b : Nat), V.int 1, V.int (m : Nat), V.int (i : Nat)]) hp1) _ _ ht
        have hl1 := (Same.new (o := .lst [V.int (Vbdlao.check b : Nat), V.int 1, V.int (m : Nat), V.int (i : Nat)]) hp1) _ _ hl
        have hA3 := hA2.new (o := .lst [V.int (Vbdlao.check b : Nat), V.int 1, V.int (m : Nat), V.int (i : Nat)]) hp1
        refine ⟨_, rfl, t, _, _, _, rfl, rfl, SqT.of ht1, rfl, l, _, rfl, hl1, by rw [bV_len]; omega, fun p2 H3 hp2 hs2 hq2 => ?_⟩
        have hA4 := hA3.add hs2 hp2 hq2
        refine ⟨p1, p2, _, _, rfl, rfl, hA4.rest (p := (p1, .lst [V.int (Vbdlao.check b : Nat), V.int 1, V.int (m : Nat), V.int (i : Nat)])) (by simp), hq2, ?_, fun p3 hp3 => ?_⟩
        · show 4 + ((bV e).length + 1) ≤ sizeLine
          rw [bV_len]
          exact Nat.le_trans (show _ ≤ 30 by omega) (by decide)
        · have e1 : (([(1 : Int), (m : Int), (i : Int)] ++ Vbdlao.row e).map V.int) = [V.int 1, V.int (m : Nat), V.int (i : Nat)] ++ (V.int ((bV e).length : Nat) :: bV e) := by
            rw [List.map_append, row_bV, bV_len]
            rfl
          have k2 : ∀ (g' : GW) (p : Addr) (H' : Hp), At a g' ((p, .lst (V.int (Vbdlao.check b : Nat) :: ([(1 : Int), (m : Int), (i : Int)] ++ Vbdlao.row e).map V.int)) :: R) H' → g'.a = g.a → g'.st = g.st → Q (.ref p) H' := k
          rw [e1] at k2
          exact k2 g p3 _ (hA4.drop.drop.drop.drop.new hp3) rfl rfl
      | ack m u n =>
        have ht : H2 t = some (.tup [.int 65, .int m, .int u, .int n]) := hn
        refine ⟨_, rfl, t, _, _, _, rfl, rfl, SqT.of ht, rfl, rfl, _, rfl, ifF (by intro z; cases z) ?_⟩
        refine ⟨_, rfl, t, _, _, _, rfl, rfl, SqT.of ht, rfl, rfl, _, rfl, ifT rfl ?_⟩
        refine ⟨_, rfl, _, rfl, t, _, _, _, rfl, rfl, SqT.of ht, rfl, _, rfl, t, _, _, _, rfl, rfl, SqT.of ht, rfl, _, rfl, t, _, _, _, rfl, rfl, SqT.of ht, rfl, (by show 5 ≤ sizeLine; decide), fun p hp => ?_⟩
        exact k g p _ (hA2.drop.drop.new hp) rfl rfl
      | ask m =>
        have ht : H2 t = some (.tup [.int 72, .int m]) := hn
        refine ⟨_, rfl, t, _, _, _, rfl, rfl, SqT.of ht, rfl, rfl, _, rfl, ifF (by intro z; cases z) ?_⟩
        refine ⟨_, rfl, t, _, _, _, rfl, rfl, SqT.of ht, rfl, rfl, _, rfl, ifF (by intro z; cases z) ?_⟩
        refine ⟨_, rfl, _, rfl, t, _, _, _, rfl, rfl, SqT.of ht, rfl, (by show 3 ≤ sizeLine; decide), fun p hp => ?_⟩
        exact k g p _ (hA2.drop.drop.new hp) rfl rfl
end
end Nw
end
section
set_option Elab.async false
set_option linter.all false
set_option maxRecDepth 100000
set_option maxHeartbeats 2000000
namespace Nw
open PySem PySem.Spec PyProof.Rows L2
theorem pR_get' {l : List GP} {j : Nat} {y : V} (h : (pR l)[j]? = some y) : ∃ t, l[j]? = some t ∧ y = .ref t.a := by
  unfold pR at h
  rw [List.getElem?_map] at h
  cases q : l[j]? with
  | none => rw [q] at h; cases h
  | some x => rw [q] at h; exact ⟨x, rfl, (Option.some.inj h).symm⟩
theorem dR_get {l : List GD} {j : Nat} {y : V} (h : (dR l)[j]? = some y) : ∃ t, l[j]? = some t ∧ y = .ref t.a := by
  unfold dR at h
  rw [List.getElem?_map] at h
  cases q : l[j]? with
  | none => rw [q] at h; cases h
  | some x => rw [q] at h; exact ⟨x, rfl, (Option.some.inj h).symm⟩
theorem all_snoc (s : Vbdlao.St) (l : List Vbdlao.Packet) (p : Vbdlao.Packet) : Vbdlao.arriveAll s (l ++ [p]) = (Vbdlao.arrive (Vbdlao.arriveAll s l) p).1 := by
  unfold Vbdlao.arriveAll
  rw [List.foldl_append]
  rfl
section
variable {P : Program} {w : World} {K : PySem.W.Frag} {mg : Str → Option Value} {base : Heap} {a : Adr}
def sp_calm_round (a : Adr) : Sp := fun vs H Q _ => ∃ (g : GW) (R : List Fact) (N : Nat), vs = [.ref g.a] ∧ At a g R H ∧ Wf N g.st ∧ N + 200 ≤ 10000000 ∧ ∀ (g' : GW) (H' : Hp), At a g' R H' → Keep g g' → g'.st = Vbdlao.calmRound g.st → Q .non H'
theorem ok_calm_round (T : Txt K mg a) : FnOk P w K mg base CX0 9 a.f_calm_round a.d_calm_round p_calm_round (sp_calm_round a) := by
  refine T.calm_round.F.ok sc_calm_round (fun vs H Q E h => ?_) (fun cdv A outer s H vs Q E hr h => ?_)
  · obtain ⟨g, R, N, rfl, _⟩ := h
    rfl
  · obtain ⟨g, R, N, rfl, hA, hW, hN, k⟩ := h
    refine ⟨_, (pss_cons (ps_expr (pe_call (ok_tick T) (hr.mono (by decide)) rfl T.tick.mg T.tick.F.kp T.tick.b .nil pass0 (pa_cons (pv 0) pa_nil)))
      (pss_cons (ps_set (i := 1) sc_calm_round.nd rfl (Or.inl rfl) (pe_fld (pv 0) rfl))
      (pss_cons (ps_fld (pv 0) (pe_lst pa_nil) rfl)
      (pss_one (ps_for PassesOwn.never rfl (pi_list (pv 1)) (pg_name (i := 2) sc_calm_round.nd rfl (Or.inl rfl)) (pss_one (ps_expr (pe_call (ok_arrive T) (hr.mono (by decide)) rfl T.arrive.mg T.arrive.F.kp T.arrive.b .nil pass0 (pa_cons (pv 0) (pa_cons (pv 2) pa_nil)))))))))), ?_⟩
    refine ⟨_, rfl, g, R, N, rfl, hA, hW, fun g1 H1 hA1 hK1 hst1 => ?_⟩
    have hW1 := hW.tick.1
    rw [← hst1] at hW1
    have ek : Vbdlao.calmRound g.st = Vbdlao.arriveAll { g1.st with net := [] } g1.st.net := by rw [hst1]; rfl
    rw [ek] at k
    have hw1 : H1 g.a = some (.ins a.c_Ward g1.dx g1.fl) := by rw [← hK1.a]; exact hA1.ward
    refine ⟨_, rfl, g.a, _, g1.dx, _, _, rfl, hw1, T.Ward.cl, T.n_Ward_packets, rfl, ?_⟩
    refine ⟨Nat.zero_le _, fun l hl => ?_⟩
    have hA2 := hA1.new (o := .lst []) hl
    have hw2 : (upd H1 l (.lst [])) g.a = some (.ins a.c_Ward g1.dx g1.fl) := by rw [← hK1.a]; exact hA2.ward
    refine ⟨_, rfl, g.a, _, g1.dx, _, rfl, hw2, T.Ward.cl, T.n_Ward_packets, (by show 9 < 1000; decide), ?_⟩
    have hA3 := hA2.takeAll
    rw [hK1.a] at hA3
    refine ⟨_, rfl, g1.lp, rfl, ⟨_, SqL.of (hA3.rest (p := (g1.lp, .lst (pR g1.ps))) (by simp))⟩, ?_⟩
    have hnet : g1.st.net.length ≤ 200 := hW1.net
    have hpk : ∀ p ∈ g1.st.net, p.m < g1.st.machines.length ∧ p.bytes.length ≤ 25 := hW1.pkt
    refine for_list (K := K) (a := g1.lp) (xs := pR g1.ps) (fun j σ H' => ∃ (g2 : GW) (v : Option V), At a g2 ((g1.lp, .lst (pR g1.ps)) :: ((g1.ps.drop j).flatMap (GP.fs a) ++ R)) H' ∧ Keep g g2 ∧ g2.st = Vbdlao.arriveAll { g1.st with net := [] } (g1.st.net.take j) ∧
      σ = [some (.ref g.a), some (.ref g1.lp), v]) ⟨_, none, hA3, ⟨rfl, hK1.m, hK1.d⟩, rfl, rfl⟩ ?_ ?_ ?_
    · rintro j σ H' _ ⟨g2, v, hA4, _⟩
      exact SqL.of (hA4.rest (p := (g1.lp, _)) (by simp))
    · rintro j y σ H' hj ⟨g2, v, hA4, hK4, hst4, rfl⟩
      obtain ⟨x, hx, rfl⟩ := pR_get' hj
      have hxs : g1.st.net[j]? = some x.st := by show (g1.ps.map GP.st)[j]? = _; rw [List.getElem?_map, hx]; rfl
      have hjl : j < g1.ps.length := (List.getElem?_eq_some_iff.mp hx).1
      have hW4 := (Wf.arriveAll (g1.st.net.take j) hW1.clearNet fun p hp => (hpk p (List.mem_of_mem_take hp)).1)
      rw [← hst4] at hW4
      have hxp := hpk x.st (List.mem_of_getElem? hxs)
      have ed : g1.ps.drop j = x :: g1.ps.drop (j + 1) := by
        rw [List.drop_eq_getElem_cons hjl]
        rw [(List.getElem?_eq_some_iff.mp hx).2]
      rw [ed] at hA4
      have hA5 : At a g2 (x.fs a ++ ((g1.lp, .lst (pR g1.ps)) :: ((g1.ps.drop (j + 1)).flatMap (GP.fs a) ++ R))) H' := by
        refine hA4.perm ?_
        show List.Perm ([(g1.lp, HO.lst (pR g1.ps))] ++ ((x.fs a ++ (g1.ps.drop (j + 1)).flatMap (GP.fs a)) ++ R)) (x.fs a ++ ([(g1.lp, HO.lst (pR g1.ps))] ++ ((g1.ps.drop (j + 1)).flatMap (GP.fs a) ++ R)))
        rw [List.append_assoc]
        exact pcomm
      refine ⟨_, rfl, _, rfl, g2, _, x, N + (g1.st.net.take j).length, by rw [hK4.a]; rfl, hA5, hW4.1, ?_, ?_, hxp.2, fun g' H2 hA' hK' hst' => ⟨g', some (.ref x.a), hA', hK4.trans hK', ?_, rfl⟩⟩
      · have := Nat.min_le_right j g1.st.net.length
        rw [List.length_take]
        omega
      · rw [← GW.mlen, hW4.2]
        exact hxp.1
      · rw [hst', hst4, take_snoc hxs, all_snoc]
    · rintro σ H' ⟨g2, v, hA4, hK4, hst4, rfl⟩
      rw [pR_len] at hst4 hA4
      rw [List.drop_length] at hA4
      refine k g2 H' (At.drop hA4) hK4 ?_
      rw [hst4, ← GW.nlen, List.take_length]
def cpL (l : List GD) : List V := l.map fun d => V.int (d.evs.length : Nat)
theorem ok_calm_down (T : Txt K mg a) : FnOk P w K mg base CX0 10 a.f_calm_down a.d_calm_down p_calm_down (spHd a preN calmS) := by
  refine T.calm_down.F.ok sc_calm_down (fun vs H Q E h => ?_) (fun cdv A outer s H vs Q E hr h => ?_)
  · obtain ⟨g, R, N, nl, rl, ns, rs, rfl, _⟩ := h
    rfl
  · obtain ⟨g, R, N, nl, rl, ns, rs, rfl, hA, hW, hN, ⟨n, rfl, hn⟩, k⟩ := h
    refine ⟨_, (pss_cons (ps_for PassesOwn.never rfl (pi_range1 rfl T.b_range (pa_cons (pe_ix ix_list (pv 1) pe_int (fun _ _ => rfl)) pa_nil)) (pg_name (i := 3) sc_calm_down.nd rfl (Or.inl rfl)) (pss_one (ps_expr (pe_call (ok_calm_round T) (hr.mono (by decide)) rfl T.calm_round.mg T.calm_round.F.kp T.calm_round.b .nil pass0 (pa_cons (pv 0) pa_nil)))))
      (pss_one (ps_ret (pe_lc (own := [("desk", 4)]) rfl sc_calm_down.nd (pi_list (pe_fld (pv 0) rfl)) (blkOk_by (show blkC n_calm_down (defScope s_calm_down) _ _ = true by decide +kernel)) (fun _ _ _ _ _ => (pg_name (i := 4) sc_calm_down.nd rfl (Or.inl rfl))) (fun _ _ _ _ _ => pts_nil) (fun _ _ _ _ _ => (pe_callB (len_K (K := K) rfl) rfl T.b_len PySem.boot_len (pa_cons (pe_fldK (K := K) rfl (pv 4) rfl) pa_nil))))))), ?_⟩
    have hnl : H nl = some (.lst [.int n]) := hA.rest (p := (nl, _)) (by simp)
    refine ⟨_, rfl, nl, _, _, _, rfl, rfl, SqL.of hnl, rfl, _, rfl, by omega, by omega, ?_⟩
    refine for_range (n := ((n : Nat) : Int).toNat) (fun j σ H' => ∃ g1 v, At a g1 ((nl, .lst [.int n]) :: (rl, .lst (rs.map V.int)) :: R) H' ∧ Keep g g1 ∧ g1.st = Vbdlao.calm j g.st ∧ σ = [some (.ref g.a), some (.ref nl), some (.ref rl), v, none]) ⟨g, none, hA, Keep.refl g, rfl, rfl⟩ ?_ ?_
    · rintro j σ H' hj ⟨g1, v, hA1, hK, hst, rfl⟩
      have hW1 := (hW.calm j).1
      rw [← hst] at hW1
      refine ⟨_, rfl, g1, _, N + 200 * j, by rw [hK.a]; rfl, hA1, hW1, by omega, fun g' H' hA' hK' hst' => ⟨g', _, hA', hK.trans hK', ?_, rfl⟩⟩
      rw [hst', hst, calm_succ]
    · rintro σ H' ⟨g1, v, hA1, hK, hst, rfl⟩
      have hst' : g1.st = Vbdlao.calm n g.st := hst
      have hW1 := (hW.calm n).1
      rw [← hst'] at hW1
      have h4 : g1.ds.length ≤ 4 := by
        have h1 := hW1.dlen
        have h2 := hW1.four
        rw [GW.mlen] at h2
        omega
      have hcl : (cpL g1.ds).length = g1.ds.length := by unfold cpL; rw [List.length_map]
      have e : (calmS g.st [(n : Int)] rs).2.map V.int = cpL g1.ds := by
        unfold calmS
        rw [show ([(n : Int)].headD 0).toNat = n from rfl, ← hst']
        show (Vbdlao.nats ((g1.ds.map GD.st).map fun d => d.copy.length)).map V.int = _
        unfold Vbdlao.nats cpL
        rw [List.map_map, List.map_map, List.map_map]
        apply List.map_congr_left
        intro d _
        show V.int (((d.evs.map (·.2)).length : Nat) : Int) = _
        rw [List.length_map]
      rw [e] at k
      have hw1 : H' g.a = some (.ins a.c_Ward g1.dx g1.fl) := by rw [← hK.a]; exact hA1.ward
      refine ⟨_, rfl, g.a, _, g1.dx, _, _, rfl, hw1, T.Ward.cl, T.n_Ward_desks, rfl, g1.ld, rfl, ⟨_, SqL.of hA1.ld⟩, fun D hD => ?_⟩
      refine lc_list (K := K) (a := g1.ld) (xs := dR g1.ds) (fun j H' => At a g1 ((D, .lst ((cpL g1.ds).take j)) :: (nl, .lst [.int n]) :: (rl, .lst (rs.map V.int)) :: R) H') (hA1.new hD) ?_ ?_ ?_
      · intro j H2 _ hA2
        exact SqL.of hA2.ld
      · intro j y H2 hj hA2
        obtain ⟨d, hd, rfl⟩ := dR_get hj
        have hd2 : (cpL g1.ds)[j]? = some (V.int (d.evs.length : Nat)) := by unfold cpL; rw [List.getElem?_map, hd]; rfl
        have hjl : j < g1.ds.length := (List.getElem?_eq_some_iff.mp hd).1
        refine ⟨rfl, ?_⟩
        dsimp only [tYes]
        rw [if_pos rfl]
        refine ⟨_, rfl, d.a, _, d.dx, _, _, rfl, hA2.desk hd, T.Desk.cl, T.n_Desk_copied, rfl, d.cp, _, rfl, .inl (SqL.of (hA2.copy hd)), _, hA2.rest (p := (D, .lst ((cpL g1.ds).take j))) (by simp), ?_, ?_⟩
        · rw [List.length_take]
          exact Nat.lt_of_le_of_lt (Nat.min_le_left _ _) (Nat.lt_of_lt_of_le (show j < 5 by omega) (by decide))
        · rw [take_snoc hd2, evR_len]
          exact hA2.putR
      · intro H2 hA2
        rw [dR_len, ← hcl, List.take_length] at hA2
        refine k g1 D H2 hA2.keep1 hK.a ?_
        rw [hst']
        rfl
end
end Nw
end
section
set_option Elab.async false
set_option linter.all false
set_option maxRecDepth 100000
set_option maxHeartbeats 2000000
namespace Nw
open PySem PySem.Spec PyProof.Rows L2
def tabR : List (Int × List (Int × Int)) := [(0, [(1, 4), (1, 8), (1, 50)]), (1, [(0, 3)]), (2, [(1, 100)]), (3, [(0, 199)]), (4, [(0, 199)]), (5, [(0, 199)]), (6, [(0, 199), (0, 31), (1, 255)]), (7, [(0, 3)]), (8, [(0, 3)]), (9, [(0, 3)]), (10, []), (11, [(1, 100)]), (12, []), (13, [(0, 199)]), (14, [(0, 3)]), (15, [(0, 3)]), (16, [(0, 3), (0, 199)]), (17, [(0, 3), (0, 199)]), (18, [(0, 3)]), (19, []), (20, [])]
def tabL : List (Int × Int) := [(1, 16), (19, 40)]
def freeT : List Int := [0, 19]
def machT : List Int := [1, 7, 8, 9, 14, 15, 16, 17, 18]
def pktT : List Int := [3, 4, 5, 6, 13]
def tabH (a : Adr) : List (Int × Addr) := [(0, a.f_open_ward), (1, a.f_add_to_log), (2, a.f_tick_often), (3, a.f_deliver_packet), (4, a.f_drop_packet), (5, a.f_double_packet), (6, a.f_spoil_packet), (7, a.f_cut_power), (8, a.f_bring_back), (9, a.f_lose_copy), (10, a.f_blink_station), (11, a.f_calm_down)]
def tabK (a : Adr) : List (Int × Addr) := [(12, a.f_look_at_net), (13, a.f_look_at_packet), (14, a.f_look_at_sender), (15, a.f_look_at_station), (16, a.f_look_at_copy), (17, a.f_look_at_event), (18, a.f_look_whether_whole), (19, a.f_look_at_frame), (20, a.f_look_at_totals)]
def KT (K : PySem.W.Frag) (t : Addr) (xs : List V) : Prop := ∀ H, SqT K H t xs
def TT (K : PySem.W.Frag) (r : Addr) (l : List (Int × Int)) : Prop := ∃ refs : List Addr, KT K r (refs.map V.ref) ∧ refs.length = l.length ∧ ∀ (j : Nat) (q : Addr) (p : Int × Int), refs[j]? = some q → l[j]? = some p → KT K q [.int p.1, .int p.2]
structure Tab (K : PySem.W.Frag) (a : Adr) (rk : List (Int × V)) : Prop where
  ranges : KD K a.t_RANGES rk
  rOk : ∀ k l, tabR.lookup k = some l → ∃ r, rk.lookup k = some (.ref r) ∧ TT K r l
  limits : KD K a.t_ROW_LIMITS (tabL.map fun p => (p.1, .int p.2))
  hands : KD K a.t_HANDLERS ((tabH a).map fun p => (p.1, .ref p.2))
  looks : KD K a.t_LOOKS ((tabK a).map fun p => (p.1, .ref p.2))
  free : KT K a.t_FREE_CALLS (freeT.map V.int)
  mach : KT K a.t_MACHINE_CALLS (machT.map V.int)
  pkt : KT K a.t_PACKET_CALLS (pktT.map V.int)
theorem map_lookup {β γ : Type} (f : β → γ) : ∀ (l : List (Int × β)) (k : Int), (l.map fun p => (p.1, f p.2)).lookup k = (l.lookup k).map f
  | [], k => rfl
  | (j, v) :: r, k => by
    rw [List.map_cons, List.lookup_cons, List.lookup_cons, map_lookup f r k]
    cases (k == j) <;> rfl
theorem inV_ints (x : Int) (l : List Int) : inV (.int x) (l.map V.int) = decide (x ∈ l) := by
  unfold inV
  induction l with
  | nil => rfl
  | cons y r ih =>
    rw [List.map_cons, List.any_cons, ih]
    show (eqV (.int y) (.int x) || decide (x ∈ r)) = decide (x ∈ y :: r)
    by_cases h : x = y
    · subst h
      have e : eqV (.int x) (.int x) = true := by show (x == x) = true; exact beq_self_eq_true x
      rw [e, Bool.true_or]
      exact (decide_eq_true (List.mem_cons_self ..)).symm
    · have e : eqV (.int y) (.int x) = false := by show (y == x) = false; exact beq_eq_false_iff_ne.mpr fun z => h z.symm
      rw [e, Bool.false_or]
      congr 1
      exact propext ⟨fun m => List.mem_cons_of_mem _ m, fun m => (List.mem_cons.mp m).elim (fun z => absurd z h) id⟩
theorem flat_ints (l : List Int) : (l.map V.int).all flatV = true := by
  rw [List.all_map, List.all_eq_true]
  intro x _
  rfl
section
variable {P : Program} {w : World} {K : PySem.W.Frag} {mg : Str → Option Value} {base : Heap} {a : Adr} {rk : List (Int × V)}
def sp_count_numbers : Sp := fun vs H Q _ => ∃ (k : Int) (l : List (Int × Int)), vs = [.int k] ∧ tabR.lookup k = some l ∧ Q (.int l.length) H
theorem ok_count_numbers (T : Txt K mg a) (B : Tab K a rk) : FnOk P w K mg base CX0 1 a.f_count_numbers a.d_count_numbers p_count_numbers sp_count_numbers := by
  refine T.count_numbers.F.ok sc_count_numbers (fun vs H Q E h => ?_) (fun cdv A outer s H vs Q E hr h => ?_)
  · obtain ⟨k, l, rfl, _⟩ := h
    rfl
  · obtain ⟨k, l, rfl, hl, q⟩ := h
    have d_RANGES := B.ranges
    refine ⟨_, (pss_one (ps_ret (pe_callB call_len_seq rfl T.b_len PySem.boot_len (pa_cons (pe_gdict rfl T.g_RANGES d_RANGES (pv 0) (fun _ _ => rfl)) pa_nil)))), ?_⟩
    obtain ⟨r, hr1, refs, h1, h2, _⟩ := B.rOk k l hl
    refine ⟨_, rfl, _, _, rfl, hr1, r, _, rfl, .inr (h1 H), ?_⟩
    rw [List.length_map, h2]
    exact q
def sp_has_row : Sp := fun vs H Q _ => ∃ (k : Int), vs = [.int k] ∧ Q (.bl (tabL.lookup k).isSome) H
theorem ok_has_row (T : Txt K mg a) (B : Tab K a rk) : FnOk P w K mg base CX0 1 a.f_has_row a.d_has_row p_has_row sp_has_row := by
  refine T.has_row.F.ok sc_has_row (fun vs H Q E h => ?_) (fun cdv A outer s H vs Q E hr h => ?_)
  · obtain ⟨k, rfl, _⟩ := h
    rfl
  · obtain ⟨k, rfl, q⟩ := h
    have d_ROW_LIMITS := B.limits
    refine ⟨_, (pss_one (ps_ret (pe_cmp (pc_gin rfl T.g_ROW_LIMITS d_ROW_LIMITS (pv 0)) rfl))), ?_⟩
    refine ⟨_, rfl, _, rfl, ?_⟩
    rw [map_lookup, Option.isSome_map]
    exact q
def inP (n : Int) (p : Int × Int) : Bool := decide (p.1 ≤ n) && decide (n ≤ p.2)
def inR (l : List (Int × Int)) (ns : List Int) : Bool := (ns.zip l).all fun x => inP x.1 x.2
def isByte (z : Int) : Bool := decide (0 ≤ z) && decide (z ≤ 255)
def inAll (k : Int) (l : List (Int × Int)) (ns rs : List Int) : Bool := inR l ns && (decide ((rs.length : Int) ≤ (tabL.lookup k).getD 0) && rs.all isByte)
theorem boot_all : bootBuiltins "all" = some (.builtin "all") := by decide +kernel
def sp_in_ranges (K : PySem.W.Frag) : Sp := fun vs H Q _ => ∃ (k : Int) (l : List (Int × Int)) (nl rl : Addr) (ns rs : List Int), vs = [.int k, .ref nl, .ref rl] ∧ tabR.lookup k = some l ∧ SqL K H nl (ns.map V.int) ∧ SqL K H rl (rs.map V.int) ∧ ns.length = l.length ∧ rs.length ≤ 16000 ∧
  ∀ H' : Hp, Same H H' → Q (.bl (inAll k l ns rs)) H'
theorem ok_in_ranges (T : Txt K mg a) (B : Tab K a rk) : FnOk P w K mg base CX0 1 a.f_in_ranges a.d_in_ranges p_in_ranges (sp_in_ranges K) := by
  refine T.in_ranges.F.ok sc_in_ranges (fun vs H Q E h => ?_) (fun cdv A outer s H vs Q E hr h => ?_)
  · obtain ⟨k, l, nl, rl, ns, rs, rfl, _⟩ := h
    rfl
  · obtain ⟨k, l, nl, rl, ns, rs, rfl, hl, hn, hrw, hlen, hrl, q⟩ := h
    have d_RANGES := B.ranges
    have d_ROW_LIMITS := B.limits
    refine ⟨_, (pss_cons (ps_for PassesOwn.never rfl (pi_zipLT rfl T.b_zip (pa_cons (pv 1) (pa_cons (pe_gdict rfl T.g_RANGES d_RANGES (pv 0) (fun _ _ => rfl)) pa_nil))) (pg_tup rfl (pgs_cons (pg_name (i := 3) sc_in_ranges.nd rfl (Or.inl rfl)) (pgs_cons (pg_name (i := 4) sc_in_ranges.nd rfl (Or.inl rfl)) pgs_nil))) (pss_one (ps_if (PW.pt (pw_or (pt_cmpR op_lt (pv 3) (pe_ix ix_tup (pv 4) pe_int (fun _ _ => rfl)) (nomark _)) (pw_or1 (pt_cmpR op_gt (pv 3) (pe_ix ix_tup (pv 4) pe_int (fun _ _ => rfl)) (nomark _))))) (pss_one (ps_ret pe_bl)) pss_nil)))
      (pss_cons (ps_if (pt_cmpR op_gt (pe_callB call_len_seq rfl T.b_len PySem.boot_len (pa_cons (pv 2) pa_nil)) (pe_gdget rfl T.g_ROW_LIMITS d_ROW_LIMITS (pv 0) pe_int ⟨rfl, rfl, rfl, rfl⟩) (nomark _)) (pss_one (ps_ret pe_bl)) pss_nil)
      (pss_one (ps_ret (pe_callB (cr_all rfl) rfl T.b_all boot_all (pa_cons (pe_lc (own := [("octet", 5)]) rfl sc_in_ranges.nd (pi_list (pv 2)) (blkOk_by (show blkC n_in_ranges (defScope s_in_ranges) _ _ = true by decide +kernel)) (fun _ _ _ _ _ => (pg_name (i := 5) sc_in_ranges.nd rfl (Or.inl rfl))) (fun _ _ _ _ _ => pts_nil) (fun _ _ _ _ _ => (pe_chain op_le op_le pe_int (pv 5) pe_int))) pa_nil)))))), ?_⟩
    obtain ⟨r, hr1, refs, h1, h2, h3⟩ := B.rOk k l hl
    have no : ∀ j : Nat, (∃ n p, ns[j]? = some n ∧ l[j]? = some p ∧ inP n p = false) → inR l ns = false := fun j ⟨n, p, hn1, hp1, hf⟩ => by
      unfold inR
      rw [List.all_eq_false]
      refine ⟨(n, p), List.mem_of_getElem? (i := j) ?_, by rw [hf]; exact Bool.false_ne_true⟩
      rw [List.getElem?_zip_eq_some]
      exact ⟨hn1, hp1⟩
    refine ⟨_, rfl, _, rfl, _, _, rfl, hr1, nl, r, _, _, rfl, hn, h1 H, ?_⟩
    refine for_zipT (K := K) (a := nl) (b := r) (xs := ns.map V.int) (ys := refs.map V.ref) (fun j σ H' => Same H H' ∧ (∀ i n p, i < j → ns[i]? = some n → l[i]? = some p → inP n p = true) ∧ ∃ u v, σ = [some (.int k), some (.ref nl), some (.ref rl), u, v, none])
      ⟨Same.refl H, fun i _ _ hi => absurd hi (Nat.not_lt_zero _), none, none, rfl⟩ (fun j σ H' ⟨e, _⟩ => ⟨e.seq hn, h1 H'⟩) ?_ ?_
    · rintro j x y t σ H' hx hy ⟨e, hb, u, v, rfl⟩ hT
      obtain ⟨n, hn1, rfl⟩ : ∃ n, ns[j]? = some n ∧ x = V.int n := by
        rw [List.getElem?_map] at hx
        cases z : ns[j]? with
        | none => rw [z] at hx; cases hx
        | some n => rw [z] at hx; exact ⟨n, rfl, (Option.some.inj hx).symm⟩
      obtain ⟨qa, hq1, rfl⟩ : ∃ qa, refs[j]? = some qa ∧ y = V.ref qa := by
        rw [List.getElem?_map] at hy
        cases z : refs[j]? with
        | none => rw [z] at hy; cases hy
        | some n => rw [z] at hy; exact ⟨n, rfl, (Option.some.inj hy).symm⟩
      obtain ⟨p, hp1⟩ : ∃ p, l[j]? = some p := ⟨_, List.getElem?_eq_getElem (by rw [← h2]; exact (List.getElem?_eq_some_iff.mp hq1).1)⟩
      have hk := h3 j qa p hq1 hp1
      have s2 := e.trans (Same.new (o := .tup [.int n, .ref qa]) hT)
      refine ⟨t, _, rfl, SqT.of upd_same, rfl, _, _, rfl, _, _, rfl, rfl, ?_⟩
      refine ⟨_, rfl, _, rfl, qa, _, _, _, rfl, rfl, hk _, rfl, _, _, rfl, rfl, _, rfl, ifc (fun hlt => iteT ?_) fun hge => ?_⟩
      · have hf : inR l ns = false := no j ⟨n, p, hn1, hp1, by unfold inP; rw [decide_eq_false (by omega)]; rfl⟩
        have q' := q _ s2
        unfold inAll at q'
        rw [hf] at q'
        exact q'
      · refine ⟨_, rfl, _, rfl, qa, _, _, _, rfl, rfl, hk _, rfl, _, _, rfl, rfl, _, rfl, ifc (fun hgt => ?_) fun hle => ?_⟩
        · have hf : inR l ns = false := no j ⟨n, p, hn1, hp1, by unfold inP; rw [decide_eq_false (show ¬ n ≤ p.2 by omega), Bool.and_false]⟩
          have q' := q _ s2
          unfold inAll at q'
          rw [hf] at q'
          exact q'
        · refine ⟨s2, fun i n' p' hi hn' hp' => ?_, some (.int n), some (.ref qa), rfl⟩
          by_cases hij : i = j
          · subst hij
            rw [hn1] at hn'; rw [hp1] at hp'
            cases hn'; cases hp'
            unfold inP
            rw [decide_eq_true (by omega), decide_eq_true (by omega)]
            rfl
          · exact hb i n' p' (by omega) hn' hp'
    · rintro j σ H' hj hjn hjl ⟨e, hb, u, v, rfl⟩
      have hall : inR l ns = true := by
        unfold inR
        rw [List.all_eq_true]
        intro x hx
        obtain ⟨i, hi⟩ := List.getElem?_of_mem hx
        rw [List.getElem?_zip_eq_some] at hi
        refine hb i x.1 x.2 ?_ hi.1 hi.2
        have := (List.getElem?_eq_some_iff.mp hi.1).1
        rw [List.length_map] at hj
        rw [List.length_map] at hj
        omega
      unfold inAll at q
      rw [hall] at q
      have hrw' := e.seq hrw
      refine ⟨_, rfl, rl, _, rfl, .inl hrw', _, rfl, _, rfl, ?_⟩
      rw [map_lookup]
      have eg : ((tabL.lookup k).map V.int).getD (.int 0) = .int ((tabL.lookup k).getD 0) := by cases tabL.lookup k <;> rfl
      rw [eg, List.length_map]
      refine ⟨_, _, rfl, rfl, _, rfl, ifc (fun hgt => ?_) fun hle => ?_⟩
      · have q' := q H' e
        rw [decide_eq_false (by omega)] at q'
        exact q'
      · rw [decide_eq_true (show (rs.length : Int) ≤ (tabL.lookup k).getD 0 by omega)] at q
        refine ⟨_, rfl, rl, rfl, ⟨_, hrw'⟩, fun D hD => ?_⟩
        refine lc_list (K := K) (a := rl) (xs := rs.map V.int) (fun j H2 => Same H H2 ∧ H2 D = some (.lst (((rs.take j).map isByte).map V.bl))) ⟨e.trans (Same.new hD), upd_same⟩ (fun j H2 _ ⟨e2, _⟩ => e2.seq hrw) ?_ ?_
        · rintro j x H2 hx ⟨e2, hD2⟩
          obtain ⟨n, hn1, rfl⟩ : ∃ n, rs[j]? = some n ∧ x = V.int n := by
            rw [List.getElem?_map] at hx
            cases z : rs[j]? with
            | none => rw [z] at hx; cases hx
            | some n => rw [z] at hx; exact ⟨n, rfl, (Option.some.inj hx).symm⟩
          refine ⟨rfl, ?_⟩
          dsimp only [tYes]
          rw [if_pos rfl]
          have nxt : Same H (upd H2 D (.lst (((rs.take j).map isByte).map V.bl ++ [.bl (isByte n)]))) ∧ (upd H2 D (.lst (((rs.take j).map isByte).map V.bl ++ [.bl (isByte n)]))) D = some (.lst (((rs.take (j + 1)).map isByte).map V.bl)) := by
            refine ⟨fun b o hb => ?_, ?_⟩
            · have : b ≠ D := ne_of_none (e.trans (Same.refl H') b o hb) hD
              rw [upd_ne this]
              exact e2 b o hb
            · rw [upd_same, take_snoc hn1, List.map_append, List.map_append]
              rfl
          have hlen2 : (((rs.take j).map isByte).map V.bl).length < sizeLine := by
            rw [List.length_map, List.length_map, List.length_take]
            exact Nat.lt_of_le_of_lt (Nat.le_trans (Nat.min_le_right _ _) hrl) (by decide)
          refine ⟨_, rfl, _, _, rfl, rfl, _, rfl, ?_⟩
          unfold isByte at nxt
          by_cases h0 : (0 : Int) ≤ n
          · rw [decide_eq_true h0, Bool.true_and] at nxt
            rw [decide_eq_true h0, if_pos rfl]
            exact ⟨_, _, rfl, rfl, _, hD2, hlen2, nxt⟩
          · rw [decide_eq_false h0, Bool.false_and] at nxt
            rw [decide_eq_false h0, if_neg Bool.false_ne_true]
            exact ⟨_, hD2, hlen2, nxt⟩
        · rintro H2 ⟨e2, hD2⟩
          rw [List.length_map, List.take_length] at hD2
          refine ⟨D, _, rfl, SqL.of hD2, ?_⟩
          have q' := q H2 e2
          rw [List.all_map]
          exact q'
end
end Nw
end
section
set_option Elab.async false
set_option linter.all false
set_option maxRecDepth 100000
set_option maxHeartbeats 2000000
namespace Nw
open PySem PySem.Spec PyProof.Rows L2
def refusal (k : Int) (l : List (Int × Int)) (ns rs : List Int) (ml pl : Nat) : Int :=
  if inAll k l ns rs = false then -1 else if k ∉ freeT ∧ ml = 0 then -2 else if k ∈ machT ∧ (ml : Int) ≤ ns.headD 0 then -3 else if k ∈ pktT ∧ (pl : Int) ≤ ns.headD 0 then -4 else 0
theorem head_at {ns : List Int} (h : ns ≠ []) : atI (ns.map V.int) 0 = some (.int (ns.headD 0)) := by
  cases ns with
  | nil => exact absurd rfl h
  | cons x r => exact atI_nat (j := 0) rfl
theorem ifS_by {c : L2.TT} {t u rest : TS} {D : Ends} {σ : L2.St} {H : Hp} (b : Bool) (h : ∀ Q : Bool → Hp → Prop, Q b H → c σ H Q) (hq : if b = true then t { D with nx := rest D } σ H else u { D with nx := rest D } σ H) : tSeq (tIfS c t u) rest D σ H := h _ hq
section
variable {P : Program} {w : World} {K : PySem.W.Frag} {mg : Str → Option Value} {base : Heap} {a : Adr} {rk : List (Int × V)}
def sp_common_refusal (K : PySem.W.Frag) (a : Adr) : Sp := fun vs H Q _ => ∃ (g : GW) (R : List Fact) (k : Int) (l : List (Int × Int)) (nl rl : Addr) (ns rs : List Int), vs = [.ref g.a, .int k, .ref nl, .ref rl] ∧ At a g R H ∧ tabR.lookup k = some l ∧ SqL K H nl (ns.map V.int) ∧ SqL K H rl (rs.map V.int) ∧
  ns.length = l.length ∧ rs.length ≤ 16000 ∧ (k ∈ machT ∨ k ∈ pktT → ns ≠ []) ∧ ∀ H' : Hp, Same H H' → Q (.int (refusal k l ns rs g.ms.length g.ps.length)) H'
theorem ok_common_refusal (T : Txt K mg a) (B : Tab K a rk) : FnOk P w K mg base CX0 2 a.f_common_refusal a.d_common_refusal p_common_refusal (sp_common_refusal K a) := by
  refine T.common_refusal.F.ok sc_common_refusal (fun vs H Q E h => ?_) (fun cdv A outer s H vs Q E hr h => ?_)
  · obtain ⟨g, R, k, l, nl, rl, ns, rs, rfl, _⟩ := h
    rfl
  · obtain ⟨g, R, k, l, nl, rl, ns, rs, rfl, hA, hl, hn, hrw, hlen, hrl, hne, q⟩ := h
    refine ⟨_, (pss_cons (ps_if (pt_not (pt_val (pe_call (ok_in_ranges T B) (hr.mono (by decide)) rfl T.in_ranges.mg T.in_ranges.F.kp T.in_ranges.b .nil pass0 (pa_cons (pv 1) (pa_cons (pv 2) (pa_cons (pv 3) pa_nil)))))) (pss_one (ps_ret (pe_gint rfl T.c_OUT_OF_RANGE))) pss_nil)
      (pss_cons (ps_if (PW.pt (pw_and (pt_cmpR op_notIn_seq (pv 1) (pe_glob (v := .ref a.t_FREE_CALLS) rfl T.g_FREE_CALLS rfl) rfl) (pw_and1 (pt_cmpR op_eq (pe_callB call_len_seq rfl T.b_len PySem.boot_len (pa_cons (pe_fld (pv 0) rfl) pa_nil)) pe_int (nomark _))))) (pss_one (ps_ret (pe_gint rfl T.c_NOTHING_OPEN))) pss_nil)
      (pss_cons (ps_if (PW.pt (pw_and (pt_cmpR op_in_seq (pv 1) (pe_glob (v := .ref a.t_MACHINE_CALLS) rfl T.g_MACHINE_CALLS rfl) rfl) (pw_and1 (pt_cmpR op_ge (pe_ix ix_list (pv 2) pe_int (fun _ _ => rfl)) (pe_callB call_len_seq rfl T.b_len PySem.boot_len (pa_cons (pe_fld (pv 0) rfl) pa_nil)) (nomark _))))) (pss_one (ps_ret (pe_gint rfl T.c_NO_MACHINE))) pss_nil)
      (pss_cons (ps_if (PW.pt (pw_and (pt_cmpR op_in_seq (pv 1) (pe_glob (v := .ref a.t_PACKET_CALLS) rfl T.g_PACKET_CALLS rfl) rfl) (pw_and1 (pt_cmpR op_ge (pe_ix ix_list (pv 2) pe_int (fun _ _ => rfl)) (pe_callB call_len_seq rfl T.b_len PySem.boot_len (pa_cons (pe_fld (pv 0) rfl) pa_nil)) (nomark _))))) (pss_one (ps_ret (pe_gint rfl T.c_NO_PACKET))) pss_nil)
      (pss_one (ps_ret pe_int)))))), ?_⟩
    refine ⟨_, rfl, _, rfl, _, rfl, k, l, nl, rl, ns, rs, rfl, hl, hn, hrw, hlen, hrl, fun H1 s1 => ⟨_, rfl, ifnb (fun hf => ?_) fun ht => ?_⟩⟩
    · have q' := q H1 s1
      unfold refusal at q'
      rw [if_pos hf] at q'
      exact q'
    have hA1 := hA.same s1
    have hn1 := s1.seq hn
    have fl : flatV (.int k) = true := rfl
    have q1 := q H1 s1
    unfold refusal at q1
    rw [if_neg (by rw [ht]; exact fun z => Bool.noConfusion z)] at q1
    have mem : ∀ (c : List Int) (m : Nat) (Q : Bool → Hp → Prop), Q (decide (k ∈ c ∧ (m : Int) ≤ ns.headD 0)) H1 → (k ∈ c → ns ≠ []) → (k ∉ c → Q false H1) ∧ (k ∈ c → ns ≠ [] ∧ Q (decide ((m : Int) ≤ ns.headD 0)) H1) := fun c m Q hQ hc => by
      refine ⟨fun h => ?_, fun h => ⟨hc h, ?_⟩⟩
      · rw [decide_eq_false (fun z => h z.1)] at hQ; exact hQ
      · rw [show decide (k ∈ c ∧ (m : Int) ≤ ns.headD 0) = decide ((m : Int) ≤ ns.headD 0) from decide_eq_decide.mpr ⟨fun z => z.2, fun z => ⟨h, z⟩⟩] at hQ; exact hQ
    dsimp only [tNext]
    refine ifS_by (decide (k ∉ freeT ∧ g.ms.length = 0)) (fun Q' hQ' => ?_) ?_
    · refine ⟨_, rfl, a.t_FREE_CALLS, _, rfl, .inr (B.free H1), rfl, flat_ints _, ?_⟩
      rw [if_pos rfl, inV_ints]
      refine ⟨_, rfl, ifnc (fun hnf => ?_) fun hf => ?_⟩
      · refine ⟨_, rfl, g.a, _, g.dx, _, _, rfl, hA1.ward, T.Ward.cl, T.n_Ward_machines, rfl, g.lm, _, rfl, .inl (SqL.of hA1.lm), rfl, _, rfl, ?_⟩
        rw [mR_len]
        rw [show decide (k ∉ freeT ∧ g.ms.length = 0) = decide (V.int (g.ms.length : Nat) = V.int 0) from decide_eq_decide.mpr ⟨fun z => by rw [z.2]; rfl, fun z => ⟨hnf, by have := V.int.inj z; omega⟩⟩] at hQ'
        exact hQ'
      · rw [decide_eq_false (fun z => z.1 hf)] at hQ'
        exact hQ'
    · refine ifc (fun h2 => ?_) fun h2 => ?_
      · rw [if_pos h2] at q1
        exact q1
      rw [if_neg h2] at q1
      dsimp only [tNext]
      refine ifS_by (decide (k ∈ machT ∧ (g.ms.length : Int) ≤ ns.headD 0)) (fun Q' hQ' => ?_) ?_
      · obtain ⟨m1, m2⟩ := mem machT g.ms.length Q' hQ' (fun h => hne (.inl h))
        refine ⟨_, rfl, a.t_MACHINE_CALLS, _, rfl, .inr (B.mach H1), rfl, flat_ints _, ?_⟩
        rw [if_neg Bool.false_ne_true, inV_ints]
        refine ⟨_, rfl, ifc (fun h => ?_) fun h => m1 h⟩
        obtain ⟨m3, m4⟩ := m2 h
        refine ⟨_, rfl, nl, _, _, _, rfl, rfl, hn1, head_at m3, _, rfl, g.a, _, g.dx, _, _, rfl, hA1.ward, T.Ward.cl, T.n_Ward_machines, rfl, g.lm, _, rfl, .inl (SqL.of hA1.lm), _, _, rfl, rfl, _, rfl, ?_⟩
        rw [mR_len]
        exact m4
      · refine ifc (fun h3 => ?_) fun h3 => ?_
        · rw [if_pos h3] at q1
          exact q1
        rw [if_neg h3] at q1
        dsimp only [tNext]
        refine ifS_by (decide (k ∈ pktT ∧ (g.ps.length : Int) ≤ ns.headD 0)) (fun Q' hQ' => ?_) ?_
        · obtain ⟨m1, m2⟩ := mem pktT g.ps.length Q' hQ' (fun h => hne (.inr h))
          refine ⟨_, rfl, a.t_PACKET_CALLS, _, rfl, .inr (B.pkt H1), rfl, flat_ints _, ?_⟩
          rw [if_neg Bool.false_ne_true, inV_ints]
          refine ⟨_, rfl, ifc (fun h => ?_) fun h => m1 h⟩
          obtain ⟨m3, m4⟩ := m2 h
          refine ⟨_, rfl, nl, _, _, _, rfl, rfl, hn1, head_at m3, _, rfl, g.a, _, g.dx, _, _, rfl, hA1.ward, T.Ward.cl, T.n_Ward_packets, rfl, g.lp, _, rfl, .inl (SqL.of hA1.lp), _, _, rfl, rfl, _, rfl, ?_⟩
          rw [pR_len]
          exact m4
        · refine ifc (fun h4 => ?_) fun h4 => ?_
          · rw [if_pos h4] at q1
            exact q1
          · rw [if_neg h4] at q1
            exact q1
end
end Nw
end
section
set_option Elab.async false
set_option linter.all false
set_option maxRecDepth 100000
set_option maxHeartbeats 2000000
namespace Nw
open PySem PySem.Spec PyProof.Rows L2
abbrev PF := (Vbdlao.St → List Int → List Int → Prop) × (Vbdlao.St → List Int → List Int → Vbdlao.St × List Int)
section
variable {P : Program} {w : World} {K : PySem.W.Frag} {mg : Str → Option Value} {base : Heap} {a : Adr} {rk : List (Int × V)}
def tabS : List (Int × PF) := [(0, (preO, openS)), (1, (preL, logS)), (2, (preN, tickS)), (3, (preP, deliverS)), (4, (preP, dropS)), (5, (preP, doubleS)), (6, (preS, spoilS)), (7, (onMach, cutS)), (8, (onMach, backS)), (9, (onMach, loseS)), (10, (preY, blinkS)), (11, (preN, calmS)), (12, (preY, netS)), (13, (preP, packetS)), (14, (onMach, senderS)), (15, (onMach, stationS)), (16, (onMJ, copyS)), (17, (onMJ, eventS)), (18, (onMach, wholeS)), (19, (preF, frameS)), (20, (preY, totalsS))]
theorem hand (T : Txt K mg a) {k : Int} {f : Addr} (h : (tabH a).lookup k = some f) : ∃ (pf : PF) (j : Nat) (fd : FuncData) (ps : List Str), tabS.lookup k = some pf ∧ j ≤ 12 ∧ FnOk P w K mg base CX0 j f fd ps (spHd a pf.1 pf.2) ∧ PySem.W.keepIn K (.ref f) = true ∧ Binds K fd ps [] := by
  unfold tabH at h
  by_cases h0 : k = 0
  · subst h0
    cases (Option.some.inj (show some _ = some f from h))
    exact ⟨_, _, _, _, rfl, by decide, ok_open_ward T, T.open_ward.F.kp, T.open_ward.b⟩
  rw [List.lookup_cons, beq_eq_false_iff_ne.mpr h0] at h
  by_cases h1 : k = 1
  · subst h1
    cases (Option.some.inj (show some _ = some f from h))
    exact ⟨_, _, _, _, rfl, by decide, ok_add_to_log T, T.add_to_log.F.kp, T.add_to_log.b⟩
  rw [List.lookup_cons, beq_eq_false_iff_ne.mpr h1] at h
  by_cases h2 : k = 2
  · subst h2
    cases (Option.some.inj (show some _ = some f from h))
    exact ⟨_, _, _, _, rfl, by decide, ok_tick_often T, T.tick_often.F.kp, T.tick_often.b⟩
  rw [List.lookup_cons, beq_eq_false_iff_ne.mpr h2] at h
  by_cases h3 : k = 3
  · subst h3
    cases (Option.some.inj (show some _ = some f from h))
    exact ⟨_, _, _, _, rfl, by decide, ok_deliver_packet T, T.deliver_packet.F.kp, T.deliver_packet.b⟩
  rw [List.lookup_cons, beq_eq_false_iff_ne.mpr h3] at h
  by_cases h4 : k = 4
  · subst h4
    cases (Option.some.inj (show some _ = some f from h))
    exact ⟨_, _, _, _, rfl, by decide, ok_drop_packet T, T.drop_packet.F.kp, T.drop_packet.b⟩
  rw [List.lookup_cons, beq_eq_false_iff_ne.mpr h4] at h
  by_cases h5 : k = 5
  · subst h5
    cases (Option.some.inj (show some _ = some f from h))
    exact ⟨_, _, _, _, rfl, by decide, ok_double_packet T, T.double_packet.F.kp, T.double_packet.b⟩
  rw [List.lookup_cons, beq_eq_false_iff_ne.mpr h5] at h
  by_cases h6 : k = 6
  · subst h6
    cases (Option.some.inj (show some _ = some f from h))
    exact ⟨_, _, _, _, rfl, by decide, ok_spoil_packet T, T.spoil_packet.F.kp, T.spoil_packet.b⟩
  rw [List.lookup_cons, beq_eq_false_iff_ne.mpr h6] at h
  by_cases h7 : k = 7
  · subst h7
    cases (Option.some.inj (show some _ = some f from h))
    exact ⟨_, _, _, _, rfl, by decide, ok_cut_power T, T.cut_power.F.kp, T.cut_power.b⟩
  rw [List.lookup_cons, beq_eq_false_iff_ne.mpr h7] at h
  by_cases h8 : k = 8
  · subst h8
    cases (Option.some.inj (show some _ = some f from h))
    exact ⟨_, _, _, _, rfl, by decide, ok_bring_back T, T.bring_back.F.kp, T.bring_back.b⟩
  rw [List.lookup_cons, beq_eq_false_iff_ne.mpr h8] at h
  by_cases h9 : k = 9
  · subst h9
    cases (Option.some.inj (show some _ = some f from h))
    exact ⟨_, _, _, _, rfl, by decide, ok_lose_copy T, T.lose_copy.F.kp, T.lose_copy.b⟩
  rw [List.lookup_cons, beq_eq_false_iff_ne.mpr h9] at h
  by_cases h10 : k = 10
  · subst h10
    cases (Option.some.inj (show some _ = some f from h))
    exact ⟨_, _, _, _, rfl, by decide, ok_blink_station T, T.blink_station.F.kp, T.blink_station.b⟩
  rw [List.lookup_cons, beq_eq_false_iff_ne.mpr h10] at h
  by_cases h11 : k = 11
  · subst h11
    cases (Option.some.inj (show some _ = some f from h))
    exact ⟨_, _, _, _, rfl, by decide, ok_calm_down T, T.calm_down.F.kp, T.calm_down.b⟩
  rw [List.lookup_cons, beq_eq_false_iff_ne.mpr h11] at h
  cases h
theorem handL (T : Txt K mg a) {k : Int} {f : Addr} (h : (tabK a).lookup k = some f) : ∃ (pf : PF) (j : Nat) (fd : FuncData) (ps : List Str), tabS.lookup k = some pf ∧ j ≤ 11 ∧ FnOk P w K mg base CX0 j f fd ps (spHd a pf.1 pf.2) ∧ PySem.W.keepIn K (.ref f) = true ∧ Binds K fd ps [] := by
  unfold tabK at h
  by_cases h12 : k = 12
  · subst h12
    cases (Option.some.inj (show some _ = some f from h))
    exact ⟨_, _, _, _, rfl, by decide, ok_look_at_net T, T.look_at_net.F.kp, T.look_at_net.b⟩
  rw [List.lookup_cons, beq_eq_false_iff_ne.mpr h12] at h
  by_cases h13 : k = 13
  · subst h13
    cases (Option.some.inj (show some _ = some f from h))
    exact ⟨_, _, _, _, rfl, by decide, ok_look_at_packet T, T.look_at_packet.F.kp, T.look_at_packet.b⟩
  rw [List.lookup_cons, beq_eq_false_iff_ne.mpr h13] at h
  by_cases h14 : k = 14
  · subst h14
    cases (Option.some.inj (show some _ = some f from h))
    exact ⟨_, _, _, _, rfl, by decide, ok_look_at_sender T, T.look_at_sender.F.kp, T.look_at_sender.b⟩
  rw [List.lookup_cons, beq_eq_false_iff_ne.mpr h14] at h
  by_cases h15 : k = 15
  · subst h15
    cases (Option.some.inj (show some _ = some f from h))
    exact ⟨_, _, _, _, rfl, by decide, ok_look_at_station T, T.look_at_station.F.kp, T.look_at_station.b⟩
  rw [List.lookup_cons, beq_eq_false_iff_ne.mpr h15] at h
  by_cases h16 : k = 16
  · subst h16
    cases (Option.some.inj (show some _ = some f from h))
    exact ⟨_, _, _, _, rfl, by decide, ok_look_at_copy T, T.look_at_copy.F.kp, T.look_at_copy.b⟩
  rw [List.lookup_cons, beq_eq_false_iff_ne.mpr h16] at h
  by_cases h17 : k = 17
  · subst h17
    cases (Option.some.inj (show some _ = some f from h))
    exact ⟨_, _, _, _, rfl, by decide, ok_look_at_event T, T.look_at_event.F.kp, T.look_at_event.b⟩
  rw [List.lookup_cons, beq_eq_false_iff_ne.mpr h17] at h
  by_cases h18 : k = 18
  · subst h18
    cases (Option.some.inj (show some _ = some f from h))
    exact ⟨_, _, _, _, rfl, by decide, ok_look_whether_whole T, T.look_whether_whole.F.kp, T.look_whether_whole.b⟩
  rw [List.lookup_cons, beq_eq_false_iff_ne.mpr h18] at h
  by_cases h19 : k = 19
  · subst h19
    cases (Option.some.inj (show some _ = some f from h))
    exact ⟨_, _, _, _, rfl, by decide, ok_look_at_frame T, T.look_at_frame.F.kp, T.look_at_frame.b⟩
  rw [List.lookup_cons, beq_eq_false_iff_ne.mpr h19] at h
  by_cases h20 : k = 20
  · subst h20
    cases (Option.some.inj (show some _ = some f from h))
    exact ⟨_, _, _, _, rfl, by decide, ok_look_at_totals T, T.look_at_totals.F.kp, T.look_at_totals.b⟩
  rw [List.lookup_cons, beq_eq_false_iff_ne.mpr h20] at h
  cases h
def perfS (pf : PF) (k : Int) (l : List (Int × Int)) (s : Vbdlao.St) (ns rs : List Int) : Vbdlao.St × List Int :=
  if refusal k l ns rs s.machines.length s.net.length < 0 then (s, [refusal k l ns rs s.machines.length s.net.length]) else pf.2 s ns rs
def sp_perform (a : Adr) : Sp := fun vs H Q _ => ∃ (g : GW) (R : List Fact) (N : Nat) (k : Int) (l : List (Int × Int)) (nl rl : Addr) (ns rs : List Int) (pf : PF), vs = [.ref g.a, .int k, .ref nl, .ref rl] ∧
  At a g ((nl, .lst (ns.map V.int)) :: (rl, .lst (rs.map V.int)) :: R) H ∧ Wf N g.st ∧ N ≤ 9000000 ∧ tabR.lookup k = some l ∧ ns.length = l.length ∧ rs.length ≤ 16000 ∧ (k ∈ machT ∨ k ∈ pktT → ns ≠ []) ∧ tabS.lookup k = some pf ∧
  (¬ refusal k l ns rs g.st.machines.length g.st.net.length < 0 → pf.1 g.st ns rs) ∧
  ∀ (g' : GW) (p : Addr) (H' : Hp), At a g' ((p, .lst ((perfS pf k l g.st ns rs).2.map V.int)) :: R) H' → g'.a = g.a → g'.st = (perfS pf k l g.st ns rs).1 → Q (.ref p) H'
theorem lookup_keys {β γ : Type} : ∀ (l : List (Int × β)) (m : List (Int × γ)), l.map (·.1) = m.map (·.1) → ∀ (k : Int) (v : β), l.lookup k = some v → ∃ w, m.lookup k = some w
  | [], m, e, k, v, h => by cases h
  | x :: l, [], e, k, v, h => by cases e
  | x :: l, y :: m, e, k, v, h => by
    rw [List.map_cons, List.map_cons, List.cons.injEq] at e
    rw [List.lookup_cons] at h ⊢
    rw [← e.1]
    cases hb : (k == x.1) with
    | true => exact ⟨y.2, rfl⟩
    | false => rw [hb] at h; exact lookup_keys l m e.2 k v h
theorem keysSH : tabS.map (·.1) = (tabH a ++ tabK a).map (·.1) := rfl
theorem lookup_app {β : Type} : ∀ (l m : List (Int × β)) (k : Int) (v : β), (l ++ m).lookup k = some v → l.lookup k = some v ∨ l.lookup k = none ∧ m.lookup k = some v
  | [], m, k, v, h => .inr ⟨rfl, h⟩
  | x :: l, m, k, v, h => by
    rw [List.cons_append, List.lookup_cons] at h
    rw [List.lookup_cons]
    cases hb : (k == x.1) with
    | true => rw [hb] at h; exact .inl h
    | false => rw [hb] at h; exact lookup_app l m k v h
theorem hand_of {k : Int} {pf : PF} (h : tabS.lookup k = some pf) : ∃ f, (tabH a).lookup k = some f ∨ (tabH a).lookup k = none ∧ (tabK a).lookup k = some f := by
  obtain ⟨f, hf⟩ := lookup_keys _ _ (keysSH (a := a)) k pf h
  exact ⟨f, lookup_app _ _ k f hf⟩
def sp_look (a : Adr) : Sp := fun vs H Q _ => ∃ (g : GW) (R : List Fact) (N : Nat) (k : Int) (f nl rl : Addr) (ns rs : List Int) (pf : PF), vs = [.ref g.a, .int k, .ref nl, .ref rl] ∧
  At a g ((nl, .lst (ns.map V.int)) :: (rl, .lst (rs.map V.int)) :: R) H ∧ Wf N g.st ∧ N ≤ 9000000 ∧ tabS.lookup k = some pf ∧ (tabK a).lookup k = some f ∧ pf.1 g.st ns rs ∧
  ∀ (g' : GW) (p : Addr) (H' : Hp), At a g' ((p, .lst ((pf.2 g.st ns rs).2.map V.int)) :: R) H' → g'.a = g.a → g'.st = (pf.2 g.st ns rs).1 → Q (.ref p) H'
theorem ok_look (T : Txt K mg a) (B : Tab K a rk) : FnOk P w K mg base CX0 12 a.f_look a.d_look p_look (sp_look a) := by
  refine T.look.F.ok sc_look (fun vs H Q E h => ?_) (fun cdv A outer s H vs Q E hr h => ?_)
  · obtain ⟨g, R, N, k, f, nl, rl, ns, rs, pf, rfl, _⟩ := h
    rfl
  · obtain ⟨g, R, N, k, f, nl, rl, ns, rs, pf, rfl, hA, hW, hN, hpf, hf, hpre, q⟩ := h
    have d_LOOKS := B.looks
    refine ⟨_, (pss_cons (ps_set (i := 4) sc_look.nd rfl (Or.inl rfl) (pe_gdict rfl T.g_LOOKS d_LOOKS (pv 1) (fun _ _ => rfl)))
      (pss_one (ps_ret (pe_calll (pv 4) (pa_cons (pv 0) (pa_cons (pv 2) (pa_cons (pv 3) pa_nil))))))), ?_⟩
    obtain ⟨pf', j, fd, ps, e1, hj, F, hk, hb⟩ := handL (P := P) (w := w) (base := base) T hf
    rw [hpf] at e1
    cases e1
    refine ⟨_, rfl, k, .ref f, rfl, by rw [map_lookup, hf]; rfl, ?_⟩
    refine ⟨_, rfl, j, f, fd, ps, _, rfl, F, hr.mono hj, hk, hb, _, rfl, _, rfl, _, rfl, ?_⟩
    exact ⟨g, R, N, nl, rl, ns, rs, rfl, hA, hW, hN, hpre, q⟩
theorem ok_perform (T : Txt K mg a) (B : Tab K a rk) : FnOk P w K mg base CX0 13 a.f_perform a.d_perform p_perform (sp_perform a) := by
  refine T.perform.F.ok sc_perform (fun vs H Q E h => ?_) (fun cdv A outer s H vs Q E hr h => ?_)
  · obtain ⟨g, R, N, k, l, nl, rl, ns, rs, pf, rfl, _⟩ := h
    rfl
  · obtain ⟨g, R, N, k, l, nl, rl, ns, rs, pf, rfl, hA, hW, hN, hl, hlen, hrl, hne, hpf, hpre, q⟩ := h
    have d_HANDLERS := B.hands
    refine ⟨_, (pss_cons (ps_set (i := 4) sc_perform.nd rfl (Or.inl rfl) (pe_call (ok_common_refusal T B) (hr.mono (by decide)) rfl T.common_refusal.mg T.common_refusal.F.kp T.common_refusal.b .nil pass0 (pa_cons (pv 0) (pa_cons (pv 1) (pa_cons (pv 2) (pa_cons (pv 3) pa_nil))))))
      (pss_cons (ps_if (pt_cmpR op_lt (pv 4) pe_int (nomark _)) (pss_one (ps_ret (pe_lst (pa_cons (pv 4) pa_nil)))) pss_nil)
      (pss_cons (ps_if (pt_cmp (pc_gnotIn rfl T.g_HANDLERS d_HANDLERS (pv 1)) rfl) (pss_one (ps_ret (pe_call (ok_look T B) (hr.mono (by decide)) rfl T.look.mg T.look.F.kp T.look.b .nil pass0 (pa_cons (pv 0) (pa_cons (pv 1) (pa_cons (pv 2) (pa_cons (pv 3) pa_nil))))))) pss_nil)
      (pss_cons (ps_set (i := 5) sc_perform.nd rfl (Or.inl rfl) (pe_gdict rfl T.g_HANDLERS d_HANDLERS (pv 1) (fun _ _ => rfl)))
      (pss_one (ps_ret (pe_calll (pv 5) (pa_cons (pv 0) (pa_cons (pv 2) (pa_cons (pv 3) pa_nil)))))))))), ?_⟩
    have hnl : H nl = some (.lst (ns.map V.int)) := hA.rest (p := (nl, _)) (by simp)
    have hrl' : H rl = some (.lst (rs.map V.int)) := hA.rest (p := (rl, _)) (by simp)
    refine ⟨_, rfl, _, rfl, _, rfl, _, rfl, g, _, k, l, nl, rl, ns, rs, rfl, hA, hl, SqL.of hnl, SqL.of hrl', hlen, hrl, hne, fun H1 s1 => ?_⟩
    have hA1 := hA.same s1
    unfold perfS at q
    rw [GW.mlen, GW.nlen] at q hpre
    refine ⟨_, rfl, _, _, rfl, rfl, _, rfl, ifc (fun hlt => ?_) fun hge => ?_⟩
    · rw [if_pos hlt] at q
      refine ⟨_, rfl, (by show 1 ≤ sizeLine; decide), fun p hp => ?_⟩
      exact q g p _ (hA1.drop.drop.new hp) rfl rfl
    · rw [if_neg hge] at q
      obtain ⟨f, hf⟩ := hand_of (a := a) hpf
      refine ⟨_, rfl, _, rfl, _, rfl, ?_⟩
      rw [map_lookup, Option.isSome_map]
      rcases hf with hf | ⟨hf0, hf⟩
      · rw [hf]
        refine ifnb (fun z => by cases z) fun _ => ?_
        obtain ⟨pf', j, fd, ps, e1, hj, F, hk, hb⟩ := hand (P := P) (w := w) (base := base) T hf
        rw [hpf] at e1
        cases e1
        refine ⟨_, rfl, k, .ref f, rfl, by rw [map_lookup, hf]; rfl, ?_⟩
        refine ⟨_, rfl, j, f, fd, ps, _, rfl, F, hr.mono hj, hk, hb, _, rfl, _, rfl, _, rfl, ?_⟩
        exact ⟨g, R, N, nl, rl, ns, rs, rfl, hA1, hW, hN, hpre hge, q⟩
      · rw [hf0]
        refine ifnb (fun _ => ?_) fun z => by cases z
        refine ⟨_, rfl, _, rfl, _, rfl, _, rfl, ?_⟩
        exact ⟨g, R, N, k, f, nl, rl, ns, rs, pf, rfl, hA1, hW, hN, hpf, hf, hpre hge, q⟩
end
end Nw
end
section
set_option Elab.async false
set_option linter.all false
set_option maxRecDepth 100000
set_option maxHeartbeats 2000000
namespace Nw
open PySem PySem.Spec PyProof.Rows L2
def callV (p : Int) (ns rs : List Int) : Vbdlao.Call := match p, ns with
  | 0, [k, w, r] => .open_ k w r
  | 1, [m] => .log m rs
  | 2, [n] => .tick n
  | 3, [i] => .deliver i
  | 4, [i] => .drop i
  | 5, [i] => .double i
  | 6, [i, k, x] => .spoil i k x
  | 7, [m] => .cut m
  | 8, [m] => .back m
  | 9, [m] => .lose m
  | 10, _ => .blink
  | 11, [n] => .calm n
  | 12, _ => .net
  | 13, [i] => .packet i
  | 14, [m] => .sender m
  | 15, [m] => .station m
  | 16, [m, j] => .copy m j
  | 17, [m, j] => .event m j
  | 18, [m] => .whole m
  | 19, _ => .frame rs
  | _, _ => .totals
structure Good (s : Vbdlao.St) (p : Int) (ns rs : List Int) : Prop where
  ex : ∃ (l : List (Int × Int)) (pf : PF), tabR.lookup p = some l ∧ ns.length = l.length ∧ tabS.lookup p = some pf ∧ (p ∈ machT ∨ p ∈ pktT → ns ≠ []) ∧
    (¬ refusal p l ns rs s.machines.length s.net.length < 0 → pf.1 s ns rs) ∧ perfS pf p l s ns rs = Vbdlao.step s (callV p ns rs)
variable {s : Vbdlao.St}
theorem mnil : s.machines = [] ↔ s.machines.length = 0 := List.length_eq_zero_iff.symm
theorem ref_ok {p : Int} {l : List (Int × Int)} {ns rs : List Int} {ml pl : Nat} (h : ¬ refusal p l ns rs ml pl < 0) :
    inAll p l ns rs = true ∧ (p ∉ freeT → ml ≠ 0) ∧ (p ∈ machT → ns.headD 0 < ml) ∧ (p ∈ pktT → ns.headD 0 < pl) := by
  unfold refusal at h
  by_cases h1 : inAll p l ns rs = false
  · rw [if_pos h1] at h; exact absurd (by decide) h
  · rw [if_neg h1] at h
    by_cases h2 : p ∉ freeT ∧ ml = 0
    · rw [if_pos h2] at h; exact absurd (by decide) h
    · rw [if_neg h2] at h
      by_cases h3 : p ∈ machT ∧ (ml : Int) ≤ ns.headD 0
      · rw [if_pos h3] at h; exact absurd (by decide) h
      · rw [if_neg h3] at h
        by_cases h4 : p ∈ pktT ∧ (pl : Int) ≤ ns.headD 0
        · rw [if_pos h4] at h; exact absurd (by decide) h
        · refine ⟨by cases e : inAll p l ns rs with | true => rfl | false => exact absurd e h1, fun a b => h2 ⟨a, b⟩, fun a => ?_, fun a => ?_⟩
          · exact Int.not_le.mp fun b => h3 ⟨a, b⟩
          · exact Int.not_le.mp fun b => h4 ⟨a, b⟩
section
variable {p : Int} {l : List (Int × Int)} {ns rs : List Int} {pf : PF} {call : Vbdlao.Call} {X : Vbdlao.St × List Int}
theorem ref1 {ml pl : Nat} (h : inAll p l ns rs = false) : refusal p l ns rs ml pl = -1 := by unfold refusal; rw [if_pos h]
theorem ref2 {ml pl : Nat} (h : ¬ inAll p l ns rs = false) (h2 : p ∉ freeT ∧ ml = 0) : refusal p l ns rs ml pl = -2 := by unfold refusal; rw [if_neg h, if_pos h2]
theorem ref3 {ml pl : Nat} (h : ¬ inAll p l ns rs = false) (h2 : ¬ (p ∉ freeT ∧ ml = 0)) (h3 : p ∈ machT ∧ (ml : Int) ≤ ns.headD 0) : refusal p l ns rs ml pl = -3 := by unfold refusal; rw [if_neg h, if_neg h2, if_pos h3]
theorem ref4 {ml pl : Nat} (h : ¬ inAll p l ns rs = false) (h2 : ¬ (p ∉ freeT ∧ ml = 0)) (h3 : ¬ (p ∈ machT ∧ (ml : Int) ≤ ns.headD 0)) (h4 : p ∈ pktT ∧ (pl : Int) ≤ ns.headD 0) : refusal p l ns rs ml pl = -4 := by
  unfold refusal; rw [if_neg h, if_neg h2, if_neg h3, if_pos h4]
theorem ref0 {ml pl : Nat} (h : ¬ inAll p l ns rs = false) (h2 : ¬ (p ∉ freeT ∧ ml = 0)) (h3 : ¬ (p ∈ machT ∧ (ml : Int) ≤ ns.headD 0)) (h4 : ¬ (p ∈ pktT ∧ (pl : Int) ≤ ns.headD 0)) : refusal p l ns rs ml pl = 0 := by
  unfold refusal; rw [if_neg h, if_neg h2, if_neg h3, if_neg h4]
theorem perf_neg {r : Int} (h : refusal p l ns rs s.machines.length s.net.length = r) (hr : r < 0) : perfS pf p l s ns rs = (s, [r]) := by unfold perfS; rw [h, if_pos hr]
theorem perf_0 (h : refusal p l ns rs s.machines.length s.net.length = 0) : perfS pf p l s ns rs = pf.2 s ns rs := by unfold perfS; rw [h, if_neg (by decide)]
theorem r_true {call : Vbdlao.Call} (h1 : ¬ Vbdlao.ranges call = false) : Vbdlao.ranges call = true := by cases e : Vbdlao.ranges call with | true => rfl | false => exact absurd e h1
theorem perf_two (hin : inAll p l ns rs = Vbdlao.ranges call) (hf : p ∉ freeT) (ho : Vbdlao.isOpen call = false) (hfr : Vbdlao.isFrame call = false)
    (hst : Vbdlao.step s call = if Vbdlao.ranges call = false then (s, [-1]) else if s.machines = [] ∧ Vbdlao.isOpen call = false ∧ Vbdlao.isFrame call = false then (s, [-2]) else X)
    (k : Vbdlao.ranges call = true → ¬ inAll p l ns rs = false → ¬ (p ∉ freeT ∧ s.machines.length = 0) → perfS pf p l s ns rs = X) : perfS pf p l s ns rs = Vbdlao.step s call := by
  rw [hst]
  by_cases h1 : Vbdlao.ranges call = false
  · rw [if_pos h1]
    exact perf_neg (ref1 (hin.trans h1)) (by decide)
  · have h1' : ¬ inAll p l ns rs = false := by rw [hin]; exact h1
    rw [if_neg h1]
    by_cases h2 : s.machines.length = 0
    · rw [if_pos (show s.machines = [] ∧ Vbdlao.isOpen call = false ∧ Vbdlao.isFrame call = false from ⟨mnil.mpr h2, ho, hfr⟩)]
      exact perf_neg (ref2 h1' ⟨hf, h2⟩) (by decide)
    · rw [if_neg (show ¬ (s.machines = [] ∧ Vbdlao.isOpen call = false ∧ Vbdlao.isFrame call = false) from fun z => h2 (mnil.mp z.1))]
      exact k (r_true h1) h1' fun z => h2 z.2
theorem perf_mach {m : Int} {F : Nat → Vbdlao.St × List Int} (hin : inAll p l ns rs = Vbdlao.ranges call) (hf : p ∉ freeT) (hm : p ∈ machT) (hp : p ∉ pktT) (ho : Vbdlao.isOpen call = false) (hfr : Vbdlao.isFrame call = false) (hh : ns.headD 0 = m)
    (hst : Vbdlao.step s call = if Vbdlao.ranges call = false then (s, [-1]) else if s.machines = [] ∧ Vbdlao.isOpen call = false ∧ Vbdlao.isFrame call = false then (s, [-2]) else Vbdlao.onM s m F)
    (h0 : Vbdlao.ranges call = true → 0 ≤ m) (hF : Vbdlao.ranges call = true → 0 ≤ m → m < s.machines.length → F m.toNat = pf.2 s ns rs) : perfS pf p l s ns rs = Vbdlao.step s call := by
  refine perf_two hin hf ho hfr hst fun hr h1 h2 => ?_
  have hm0 := h0 hr
  unfold Vbdlao.onM Vbdlao.isM
  by_cases h3 : (s.machines.length : Int) ≤ m
  · rw [decide_eq_true hm0, decide_eq_false (show ¬ m < (s.machines.length : Int) by omega)]
    exact perf_neg (ref3 h1 h2 ⟨hm, by rw [hh]; exact h3⟩) (by decide)
  · rw [decide_eq_true hm0, decide_eq_true (show m < (s.machines.length : Int) by omega)]
    exact (perf_0 (ref0 h1 h2 (fun z => h3 (by rw [← hh]; exact z.2)) (fun z => hp z.1))).trans (hF hr hm0 (by omega)).symm
theorem perf_pkt {i : Int} {F : Nat → Vbdlao.Packet → Vbdlao.St × List Int} (hin : inAll p l ns rs = Vbdlao.ranges call) (hf : p ∉ freeT) (hm : p ∉ machT) (hp : p ∈ pktT) (ho : Vbdlao.isOpen call = false) (hfr : Vbdlao.isFrame call = false) (hh : ns.headD 0 = i)
    (hst : Vbdlao.step s call = if Vbdlao.ranges call = false then (s, [-1]) else if s.machines = [] ∧ Vbdlao.isOpen call = false ∧ Vbdlao.isFrame call = false then (s, [-2]) else Vbdlao.onI s i F)
    (h0 : Vbdlao.ranges call = true → 0 ≤ i) (hF : Vbdlao.ranges call = true → ∀ q, s.net[i.toNat]? = some q → F i.toNat q = pf.2 s ns rs) : perfS pf p l s ns rs = Vbdlao.step s call := by
  refine perf_two hin hf ho hfr hst fun hr h1 h2 => ?_
  have hi0 := h0 hr
  unfold Vbdlao.onI
  by_cases h3 : (s.net.length : Int) ≤ i
  · rw [List.getElem?_eq_none (show s.net.length ≤ i.toNat by omega)]
    exact perf_neg (ref4 h1 h2 (fun z => hm z.1) ⟨hp, by rw [hh]; exact h3⟩) (by decide)
  · have hlt : i.toNat < s.net.length := by omega
    rw [List.getElem?_eq_getElem hlt]
    exact (perf_0 (ref0 h1 h2 (fun z => hm z.1) (fun z => h3 (by rw [← hh]; exact z.2)))).trans (hF hr _ (List.getElem?_eq_getElem hlt)).symm
theorem perf_plain (hin : inAll p l ns rs = Vbdlao.ranges call) (hf : p ∉ freeT) (hm : p ∉ machT) (hp : p ∉ pktT) (ho : Vbdlao.isOpen call = false) (hfr : Vbdlao.isFrame call = false)
    (hst : Vbdlao.step s call = if Vbdlao.ranges call = false then (s, [-1]) else if s.machines = [] ∧ Vbdlao.isOpen call = false ∧ Vbdlao.isFrame call = false then (s, [-2]) else X)
    (hF : Vbdlao.ranges call = true → pf.2 s ns rs = X) : perfS pf p l s ns rs = Vbdlao.step s call := by
  refine perf_two hin hf ho hfr hst fun hr h1 h2 => ?_
  exact (perf_0 (ref0 h1 h2 (fun z => hm z.1) (fun z => hp z.1))).trans (hF hr)
theorem perf_free (hin : inAll p l ns rs = Vbdlao.ranges call) (hf : p ∈ freeT) (hm : p ∉ machT) (hp : p ∉ pktT) (ho : ¬ (Vbdlao.isOpen call = false ∧ Vbdlao.isFrame call = false))
    (hst : Vbdlao.step s call = if Vbdlao.ranges call = false then (s, [-1]) else if s.machines = [] ∧ Vbdlao.isOpen call = false ∧ Vbdlao.isFrame call = false then (s, [-2]) else X)
    (hF : Vbdlao.ranges call = true → pf.2 s ns rs = X) : perfS pf p l s ns rs = Vbdlao.step s call := by
  rw [hst]
  by_cases h1 : Vbdlao.ranges call = false
  · rw [if_pos h1]
    exact perf_neg (ref1 (hin.trans h1)) (by decide)
  · have h1' : ¬ inAll p l ns rs = false := by rw [hin]; exact h1
    rw [if_neg h1, if_neg (show ¬ (s.machines = [] ∧ Vbdlao.isOpen call = false ∧ Vbdlao.isFrame call = false) from fun z => ho z.2)]
    exact (perf_0 (ref0 h1' (fun z => z.1 hf) (fun z => hm z.1) (fun z => hp z.1))).trans (hF (r_true h1))
end
theorem in_one {k lo hi x : Int} (hL : tabL.lookup k = none) : inAll k [(lo, hi)] [x] [] = Vbdlao.within x lo hi := by
  unfold inAll
  rw [hL]
  show ((inP x (lo, hi) && true) && (decide ((0 : Int) ≤ 0) && true)) = _
  rw [decide_eq_true (Int.le_refl 0), Bool.and_true, Bool.and_true, Bool.and_true]
  rfl
theorem in_two {k lo hi lo' hi' x y : Int} (hL : tabL.lookup k = none) : inAll k [(lo, hi), (lo', hi')] [x, y] [] = (Vbdlao.within x lo hi && Vbdlao.within y lo' hi') := by
  unfold inAll
  rw [hL]
  show ((inP x (lo, hi) && (inP y (lo', hi') && true)) && (decide ((0 : Int) ≤ 0) && true)) = _
  rw [decide_eq_true (Int.le_refl 0), Bool.and_true, Bool.and_true, Bool.and_true]
  rfl
theorem in_three {k lo hi lo' hi' lo2 hi2 x y z : Int} (hL : tabL.lookup k = none) : inAll k [(lo, hi), (lo', hi'), (lo2, hi2)] [x, y, z] [] = (Vbdlao.within x lo hi && (Vbdlao.within y lo' hi' && Vbdlao.within z lo2 hi2)) := by
  unfold inAll
  rw [hL]
  show ((inP x (lo, hi) && (inP y (lo', hi') && (inP z (lo2, hi2) && true))) && (decide ((0 : Int) ≤ 0) && true)) = _
  rw [decide_eq_true (Int.le_refl 0), Bool.and_true, Bool.and_true, Bool.and_true]
  rfl
theorem in_zero {k : Int} (hL : tabL.lookup k = none) : inAll k [] [] [] = true := by
  unfold inAll
  rw [hL]
  rfl
theorem bytes_ok {rs : List Int} {n : Nat} : (decide ((rs.length : Int) ≤ (n : Int)) && rs.all isByte) = Vbdlao.bytesOk rs n := by
  unfold Vbdlao.bytesOk
  congr 1
  exact decide_eq_decide.mpr (by omega)
theorem in_log {x : Int} {rs : List Int} : inAll 1 [(0, 3)] [x] rs = (Vbdlao.within x 0 3 && Vbdlao.bytesOk rs 16) := by
  unfold inAll
  rw [show tabL.lookup 1 = some 16 from rfl]
  show ((inP x (0, 3) && true) && (decide ((rs.length : Int) ≤ ((16 : Nat) : Int)) && rs.all isByte)) = _
  rw [bytes_ok, Bool.and_true]
  rfl
theorem in_frame {rs : List Int} : inAll 19 [] [] rs = Vbdlao.bytesOk rs 40 := by
  unfold inAll
  rw [show tabL.lookup 19 = some 40 from rfl]
  show (true && (decide ((rs.length : Int) ≤ ((40 : Nat) : Int)) && rs.all isByte)) = _
  rw [bytes_ok, Bool.true_and]
theorem w_le {x lo hi : Int} (h : Vbdlao.within x lo hi = true) : lo ≤ x ∧ x ≤ hi := by
  unfold Vbdlao.within at h
  rw [Bool.and_eq_true, decide_eq_true_eq, decide_eq_true_eq] at h
  exact h
theorem ok_bytes {rs : List Int} {n : Nat} (h : Vbdlao.bytesOk rs n = true) : rs.length ≤ n ∧ ∀ z ∈ rs, 0 ≤ z ∧ z ≤ 255 := by
  unfold Vbdlao.bytesOk at h
  rw [Bool.and_eq_true, decide_eq_true_eq, List.all_eq_true] at h
  exact ⟨h.1, fun z hz => w_le (h.2 z hz)⟩
theorem on_mach {x : Int} {rs : List Int} {ml : Nat} (h1 : Vbdlao.within x 0 3 = true) (h2 : [x].headD 0 < (s.machines.length : Int)) : onMach s [x] rs := by
  obtain ⟨a, b⟩ := w_le h1
  have h3 : x < (s.machines.length : Int) := h2
  exact ⟨x.toNat, by rw [Int.toNat_of_nonneg a], by omega⟩
theorem pre_p {x : Int} {rs : List Int} (h1 : Vbdlao.within x 0 199 = true) (h2 : [x].headD 0 < (s.net.length : Int)) : preP s [x] rs := by
  obtain ⟨a, b⟩ := w_le h1
  have h3 : x < (s.net.length : Int) := h2
  exact ⟨x.toNat, by rw [Int.toNat_of_nonneg a], by omega⟩
theorem pre_n {x : Int} {rs : List Int} (h1 : Vbdlao.within x 1 100 = true) : preN s [x] rs := by
  obtain ⟨a, b⟩ := w_le h1
  exact ⟨x.toNat, by rw [Int.toNat_of_nonneg (by omega)], by omega⟩
theorem good_cut (x : Int) : Good s 7 [x] [] := by
  refine ⟨_, _, rfl, rfl, rfl, fun _ => by simp, fun h => ?_, ?_⟩
  · obtain ⟨h1, _, h3, _⟩ := ref_ok h
    rw [in_one rfl] at h1
    exact on_mach (ml := 0) (rs := []) h1 (h3 (by decide))
  · exact perf_mach (m := x) (in_one rfl) (by decide) (by decide) (by decide) rfl rfl rfl rfl (fun h => (w_le h).1) (fun _ _ _ => rfl)
theorem good_back (x : Int) : Good s 8 [x] [] := by
  refine ⟨_, _, rfl, rfl, rfl, fun _ => by simp, fun h => ?_, ?_⟩
  · obtain ⟨h1, _, h3, _⟩ := ref_ok h
    rw [in_one rfl] at h1
    exact on_mach (ml := 0) (rs := []) h1 (h3 (by decide))
  · exact perf_mach (m := x) (in_one rfl) (by decide) (by decide) (by decide) rfl rfl rfl rfl (fun h => (w_le h).1) (fun _ _ _ => rfl)
theorem good_lose (x : Int) : Good s 9 [x] [] := by
  refine ⟨_, _, rfl, rfl, rfl, fun _ => by simp, fun h => ?_, ?_⟩
  · obtain ⟨h1, _, h3, _⟩ := ref_ok h
    rw [in_one rfl] at h1
    exact on_mach (ml := 0) (rs := []) h1 (h3 (by decide))
  · exact perf_mach (m := x) (in_one rfl) (by decide) (by decide) (by decide) rfl rfl rfl rfl (fun h => (w_le h).1) (fun _ _ _ => rfl)
theorem good_sender (x : Int) : Good s 14 [x] [] := by
  refine ⟨_, _, rfl, rfl, rfl, fun _ => by simp, fun h => ?_, ?_⟩
  · obtain ⟨h1, _, h3, _⟩ := ref_ok h
    rw [in_one rfl] at h1
    exact on_mach (ml := 0) (rs := []) h1 (h3 (by decide))
  · exact perf_mach (m := x) (in_one rfl) (by decide) (by decide) (by decide) rfl rfl rfl rfl (fun h => (w_le h).1) (fun _ _ _ => rfl)
theorem good_station (x : Int) : Good s 15 [x] [] := by
  refine ⟨_, _, rfl, rfl, rfl, fun _ => by simp, fun h => ?_, ?_⟩
  · obtain ⟨h1, _, h3, _⟩ := ref_ok h
    rw [in_one rfl] at h1
    exact on_mach (ml := 0) (rs := []) h1 (h3 (by decide))
  · exact perf_mach (m := x) (in_one rfl) (by decide) (by decide) (by decide) rfl rfl rfl rfl (fun h => (w_le h).1) (fun _ _ _ => rfl)
theorem good_whole (x : Int) : Good s 18 [x] [] := by
  refine ⟨_, _, rfl, rfl, rfl, fun _ => by simp, fun h => ?_, ?_⟩
  · obtain ⟨h1, _, h3, _⟩ := ref_ok h
    rw [in_one rfl] at h1
    exact on_mach (ml := 0) (rs := []) h1 (h3 (by decide))
  · exact perf_mach (m := x) (in_one rfl) (by decide) (by decide) (by decide) rfl rfl rfl rfl (fun h => (w_le h).1) (fun _ _ _ => rfl)
theorem good_deliver (x : Int) : Good s 3 [x] [] := by
  refine ⟨_, _, rfl, rfl, rfl, fun _ => by simp, fun h => ?_, ?_⟩
  · obtain ⟨h1, _, _, h4⟩ := ref_ok h
    rw [in_one rfl] at h1
    exact pre_p (rs := []) h1 (h4 (by decide))
  · exact perf_pkt (i := x) (in_one rfl) (by decide) (by decide) (by decide) rfl rfl rfl rfl (fun h => (w_le h).1) (fun _ q hq => by show _ = deliverS s [x] []; unfold deliverS; rw [show ([x].headD 0).toNat = x.toNat from rfl, hq])
theorem good_drop (x : Int) : Good s 4 [x] [] := by
  refine ⟨_, _, rfl, rfl, rfl, fun _ => by simp, fun h => ?_, ?_⟩
  · obtain ⟨h1, _, _, h4⟩ := ref_ok h
    rw [in_one rfl] at h1
    exact pre_p (rs := []) h1 (h4 (by decide))
  · exact perf_pkt (i := x) (in_one rfl) (by decide) (by decide) (by decide) rfl rfl rfl rfl (fun h => (w_le h).1) (fun _ q hq => rfl)
theorem good_double (x : Int) : Good s 5 [x] [] := by
  refine ⟨_, _, rfl, rfl, rfl, fun _ => by simp, fun h => ?_, ?_⟩
  · obtain ⟨h1, _, _, h4⟩ := ref_ok h
    rw [in_one rfl] at h1
    exact pre_p (rs := []) h1 (h4 (by decide))
  · exact perf_pkt (i := x) (in_one rfl) (by decide) (by decide) (by decide) rfl rfl rfl rfl (fun h => (w_le h).1) (fun _ q hq => by show _ = doubleS s [x] []; unfold doubleS; rw [show ([x].headD 0).toNat = x.toNat from rfl, hq])
theorem good_packet (x : Int) : Good s 13 [x] [] := by
  refine ⟨_, _, rfl, rfl, rfl, fun _ => by simp, fun h => ?_, ?_⟩
  · obtain ⟨h1, _, _, h4⟩ := ref_ok h
    rw [in_one rfl] at h1
    exact pre_p (rs := []) h1 (h4 (by decide))
  · exact perf_pkt (i := x) (in_one rfl) (by decide) (by decide) (by decide) rfl rfl rfl rfl (fun h => (w_le h).1) (fun _ q hq => by show _ = packetS s [x] []; unfold packetS; rw [show ([x].headD 0).toNat = x.toNat from rfl, hq])
theorem good_tick (x : Int) : Good s 2 [x] [] := by
  refine ⟨_, _, rfl, rfl, rfl, fun h => absurd h (by decide), fun h => ?_, ?_⟩
  · obtain ⟨h1, _, _, _⟩ := ref_ok h
    rw [in_one rfl] at h1
    exact pre_n (s := s) (rs := []) h1
  · exact perf_plain (in_one rfl) (by decide) (by decide) (by decide) rfl rfl rfl (fun _ => rfl)
theorem good_calm (x : Int) : Good s 11 [x] [] := by
  refine ⟨_, _, rfl, rfl, rfl, fun h => absurd h (by decide), fun h => ?_, ?_⟩
  · obtain ⟨h1, _, _, _⟩ := ref_ok h
    rw [in_one rfl] at h1
    exact pre_n (s := s) (rs := []) h1
  · exact perf_plain (in_one rfl) (by decide) (by decide) (by decide) rfl rfl rfl (fun _ => rfl)
theorem good_blink : Good s 10 [] [] := by
  refine ⟨_, _, rfl, rfl, rfl, fun h => absurd h (by decide), fun _ => trivial, ?_⟩
  exact perf_plain (in_zero rfl) (by decide) (by decide) (by decide) rfl rfl rfl (fun _ => rfl)
theorem good_net : Good s 12 [] [] := by
  refine ⟨_, _, rfl, rfl, rfl, fun h => absurd h (by decide), fun _ => trivial, ?_⟩
  exact perf_plain (in_zero rfl) (by decide) (by decide) (by decide) rfl rfl rfl (fun _ => rfl)
theorem good_totals : Good s 20 [] [] := by
  refine ⟨_, _, rfl, rfl, rfl, fun h => absurd h (by decide), fun _ => trivial, ?_⟩
  exact perf_plain (in_zero rfl) (by decide) (by decide) (by decide) rfl rfl rfl (fun _ => rfl)
theorem good_open (x y z : Int) : Good s 0 [x, y, z] [] := by
  refine ⟨_, _, rfl, rfl, rfl, fun h => absurd h (by decide), fun h => ?_, ?_⟩
  · obtain ⟨h1, _, _, _⟩ := ref_ok h
    rw [in_three rfl, Bool.and_eq_true, Bool.and_eq_true] at h1
    obtain ⟨a1, a2⟩ := w_le h1.1
    obtain ⟨b1, b2⟩ := w_le h1.2.1
    obtain ⟨c1, c2⟩ := w_le h1.2.2
    exact ⟨x.toNat, y.toNat, z.toNat, by rw [Int.toNat_of_nonneg (by omega), Int.toNat_of_nonneg (by omega), Int.toNat_of_nonneg (by omega)], by omega⟩
  · exact perf_free (in_three rfl) (by decide) (by decide) (by decide) (fun h => Bool.noConfusion h.1) rfl (fun _ => rfl)
theorem good_frame (rs : List Int) : Good s 19 [] rs := by
  refine ⟨_, _, rfl, rfl, rfl, fun h => absurd h (by decide), fun h => ?_, ?_⟩
  · obtain ⟨h1, _, _, _⟩ := ref_ok h
    rw [in_frame] at h1
    exact ok_bytes h1
  · exact perf_free in_frame (by decide) (by decide) (by decide) (fun h => Bool.noConfusion h.2) rfl (fun _ => rfl)
theorem good_log (x : Int) (rs : List Int) : Good s 1 [x] rs := by
  refine ⟨_, _, rfl, rfl, rfl, fun _ => by simp, fun h => ?_, ?_⟩
  · obtain ⟨h1, _, h3, _⟩ := ref_ok h
    rw [in_log, Bool.and_eq_true] at h1
    exact ⟨on_mach (ml := 0) (rs := rs) h1.1 (h3 (by decide)), ok_bytes h1.2⟩
  · exact perf_mach (m := x) in_log (by decide) (by decide) (by decide) rfl rfl rfl rfl (fun h => (w_le ((Bool.and_eq_true _ _).mp h).1).1) (fun _ _ _ => rfl)
theorem good_spoil (x y z : Int) : Good s 6 [x, y, z] [] := by
  refine ⟨_, _, rfl, rfl, rfl, fun _ => by simp, fun h => ?_, ?_⟩
  · obtain ⟨h1, _, _, h4⟩ := ref_ok h
    rw [in_three rfl, Bool.and_eq_true, Bool.and_eq_true] at h1
    obtain ⟨a1, a2⟩ := w_le h1.1
    obtain ⟨b1, b2⟩ := w_le h1.2.1
    obtain ⟨c1, c2⟩ := w_le h1.2.2
    have h5 : x < (s.net.length : Int) := h4 (by decide)
    exact ⟨x.toNat, y.toNat, z.toNat, by rw [Int.toNat_of_nonneg (by omega), Int.toNat_of_nonneg (by omega), Int.toNat_of_nonneg (by omega)], by omega⟩
  · exact perf_pkt (i := x) (in_three rfl) (by decide) (by decide) (by decide) rfl rfl rfl rfl (fun h => (w_le ((Bool.and_eq_true _ _).mp h).1).1) (fun _ q hq => by show _ = spoilS s [x, y, z] []; unfold spoilS; dsimp only; rw [hq])
theorem on_mj {x y : Int} {rs : List Int} (h1 : (Vbdlao.within x 0 3 && Vbdlao.within y 0 199) = true) (h2 : [x, y].headD 0 < (s.machines.length : Int)) : onMJ s [x, y] rs := by
  rw [Bool.and_eq_true] at h1
  obtain ⟨a1, a2⟩ := w_le h1.1
  obtain ⟨b1, b2⟩ := w_le h1.2
  have h3 : x < (s.machines.length : Int) := h2
  exact ⟨x.toNat, y.toNat, by rw [Int.toNat_of_nonneg (by omega), Int.toNat_of_nonneg (by omega)], by omega, by omega⟩
theorem good_copy (x y : Int) : Good s 16 [x, y] [] := by
  refine ⟨_, _, rfl, rfl, rfl, fun _ => by simp, fun h => ?_, ?_⟩
  · obtain ⟨h1, _, h3, _⟩ := ref_ok h
    rw [in_two rfl] at h1
    exact on_mj (rs := []) h1 (h3 (by decide))
  · refine perf_mach (m := x) (in_two rfl) (by decide) (by decide) (by decide) rfl rfl rfl rfl (fun h => (w_le ((Bool.and_eq_true _ _).mp h).1).1) (fun _ _ _ => ?_)
    show _ = (s, evOf (Vbdlao.desk s x.toNat).copy y.toNat)
    unfold evOf
    cases (Vbdlao.desk s x.toNat).copy[y.toNat]? <;> rfl
theorem good_event (x y : Int) : Good s 17 [x, y] [] := by
  refine ⟨_, _, rfl, rfl, rfl, fun _ => by simp, fun h => ?_, ?_⟩
  · obtain ⟨h1, _, h3, _⟩ := ref_ok h
    rw [in_two rfl] at h1
    exact on_mj (rs := []) h1 (h3 (by decide))
  · refine perf_mach (m := x) (in_two rfl) (by decide) (by decide) (by decide) rfl rfl rfl rfl (fun h => (w_le ((Bool.and_eq_true _ _).mp h).1).1) (fun _ _ _ => ?_)
    show _ = (s, evOf (Vbdlao.machine s x.toNat).log y.toNat)
    unfold evOf
    cases (Vbdlao.machine s x.toNat).log[y.toNat]? <;> rfl
theorem list0 {l : List Int} (h : l.length = 0) : l = [] := List.length_eq_zero_iff.mp h
theorem list1 {l : List Int} (h : l.length = 1) : ∃ x, l = [x] := by
  match l, h with
  | [x], _ => exact ⟨x, rfl⟩
theorem list2 {l : List Int} (h : l.length = 2) : ∃ x y, l = [x, y] := by
  match l, h with
  | [x, y], _ => exact ⟨x, y, rfl⟩
theorem list3 {l : List Int} (h : l.length = 3) : ∃ x y z, l = [x, y, z] := by
  match l, h with
  | [x, y, z], _ => exact ⟨x, y, z, rfl⟩
def rowsOf (kk : Nat) (rs : List Int) : List (List Int) := if kk = 0 then [] else [rs]
theorem listOf_told (l : List Int) : Vbdlao.listOf (VbdlaoNeutral.told l) = some l := by
  show (if (l.length : Int) = (l.length : Int) then some l else none) = some l
  rw [if_pos rfl]
theorem good_all {p : Int} {n kk : Nat} {ns rs : List Int} (h : PyVbdlao.shape p = some (n, kk)) (hn : ns.length = n) (hr : kk = 0 → rs = []) :
    Good s p ns rs ∧ VbdlaoNeutral.step s (PyVbdlao.whole ((p :: ns) :: rowsOf kk rs)) = Vbdlao.step s (callV p ns rs) ∧ kk = (if (tabL.lookup p).isSome = true then 1 else 0) := by
  unfold PyVbdlao.shape at h
  by_cases h0 : p = 0
  · subst h0
    rw [if_pos rfl] at h
    cases h
    obtain ⟨x, y, z, rfl⟩ := list3 hn
    cases hr rfl
    exact ⟨good_open x y z, rfl, rfl⟩
  rw [if_neg h0] at h
  by_cases h1 : p = 1
  · subst h1
    rw [if_pos rfl] at h
    cases h
    obtain ⟨x, rfl⟩ := list1 hn
    refine ⟨good_log x rs, ?_, rfl⟩
    show Vbdlao.stepRaw s (1 :: x :: VbdlaoNeutral.told rs) = _
    unfold Vbdlao.stepRaw
    rw [show Vbdlao.decode (1 :: x :: VbdlaoNeutral.told rs) = (Vbdlao.listOf (VbdlaoNeutral.told rs)).map (fun e => Vbdlao.Call.log x e) from rfl, listOf_told]
    rfl
  rw [if_neg h1] at h
  by_cases h2 : p = 2
  · subst h2
    rw [if_pos rfl] at h
    cases h
    obtain ⟨x, rfl⟩ := list1 hn
    cases hr rfl
    exact ⟨good_tick x, rfl, rfl⟩
  rw [if_neg h2] at h
  by_cases h3 : p = 3
  · subst h3
    rw [if_pos rfl] at h
    cases h
    obtain ⟨x, rfl⟩ := list1 hn
    cases hr rfl
    exact ⟨good_deliver x, rfl, rfl⟩
  rw [if_neg h3] at h
  by_cases h4 : p = 4
  · subst h4
    rw [if_pos rfl] at h
    cases h
    obtain ⟨x, rfl⟩ := list1 hn
    cases hr rfl
    exact ⟨good_drop x, rfl, rfl⟩
  rw [if_neg h4] at h
  by_cases h5 : p = 5
  · subst h5
    rw [if_pos rfl] at h
    cases h
    obtain ⟨x, rfl⟩ := list1 hn
    cases hr rfl
    exact ⟨good_double x, rfl, rfl⟩
  rw [if_neg h5] at h
  by_cases h6 : p = 6
  · subst h6
    rw [if_pos rfl] at h
    cases h
    obtain ⟨x, y, z, rfl⟩ := list3 hn
    cases hr rfl
    exact ⟨good_spoil x y z, rfl, rfl⟩
  rw [if_neg h6] at h
  by_cases h7 : p = 7
  · subst h7
    rw [if_pos rfl] at h
    cases h
    obtain ⟨x, rfl⟩ := list1 hn
    cases hr rfl
    exact ⟨good_cut x, rfl, rfl⟩
  rw [if_neg h7] at h
  by_cases h8 : p = 8
  · subst h8
    rw [if_pos rfl] at h
    cases h
    obtain ⟨x, rfl⟩ := list1 hn
    cases hr rfl
    exact ⟨good_back x, rfl, rfl⟩
  rw [if_neg h8] at h
  by_cases h9 : p = 9
  · subst h9
    rw [if_pos rfl] at h
    cases h
    obtain ⟨x, rfl⟩ := list1 hn
    cases hr rfl
    exact ⟨good_lose x, rfl, rfl⟩
  rw [if_neg h9] at h
  by_cases h10 : p = 10
  · subst h10
    rw [if_pos rfl] at h
    cases h
    cases list0 hn
    cases hr rfl
    exact ⟨good_blink, rfl, rfl⟩
  rw [if_neg h10] at h
  by_cases h11 : p = 11
  · subst h11
    rw [if_pos rfl] at h
    cases h
    obtain ⟨x, rfl⟩ := list1 hn
    cases hr rfl
    exact ⟨good_calm x, rfl, rfl⟩
  rw [if_neg h11] at h
  by_cases h12 : p = 12
  · subst h12
    rw [if_pos rfl] at h
    cases h
    cases list0 hn
    cases hr rfl
    exact ⟨good_net, rfl, rfl⟩
  rw [if_neg h12] at h
  by_cases h13 : p = 13
  · subst h13
    rw [if_pos rfl] at h
    cases h
    obtain ⟨x, rfl⟩ := list1 hn
    cases hr rfl
    exact ⟨good_packet x, rfl, rfl⟩
  rw [if_neg h13] at h
  by_cases h14 : p = 14
  · subst h14
    rw [if_pos rfl] at h
    cases h
    obtain ⟨x, rfl⟩ := list1 hn
    cases hr rfl
    exact ⟨good_sender x, rfl, rfl⟩
  rw [if_neg h14] at h
  by_cases h15 : p = 15
  · subst h15
    rw [if_pos rfl] at h
    cases h
    obtain ⟨x, rfl⟩ := list1 hn
    cases hr rfl
    exact ⟨good_station x, rfl, rfl⟩
  rw [if_neg h15] at h
  by_cases h16 : p = 16
  · subst h16
    rw [if_pos rfl] at h
    cases h
    obtain ⟨x, y, rfl⟩ := list2 hn
    cases hr rfl
    exact ⟨good_copy x y, rfl, rfl⟩
  rw [if_neg h16] at h
  by_cases h17 : p = 17
  · subst h17
    rw [if_pos rfl] at h
    cases h
    obtain ⟨x, y, rfl⟩ := list2 hn
    cases hr rfl
    exact ⟨good_event x y, rfl, rfl⟩
  rw [if_neg h17] at h
  by_cases h18 : p = 18
  · subst h18
    rw [if_pos rfl] at h
    cases h
    obtain ⟨x, rfl⟩ := list1 hn
    cases hr rfl
    exact ⟨good_whole x, rfl, rfl⟩
  rw [if_neg h18] at h
  by_cases h19 : p = 19
  · subst h19
    rw [if_pos rfl] at h
    cases h
    cases list0 hn
    refine ⟨good_frame rs, ?_, rfl⟩
    show Vbdlao.stepRaw s (19 :: VbdlaoNeutral.told rs) = _
    unfold Vbdlao.stepRaw
    rw [show Vbdlao.decode (19 :: VbdlaoNeutral.told rs) = (Vbdlao.listOf (VbdlaoNeutral.told rs)).map (fun e => Vbdlao.Call.frame e) from rfl, listOf_told]
    rfl
  rw [if_neg h19] at h
  by_cases h20 : p = 20
  · subst h20
    rw [if_pos rfl] at h
    cases h
    cases list0 hn
    cases hr rfl
    exact ⟨good_totals, rfl, rfl⟩
  rw [if_neg h20] at h
  cases h
end Nw
end
section
set_option Elab.async false
set_option linter.all false
set_option maxRecDepth 100000
set_option pp.maxSteps 40
set_option pp.deepTerms false
set_option maxHeartbeats 2000000
namespace Nw
open PySem PySem.Spec PyProof.Rows L2
theorem cutI_nn {ns : List Int} {i j : Nat} (hi : i ≤ ns.length) (hj : j ≤ ns.length) : cutV (ns.map V.int) (some (i : Int)) (some (j : Int)) = ((ns.drop i).take (j - i)).map V.int := by
  unfold cutV
  rw [HT.sIx_nat, HT.sIx_nat, List.length_map, Nat.min_eq_left hi, Nat.min_eq_left hj, ← List.map_drop, ← List.map_take]
structure One (ns : List Int) (pos f : Nat) (cs : List (List (List Int))) (p : Int) (n kk : Nat) (xs rs : List Int) (f' pos' : Nat) (cs' : List (List (List Int))) : Prop where
  at_ : ns[pos]? = some p
  sh : PyVbdlao.shape p = some (n, kk)
  hxs : xs = (ns.drop (pos + 1)).take n
  hlen : xs.length = n
  fit : pos + 1 + n ≤ ns.length
  hcs : cs = ((p :: xs) :: rowsOf kk rs) :: cs'
  r0 : kk = 0 → rs = [] ∧ pos' = pos + 1 + n
  r1 : kk = 1 → ∃ m : Nat, ns[pos + 1 + n]? = some (m : Int) ∧ pos + 1 + n + 1 + m ≤ ns.length ∧ rs = (ns.drop (pos + 1 + n + 1)).take m ∧ pos' = pos + 1 + n + 1 + m
  nx : PyFlat.calls PyVbdlao.shape f' (ns.drop pos') = some cs'
  le : pos' ≤ ns.length
theorem shape_kk {p : Int} {n kk : Nat} (h : PyVbdlao.shape p = some (n, kk)) : kk = 0 ∨ kk = 1 := by
  have e := (good_all (s := Vbdlao.start) (ns := List.replicate n 0) (rs := []) h (by simp) (fun _ => rfl)).2.2
  split at e
  · exact .inr e
  · exact .inl e
theorem one_of {ns : List Int} {pos f : Nat} {cs : List (List (List Int))} (h : PyFlat.calls PyVbdlao.shape f (ns.drop pos) = some cs) (hp : pos < ns.length) : ∃ p n kk xs rs f' pos' cs', One ns pos f cs p n kk xs rs f' pos' cs' := by
  have e0 : ns.drop pos = ns[pos] :: ns.drop (pos + 1) := List.drop_eq_getElem_cons hp
  rw [e0] at h
  cases f with
  | zero => cases h
  | succ f =>
    have h' : (match PyFlat.call PyVbdlao.shape (ns[pos] :: ns.drop (pos + 1)) with
      | none => none
      | some (c, t) => match PyFlat.calls PyVbdlao.shape f t with
        | none => none
        | some cs => some (c :: cs)) = some cs := h
    cases hc : PyFlat.call PyVbdlao.shape (ns[pos] :: ns.drop (pos + 1)) with
    | none => rw [hc] at h'; cases h'
    | some ct =>
      obtain ⟨c, t⟩ := ct
      rw [hc] at h'
      dsimp only at h'
      cases hcs : PyFlat.calls PyVbdlao.shape f t with
      | none => rw [hcs] at h'; cases h'
      | some cs' =>
        rw [hcs] at h'
        cases h'
        have hc' : (match PyVbdlao.shape ns[pos] with
          | none => none
          | some (n, k) => if (ns.drop (pos + 1)).length < n then none else match PyFlat.rows k ((ns.drop (pos + 1)).drop n) with
            | none => none
            | some (xs, t) => some ((ns[pos] :: (ns.drop (pos + 1)).take n) :: xs, t)) = some (c, t) := hc
        cases hs : PyVbdlao.shape ns[pos] with
        | none => rw [hs] at hc'; cases hc'
        | some nk =>
          obtain ⟨n, kk⟩ := nk
          rw [hs] at hc'
          dsimp only at hc'
          by_cases hl : (ns.drop (pos + 1)).length < n
          · rw [if_pos hl] at hc'; cases hc'
          · rw [if_neg hl, List.drop_drop] at hc'
            rw [List.length_drop] at hl
            have hxl : ((ns.drop (pos + 1)).take n).length = n := by rw [List.length_take, List.length_drop]; omega
            rcases shape_kk hs with rfl | rfl
            · have e1 : PyFlat.rows 0 (ns.drop (pos + 1 + n)) = some ([], ns.drop (pos + 1 + n)) := rfl
              rw [e1] at hc'
              cases hc'
              exact ⟨ns[pos], n, 0, _, [], f, pos + 1 + n, cs', List.getElem?_eq_getElem hp, hs, rfl, hxl, by omega, rfl, fun _ => ⟨rfl, rfl⟩, fun z => (by cases z), hcs, by omega⟩
            · cases hr : PyFlat.row (ns.drop (pos + 1 + n)) with
              | none =>
                have e1 : PyFlat.rows 1 (ns.drop (pos + 1 + n)) = none := by show (match PyFlat.row (ns.drop (pos + 1 + n)) with | none => none | some (x, s) => _) = none; rw [hr]
                rw [e1] at hc'; cases hc'
              | some xt =>
                obtain ⟨x, t'⟩ := xt
                have e1 : PyFlat.rows 1 (ns.drop (pos + 1 + n)) = some ([x], t') := by show (match PyFlat.row (ns.drop (pos + 1 + n)) with | none => none | some (x, s) => _) = some ([x], t'); rw [hr]; rfl
                rw [e1] at hc'
                cases hc'
                by_cases hlt : pos + 1 + n < ns.length
                · have e2 : ns.drop (pos + 1 + n) = ns[pos + 1 + n] :: ns.drop (pos + 1 + n + 1) := List.drop_eq_getElem_cons hlt
                  rw [e2] at hr
                  have hr' : (if 0 ≤ ns[pos + 1 + n] ∧ ns[pos + 1 + n].toNat ≤ (ns.drop (pos + 1 + n + 1)).length then some ((ns.drop (pos + 1 + n + 1)).take ns[pos + 1 + n].toNat, (ns.drop (pos + 1 + n + 1)).drop ns[pos + 1 + n].toNat) else none) = some (x, t) := hr
                  by_cases hc2 : 0 ≤ ns[pos + 1 + n] ∧ ns[pos + 1 + n].toNat ≤ (ns.drop (pos + 1 + n + 1)).length
                  · rw [if_pos hc2, List.drop_drop] at hr'
                    cases hr'
                    have hle := hc2.2
                    rw [List.length_drop] at hle
                    refine ⟨ns[pos], n, 1, _, _, f, pos + 1 + n + 1 + ns[pos + 1 + n].toNat, cs', List.getElem?_eq_getElem hp, hs, rfl, hxl, by omega, rfl, fun z => (by cases z), fun _ => ⟨ns[pos + 1 + n].toNat, ?_, by omega, rfl, rfl⟩, hcs, by omega⟩
                    rw [List.getElem?_eq_getElem hlt, Int.toNat_of_nonneg hc2.1]
                  · rw [if_neg hc2] at hr'; cases hr'
                · rw [List.drop_eq_nil_of_le (by omega)] at hr
                  cases hr
def spAns (K : PySem.W.Frag) : Sp := fun vs H Q _ => ∃ (l : Addr) (ns : List Int), vs = [.ref l] ∧ SqL K H l (ns.map V.int) ∧ ns.length ≤ 16000 ∧ PyVbdlao.answers_asked ns = true ∧ ∀ (H' : Hp) (p : Addr), H' p = some (.lst ((PyVbdlao.answers ns).map V.int)) → Q (.ref p) H'
theorem keepL {K : PySem.W.Frag} {H : Hp} {l : Addr} {xs : List V} (h : SqL K H l xs) : ∃ F : List Fact, Holds F H ∧ ∀ H', (∀ p ∈ F, H' p.1 = some p.2) → SqL K H' l xs := by
  rcases h with (h | ⟨o, h⟩) | h
  · exact ⟨[(l, .lst xs)], ⟨fun p hp => by rw [List.mem_singleton.mp hp]; exact h, by simp⟩, fun H' hF => .inl (.inl (hF _ (List.mem_singleton.mpr rfl)))⟩
  · exact ⟨[(l, .frz o (.lst xs))], ⟨fun p hp => by rw [List.mem_singleton.mp hp]; exact h, by simp⟩, fun H' hF => .inl (.inr ⟨o, hF _ (List.mem_singleton.mpr rfl)⟩)⟩
  · exact ⟨[], ⟨fun p hp => (by cases hp), by simp⟩, fun H' _ => .inr h⟩
theorem wf0 : Wf 0 Vbdlao.start := ⟨rfl, Nat.zero_le _, Nat.zero_le _, fun x hx => (by cases hx), fun x hx => (by cases hx), Nat.zero_le _, fun x hx => (by cases hx)⟩
theorem played_cons (s : Vbdlao.St) (c : List (List Int)) (cs : List (List (List Int))) : PyFlat.told (PyFlat.played VbdlaoNeutral.step s ((c :: cs).map PyVbdlao.whole)) =
    (((VbdlaoNeutral.step s (PyVbdlao.whole c)).2.length : Int) :: (VbdlaoNeutral.step s (PyVbdlao.whole c)).2) ++ PyFlat.told (PyFlat.played VbdlaoNeutral.step (VbdlaoNeutral.step s (PyVbdlao.whole c)).1 (cs.map PyVbdlao.whole)) := by
  unfold PyFlat.told
  rw [List.map_cons]
  show List.flatMap _ ((VbdlaoNeutral.step s (PyVbdlao.whole c)).2 :: PyFlat.played VbdlaoNeutral.step (VbdlaoNeutral.step s (PyVbdlao.whole c)).1 (cs.map PyVbdlao.whole)) = _
  rw [List.flatMap_cons]
section
variable {P : Program} {w : World} {K : PySem.W.Frag} {mg : Str → Option Value} {base : Heap} {a : Adr} {rk : List (Int × V)}
theorem ok_answers (T : Txt K mg a) (B : Tab K a rk) : FnOk P w K mg base CX0 14 a.f_answers a.d_answers p_answers (spAns K) := by
  refine T.answers.F.ok sc_answers (fun vs H Q E h => ?_) (fun cdv A outer s H vs Q E hr h => ?_)
  · obtain ⟨l, ns, rfl, _⟩ := h
    rfl
  · obtain ⟨l, ns, rfl, hS, hlen, hask, q⟩ := h
    refine ⟨_, (pss_cons (ps_set (i := 1) sc_answers.nd rfl (Or.inl rfl) (pe_make0 T.Ward.mkr (ok_Ward_init T) (hr.mono (by decide)) rfl T.Ward.mg T.Ward.b .nil pass0))
      (pss_cons (ps_set (i := 2) sc_answers.nd rfl (Or.inl rfl) (pe_lst pa_nil))
      (pss_cons (ps_set (i := 3) sc_answers.nd rfl (Or.inl rfl) pe_int)
      (pss_cons (ps_while PassesOwn.never (pt_cmpR op_lt (pv 3) (pe_callB call_len_seq rfl T.b_len PySem.boot_len (pa_cons (pv 0) pa_nil)) (nomark _)) (pss_cons (ps_set (i := 4) sc_answers.nd rfl (Or.inl rfl) (pe_ix ix_list (pv 0) (pv 3) (fun _ _ => rfl)))
      (pss_cons (ps_set (i := 5) sc_answers.nd rfl (Or.inl rfl) (pe_op op_add (pe_op op_add (pv 3) pe_int) (pe_call (ok_count_numbers T B) (hr.mono (by decide)) rfl T.count_numbers.mg T.count_numbers.F.kp T.count_numbers.b .nil pass0 (pa_cons (pv 4) pa_nil))))
      (pss_cons (ps_set (i := 6) sc_answers.nd rfl (Or.inl rfl) (pe_slice sl_list (pv 0) (po_some (pe_op op_add (pv 3) pe_int)) (po_some (pv 5))))
      (pss_cons (ps_set (i := 7) sc_answers.nd rfl (Or.inl rfl) (pe_lst pa_nil))
      (pss_cons (ps_set (i := 3) sc_answers.nd rfl (Or.inl rfl) (pv 5))
      (pss_cons (ps_if (pt_val (pe_call (ok_has_row T B) (hr.mono (by decide)) rfl T.has_row.mg T.has_row.F.kp T.has_row.b .nil pass0 (pa_cons (pv 4) pa_nil))) (pss_cons (ps_set (i := 3) sc_answers.nd rfl (Or.inl rfl) (pe_op op_add (pe_op op_add (pv 5) pe_int) (pe_ix ix_list (pv 0) (pv 5) (fun _ _ => rfl))))
      (pss_one (ps_set (i := 7) sc_answers.nd rfl (Or.inl rfl) (pe_slice sl_list (pv 0) (po_some (pe_op op_add (pv 5) pe_int)) (po_some (pv 3)))))) pss_nil)
      (pss_cons (ps_set (i := 8) sc_answers.nd rfl (Or.inl rfl) (pe_call (ok_perform T B) (hr.mono (by decide)) rfl T.perform.mg T.perform.F.kp T.perform.b .nil pass0 (pa_cons (pv 1) (pa_cons (pv 4) (pa_cons (pv 6) (pa_cons (pv 7) pa_nil))))))
      (pss_cons (ps_expr (pe_bm PySem.F.plainAttrs_list PySem.F.slot_list_append PySem.F.type_list_append mt_append (pv 2) (pa_cons (pe_callB call_len_seq rfl T.b_len PySem.boot_len (pa_cons (pv 8) pa_nil)) pa_nil)))
      (pss_one (ps_expr (pe_bm PySem.F.plainAttrs_list PySem.F.slot_list_extend PySem.F.type_list_extend mt_extend (pv 2) (pa_cons (pv 8) pa_nil)))))))))))))
      (pss_one (ps_ret (pv 2))))))), ?_⟩
    obtain ⟨F0, hF0, hSq⟩ := keepL hS
    intro x dx nx ndx nex
    refine ⟨x, dx, rfl, upd_same, fun l1 l2 l3 h1 h2 h3 => ⟨rfl, ?_⟩⟩
    have nx2 : (upd H dx (.own x)) x = none := by rw [upd_ne (Ne.symm nex)]; exact nx
    have G1 := (hF0.new (o := .own x) ndx).new (o := .ins a.c_Ward dx []) nx2
    have G2 := ((G1.new (o := .lst []) h1).new (o := .lst []) h2).new (o := .lst []) h3
    have G3 := (G2.perm (List.perm_middle (l₁ := [_, _, _]))).put (o' := .ins a.c_Ward dx (wardF l1 l2 l3))
    let g0 : GW := ⟨x, dx, l1, l2, l3, 0, 0, [], [], [], 0, 0, 0, 0⟩
    have hA0 : At a g0 F0 (upd (upd (upd (upd (upd (upd H dx (.own x)) x (.ins a.c_Ward dx [])) l1 (.lst [])) l2 (.lst [])) l3 (.lst [])) x (.ins a.c_Ward dx (wardF l1 l2 l3))) := by
      have G4 := (G3.perm (List.perm_middle (l₁ := [_, _, _, _]))).tail
      refine Holds.perm G4 ?_
      show List.Perm ([(x, HO.ins a.c_Ward dx (wardF l1 l2 l3)), (l3, HO.lst []), (l2, HO.lst []), (l1, HO.lst [])] ++ F0) ([(x, HO.ins a.c_Ward dx (wardF l1 l2 l3)), (l1, HO.lst []), (l2, HO.lst []), (l3, HO.lst [])] ++ F0)
      refine List.Perm.append_right _ (List.Perm.cons _ ?_)
      exact ((List.Perm.swap ..).trans ((List.Perm.swap ..).cons _)).trans (List.Perm.swap ..)
    refine ⟨Nat.zero_le _, fun gv hgv => ?_⟩
    have hA1 := hA0.new (o := .lst []) hgv
    unfold PyVbdlao.answers_asked at hask
    have hans : ∀ cs0, PyFlat.calls PyVbdlao.shape ns.length ns = some cs0 → PyVbdlao.answers ns = PyFlat.told (PyFlat.played VbdlaoNeutral.step VbdlaoNeutral.start (cs0.map PyVbdlao.whole)) := fun cs0 e => by
      unfold PyVbdlao.answers PyVbdlao.calls
      rw [e]
    have hask2 : ∃ cs0, PyFlat.calls PyVbdlao.shape ns.length ns = some cs0 ∧ cs0.length ≤ 400 := by
      unfold PyVbdlao.calls at hask
      cases e : PyFlat.calls PyVbdlao.shape ns.length ns with
      | none => rw [e] at hask; cases hask
      | some cs0 =>
        rw [e] at hask
        have h2 : (PyFlat.atMost 400 (cs0.map PyVbdlao.whole) && VbdlaoNeutral.asked (cs0.map PyVbdlao.whole)) = true := hask
        rw [Bool.and_eq_true] at h2
        have h3 := h2.1
        unfold PyFlat.atMost at h3
        rw [decide_eq_true_eq, List.length_map] at h3
        exact ⟨cs0, rfl, h3⟩
    obtain ⟨cs0, hcs0, hc4⟩ := hask2
    have hfin := hans cs0 hcs0
    refine ⟨fun n σ H' => ∃ (g : GW) (pos f N : Nat) (out : List Int) (cs : List (List (List Int))) (v4 v5 v6 v7 v8 : Option V), n = cs.length ∧ At a g ((gv, .lst (out.map V.int)) :: F0) H' ∧ g.a = x ∧ PyFlat.calls PyVbdlao.shape f (ns.drop pos) = some cs ∧ pos ≤ ns.length ∧
      Wf N g.st ∧ N + 20000 * cs.length ≤ 8000000 ∧ out.length + 701 * cs.length ≤ 280400 ∧ PyVbdlao.answers ns = out ++ PyFlat.told (PyFlat.played VbdlaoNeutral.step g.st (cs.map PyVbdlao.whole)) ∧
      σ = [some (.ref l), some (.ref x), some (.ref gv), some (.int pos), v4, v5, v6, v7, v8],
      ⟨cs0.length, g0, 0, ns.length, 0, [], cs0, none, none, none, none, none, rfl, hA1, rfl, hcs0, Nat.zero_le _, wf0, by omega, by show 0 + _ ≤ _; omega, hfin, rfl⟩, ?_⟩
    rintro n σ H' ⟨g, pos, f, N, out, cs, v4, v5, v6, v7, v8, rfl, hA, ga, hcs, hpos, hW, hN, hO, hout, rfl⟩
    have hSl : SqL K H' l (ns.map V.int) := hSq H' fun p hp => hA.rest (List.mem_cons_of_mem _ hp)
    refine ⟨_, rfl, _, rfl, l, _, rfl, .inl hSl, _, _, rfl, rfl, _, rfl, ?_⟩
    rw [List.length_map]
    refine ifc (fun hlt => ?_) fun hge => ?_
    · have hlt' : pos < ns.length := by omega
      obtain ⟨p, n, kk, xs, rs, f', pos', cs', O⟩ := one_of hcs hlt'
      obtain ⟨⟨lr, pf, e1, e2, e3, e4, e5, e6⟩, e7, e8⟩ := good_all (s := g.st) (rs := rs) O.sh O.hlen fun z => (O.r0 z).1
      have hrs : rs.length ≤ 16000 := by
        rcases shape_kk O.sh with z | z
        · rw [(O.r0 z).1]; exact Nat.zero_le _
        · obtain ⟨m, _, _, hr1, _⟩ := O.r1 z
          rw [hr1, List.length_take, List.length_drop]
          omega
      have hal : (perfS pf p lr g.st xs rs).2.length ≤ 700 := by rw [e6]; exact (step_ok hW _).2
      have hcl : cs.length = cs'.length + 1 := by rw [O.hcs, List.length_cons]
      refine ⟨_, fun σ' H'' hN => ⟨cs'.length, by omega, hN⟩, ?_⟩
      refine ⟨_, rfl, _, rfl, l, _, _, _, rfl, rfl, hSl, at_of (j := pos) (v := .int p) rfl (by rw [List.getElem?_map, O.at_]; rfl), ?_⟩
      refine ⟨_, rfl, _, _, rfl, rfl, _, rfl, p, lr, rfl, e1, _, _, rfl, rfl, ?_⟩
      have el : (pos : Int) + 1 + (lr.length : Nat) = ((pos + 1 + n : Nat) : Int) := by rw [← e2, O.hlen]; omega
      have el1 : (pos : Int) + 1 = ((pos + 1 : Nat) : Int) := by omega
      dsimp only
      rw [el]
      refine ⟨_, rfl, _, rfl, _, _, rfl, rfl, _, rfl, _, rfl, _, rfl, l, _, rfl, hSl, fun nl hnl => ?_⟩
      dsimp only at hnl ⊢
      rw [el1, cutI_nn (by have := O.fit; omega) O.fit, show pos + 1 + n - (pos + 1) = n by omega, ← O.hxs]
      have hA2 := hA.new (o := .lst (xs.map V.int)) hnl
      refine ⟨Nat.zero_le _, fun l0 hl0 => ?_⟩
      have hA3 := hA2.new (o := .lst []) hl0
      refine ⟨_, rfl, ?_⟩
      refine ⟨_, rfl, p, rfl, _, rfl, ifb (fun hs => ?_) fun hs => ?_⟩
      · have hk1 : kk = 1 := by rw [e8, if_pos hs]
        obtain ⟨m, hm1, hm2, hm3, hpos'⟩ := O.r1 hk1
        have hS3 : SqL K _ l (ns.map V.int) := hSq _ fun p hp => hA3.rest (List.mem_cons_of_mem _ (List.mem_cons_of_mem _ (List.mem_cons_of_mem _ hp)))
        refine ⟨_, rfl, _, _, rfl, rfl, _, rfl, _, rfl, l, _, _, _, rfl, rfl, hS3, at_of (j := pos + 1 + n) (v := .int (m : Nat)) rfl (by rw [List.getElem?_map, hm1]; rfl), _, _, rfl, rfl, ?_⟩
        have em : ((pos + 1 + n : Nat) : Int) + 1 + (m : Nat) = ((pos + 1 + n + 1 + m : Nat) : Int) := by omega
        have em1 : ((pos + 1 + n : Nat) : Int) + 1 = ((pos + 1 + n + 1 : Nat) : Int) := by omega
        dsimp only
        rw [em]
        refine ⟨_, rfl, _, rfl, _, _, rfl, rfl, _, rfl, _, rfl, _, rfl, l, _, rfl, hS3, fun rl hrl => ?_⟩
        dsimp only at hrl ⊢
        rw [em1, cutI_nn (by omega) hm2, show pos + 1 + n + 1 + m - (pos + 1 + n + 1) = m by omega, ← hm3]
        have hA4 := hA3.new (o := .lst (rs.map V.int)) hrl
        have hA7 : At a g ((nl, .lst (xs.map V.int)) :: (rl, .lst (rs.map V.int)) :: (gv, .lst (out.map V.int)) :: F0) _ := ((hA4.perm (List.Perm.swap ..)).drop.perm (List.Perm.swap ..))
        refine ⟨_, rfl, _, rfl, _, rfl, _, rfl, g, (gv, .lst (out.map V.int)) :: F0, N, p, lr, nl, rl, xs, rs, pf, by rw [ga]; rfl, hA7, hW, by omega, e1, e2, hrs, e4, e3, e5, fun g' pa H8 hA8 ga' hst' => ?_⟩
        have hpa := hA8.rest (p := (pa, .lst ((perfS pf p lr g.st xs rs).2.map V.int))) (by simp)
        have hgv8 := hA8.rest (p := (gv, .lst (out.map V.int))) (by simp)
        refine ⟨_, rfl, .inl ⟨rfl, _, SqL.of hgv8⟩, _, rfl, pa, _, rfl, .inl (SqL.of hpa), gv, _, _, rfl, rfl, hgv8, (by rw [List.length_map]; exact Nat.lt_of_le_of_lt (show out.length ≤ 280400 by omega) (by decide)), ?_⟩
        rw [List.length_map]
        have hA9 := (hA8.perm (List.Perm.swap ..)).putR (o' := .lst (out.map V.int ++ [.int ((perfS pf p lr g.st xs rs).2.length : Nat)]))
        have hgv9 := hA9.rest (p := (gv, .lst (out.map V.int ++ [.int ((perfS pf p lr g.st xs rs).2.length : Nat)]))) (by simp)
        have hpa9 := hA9.rest (p := (pa, .lst ((perfS pf p lr g.st xs rs).2.map V.int))) (by simp)
        refine ⟨_, rfl, .inl ⟨rfl, _, SqL.of hgv9⟩, _, rfl, gv, pa, _, _, rfl, rfl, hgv9, hpa9, (by rw [List.length_append, List.length_map, List.length_map]; exact Nat.le_trans (show out.length + 1 + _ ≤ 281500 by omega) (by decide)), ?_⟩
        have hA10 := hA9.putR (o' := .lst (out.map V.int ++ [.int ((perfS pf p lr g.st xs rs).2.length : Nat)] ++ (perfS pf p lr g.st xs rs).2.map V.int))
        have eo : out.map V.int ++ [.int ((perfS pf p lr g.st xs rs).2.length : Nat)] ++ (perfS pf p lr g.st xs rs).2.map V.int = (out ++ (((perfS pf p lr g.st xs rs).2.length : Nat) : Int) :: (perfS pf p lr g.st xs rs).2).map V.int := by
          rw [List.map_append, List.map_cons, List.append_assoc]
          rfl
        rw [eo] at hA10 ⊢
        refine ⟨g', pos', f', N + 20000, out ++ (((perfS pf p lr g.st xs rs).2.length : Nat) : Int) :: (perfS pf p lr g.st xs rs).2, cs', some (.int p), some (.int (pos + 1 + n : Nat)), some (.ref nl), some (.ref rl), some (.ref pa), rfl, (hA10.perm (List.Perm.swap ..)).drop, ga'.trans ga, O.nx, O.le, (by rw [hst', e6]; exact (step_ok hW _).1), (by rw [O.hcs, List.length_cons] at hN; omega), ?_, ?_, ?_⟩
        · rw [List.length_append, List.length_cons]
          rw [O.hcs, List.length_cons] at hO
          omega
        · rw [hout, O.hcs, played_cons, e7, ← e6, hst', List.append_assoc] <;> rfl
        · rw [hpos']
          rfl
      · have hk0 : kk = 0 := by rw [e8, if_neg (by rw [hs]; exact Bool.false_ne_true)]
        obtain ⟨hr0, hpos'⟩ := O.r0 hk0
        subst hr0
        have hA4 : At a g ((l0, .lst (([] : List Int).map V.int)) :: (nl, .lst (xs.map V.int)) :: (gv, .lst (out.map V.int)) :: F0) _ := hA3
        have hA7 : At a g ((nl, .lst (xs.map V.int)) :: (l0, .lst (([] : List Int).map V.int)) :: (gv, .lst (out.map V.int)) :: F0) _ := (hA4.perm (List.Perm.swap ..))
        refine ⟨_, rfl, _, rfl, _, rfl, _, rfl, g, (gv, .lst (out.map V.int)) :: F0, N, p, lr, nl, l0, xs, ([] : List Int), pf, by rw [ga]; rfl, hA7, hW, by omega, e1, e2, hrs, e4, e3, e5, fun g' pa H8 hA8 ga' hst' => ?_⟩
        have hpa := hA8.rest (p := (pa, .lst ((perfS pf p lr g.st xs ([] : List Int)).2.map V.int))) (by simp)
        have hgv8 := hA8.rest (p := (gv, .lst (out.map V.int))) (by simp)
        refine ⟨_, rfl, .inl ⟨rfl, _, SqL.of hgv8⟩, _, rfl, pa, _, rfl, .inl (SqL.of hpa), gv, _, _, rfl, rfl, hgv8, (by rw [List.length_map]; exact Nat.lt_of_le_of_lt (show out.length ≤ 280400 by omega) (by decide)), ?_⟩
        rw [List.length_map]
        have hA9 := (hA8.perm (List.Perm.swap ..)).putR (o' := .lst (out.map V.int ++ [.int ((perfS pf p lr g.st xs ([] : List Int)).2.length : Nat)]))
        have hgv9 := hA9.rest (p := (gv, .lst (out.map V.int ++ [.int ((perfS pf p lr g.st xs ([] : List Int)).2.length : Nat)]))) (by simp)
        have hpa9 := hA9.rest (p := (pa, .lst ((perfS pf p lr g.st xs ([] : List Int)).2.map V.int))) (by simp)
        refine ⟨_, rfl, .inl ⟨rfl, _, SqL.of hgv9⟩, _, rfl, gv, pa, _, _, rfl, rfl, hgv9, hpa9, (by rw [List.length_append, List.length_map, List.length_map]; exact Nat.le_trans (show out.length + 1 + _ ≤ 281500 by omega) (by decide)), ?_⟩
        have hA10 := hA9.putR (o' := .lst (out.map V.int ++ [.int ((perfS pf p lr g.st xs ([] : List Int)).2.length : Nat)] ++ (perfS pf p lr g.st xs ([] : List Int)).2.map V.int))
        have eo : out.map V.int ++ [.int ((perfS pf p lr g.st xs ([] : List Int)).2.length : Nat)] ++ (perfS pf p lr g.st xs ([] : List Int)).2.map V.int = (out ++ (((perfS pf p lr g.st xs ([] : List Int)).2.length : Nat) : Int) :: (perfS pf p lr g.st xs ([] : List Int)).2).map V.int := by
          rw [List.map_append, List.map_cons, List.append_assoc]
          rfl
        rw [eo] at hA10 ⊢
        refine ⟨g', pos', f', N + 20000, out ++ (((perfS pf p lr g.st xs ([] : List Int)).2.length : Nat) : Int) :: (perfS pf p lr g.st xs ([] : List Int)).2, cs', some (.int p), some (.int (pos + 1 + n : Nat)), some (.ref nl), some (.ref l0), some (.ref pa), rfl, (hA10.perm (List.Perm.swap ..)).drop, ga'.trans ga, O.nx, O.le, (by rw [hst', e6]; exact (step_ok hW _).1), (by rw [O.hcs, List.length_cons] at hN; omega), ?_, ?_, ?_⟩
        · rw [List.length_append, List.length_cons]
          rw [O.hcs, List.length_cons] at hO
          omega
        · rw [hout, O.hcs, played_cons, e7, ← e6, hst', List.append_assoc] <;> rfl
        · rw [hpos']
          rfl
    · have hp2 : pos = ns.length := by omega
      rw [hp2, List.drop_length] at hcs
      have hnil : cs = [] := by cases f <;> (cases hcs; rfl)
      subst hnil
      refine ⟨_, rfl, q _ gv ?_⟩
      have h2 := hA.rest (p := (gv, .lst (out.map V.int))) (List.mem_cons_self ..)
      rw [hout]
      show H' gv = some (.lst ((out ++ []).map V.int))
      rw [List.append_nil]
      exact h2
theorem ans_binds (T : Txt K mg a) : ∀ (s : Shared) (us : List Value), us.length = (["calls"] : List Str).length → BindsTo s a.d_answers ⟨us, []⟩ ((["calls"] : List Str).zip us) := by
  obtain ⟨oc, od, kV, doc, pm, an, cdv, ct, osl, e, lk, hcd⟩ := T.answers.F.ex
  rw [e]
  intro s us hu
  match us, hu with
  | [_], _ => exact .of_eq rfl
end
end Nw
end
section
set_option Elab.async false
set_option linter.all false
set_option maxRecDepth 100000
set_option maxHeartbeats 4000000
namespace Nw
open PySem PySem.Spec PyProof.Rows L2
open PySem.W (nsIn keepIn codeIn findIn fnOf isFn mg_of mg_none_of plainGet hasDictIn plainOver makesIn)
theorem txt_mk {K : PySem.W.Frag} {h : Heap} {mg : Str → Option Value} (X : K.In h) (G : h.Ns mainGlobals mg)
    {t_DATA : Tok} {t_ACK : Tok} {t_ASK : Tok} {t_CHECK_MODULUS : Tok} {t_CHECK_OCTETS : Tok} {t_LEAST_FRAME : Tok} {t_EVENT_LIMIT : Tok} {t_PLACE_OCTETS : Tok} {t_TURN_OCTETS : Tok} {t_DATA_HEAD : Tok} {t_ACK_BODY : Tok} {t_ASK_BODY : Tok} {t_NO_EVENT : Tok} {t_IS_NO_FRAME : Tok} {t_IS_DATA : Tok} {t_IS_ACK : Tok} {t_IS_ASK : Tok} {t_TO_STATION : Tok} {t_TO_MACHINE : Tok} {t_NET_LIMIT : Tok} {t_OUT_OF_RANGE : Tok} {t_NOTHING_OPEN : Tok} {t_NO_MACHINE : Tok} {t_NO_PACKET : Tok} {t_OPEN_ALREADY : Tok} {t_NO_POWER : Tok} {t_LOG_FULL : Tok} {t_NET_FULL : Tok} {t_SPOILED_ALREADY : Tok} {t_NO_BYTE : Tok} {t_HAS_POWER : Tok} {t_LAST_TURN : Tok} {t_LOG_LIMIT : Tok} {t_TURN_LIMIT : Tok} {c_Packet : Addr} {f20 : Addr} {oc20 kV20 dc20 pm20 cd20 ct20 : Value} {od20 an20 : Option Addr} {sl20 : Array (Option Value)} {c_Machine : Addr} {f21 : Addr} {oc21 kV21 dc21 pm21 cd21 ct21 : Value} {od21 an21 : Option Addr} {sl21 : Array (Option Value)} {c_Desk : Addr} {f22 : Addr} {oc22 kV22 dc22 pm22 cd22 ct22 : Value} {od22 an22 : Option Addr} {sl22 : Array (Option Value)} {c_Ward : Addr} {f23 : Addr} {oc23 kV23 dc23 pm23 cd23 ct23 : Value} {od23 an23 : Option Addr} {sl23 : Array (Option Value)} {f0 : Addr} {oc0 kV0 dc0 pm0 cd0 ct0 : Value} {od0 an0 : Option Addr} {sl0 : Array (Option Value)} {f1 : Addr} {oc1 kV1 dc1 pm1 cd1 ct1 : Value} {od1 an1 : Option Addr} {sl1 : Array (Option Value)} {f2 : Addr} {oc2 kV2 dc2 pm2 cd2 ct2 : Value} {od2 an2 : Option Addr} {sl2 : Array (Option Value)} {f3 : Addr} {oc3 kV3 dc3 pm3 cd3 ct3 : Value} {od3 an3 : Option Addr} {sl3 : Array (Option Value)} {f4 : Addr} {oc4 kV4 dc4 pm4 cd4 ct4 : Value} {od4 an4 : Option Addr} {sl4 : Array (Option Value)} {f5 : Addr} {oc5 kV5 dc5 pm5 cd5 ct5 : Value} {od5 an5 : Option Addr} {sl5 : Array (Option Value)} {f6 : Addr} {oc6 kV6 dc6 pm6 cd6 ct6 : Value} {od6 an6 : Option Addr} {sl6 : Array (Option Value)} {f7 : Addr} {oc7 kV7 dc7 pm7 cd7 ct7 : Value} {od7 an7 : Option Addr} {sl7 : Array (Option Value)} {f8 : Addr} {oc8 kV8 dc8 pm8 cd8 ct8 : Value} {od8 an8 : Option Addr} {sl8 : Array (Option Value)} {f9 : Addr} {oc9 kV9 dc9 pm9 cd9 ct9 : Value} {od9 an9 : Option Addr} {sl9 : Array (Option Value)} {f10 : Addr} {oc10 kV10 dc10 pm10 cd10 ct10 : Value} {od10 an10 : Option Addr} {sl10 : Array (Option Value)} {f11 : Addr} {oc11 kV11 dc11 pm11 cd11 ct11 : Value} {od11 an11 : Option Addr} {sl11 : Array (Option Value)} {f12 : Addr} {oc12 kV12 dc12 pm12 cd12 ct12 : Value} {od12 an12 : Option Addr} {sl12 : Array (Option Value)} {f13 : Addr} {oc13 kV13 dc13 pm13 cd13 ct13 : Value} {od13 an13 : Option Addr} {sl13 : Array (Option Value)} {f14 : Addr} {oc14 kV14 dc14 pm14 cd14 ct14 : Value} {od14 an14 : Option Addr} {sl14 : Array (Option Value)} {f15 : Addr} {oc15 kV15 dc15 pm15 cd15 ct15 : Value} {od15 an15 : Option Addr} {sl15 : Array (Option Value)} {f16 : Addr} {oc16 kV16 dc16 pm16 cd16 ct16 : Value} {od16 an16 : Option Addr} {sl16 : Array (Option Value)} {f17 : Addr} {oc17 kV17 dc17 pm17 cd17 ct17 : Value} {od17 an17 : Option Addr} {sl17 : Array (Option Value)} {f18 : Addr} {oc18 kV18 dc18 pm18 cd18 ct18 : Value} {od18 an18 : Option Addr} {sl18 : Array (Option Value)} {f19 : Addr} {oc19 kV19 dc19 pm19 cd19 ct19 : Value} {od19 an19 : Option Addr} {sl19 : Array (Option Value)} {f24 : Addr} {oc24 kV24 dc24 pm24 cd24 ct24 : Value} {od24 an24 : Option Addr} {sl24 : Array (Option Value)} {f25 : Addr} {oc25 kV25 dc25 pm25 cd25 ct25 : Value} {od25 an25 : Option Addr} {sl25 : Array (Option Value)} {f26 : Addr} {oc26 kV26 dc26 pm26 cd26 ct26 : Value} {od26 an26 : Option Addr} {sl26 : Array (Option Value)} {f27 : Addr} {oc27 kV27 dc27 pm27 cd27 ct27 : Value} {od27 an27 : Option Addr} {sl27 : Array (Option Value)} {f28 : Addr} {oc28 kV28 dc28 pm28 cd28 ct28 : Value} {od28 an28 : Option Addr} {sl28 : Array (Option Value)} {f29 : Addr} {oc29 kV29 dc29 pm29 cd29 ct29 : Value} {od29 an29 : Option Addr} {sl29 : Array (Option Value)} {f30 : Addr} {oc30 kV30 dc30 pm30 cd30 ct30 : Value} {od30 an30 : Option Addr} {sl30 : Array (Option Value)} {f31 : Addr} {oc31 kV31 dc31 pm31 cd31 ct31 : Value} {od31 an31 : Option Addr} {sl31 : Array (Option Value)} {f32 : Addr} {oc32 kV32 dc32 pm32 cd32 ct32 : Value} {od32 an32 : Option Addr} {sl32 : Array (Option Value)} {f33 : Addr} {oc33 kV33 dc33 pm33 cd33 ct33 : Value} {od33 an33 : Option Addr} {sl33 : Array (Option Value)} {f34 : Addr} {oc34 kV34 dc34 pm34 cd34 ct34 : Value} {od34 an34 : Option Addr} {sl34 : Array (Option Value)} {f35 : Addr} {oc35 kV35 dc35 pm35 cd35 ct35 : Value} {od35 an35 : Option Addr} {sl35 : Array (Option Value)} {f36 : Addr} {oc36 kV36 dc36 pm36 cd36 ct36 : Value} {od36 an36 : Option Addr} {sl36 : Array (Option Value)} {f37 : Addr} {oc37 kV37 dc37 pm37 cd37 ct37 : Value} {od37 an37 : Option Addr} {sl37 : Array (Option Value)} {f38 : Addr} {oc38 kV38 dc38 pm38 cd38 ct38 : Value} {od38 an38 : Option Addr} {sl38 : Array (Option Value)} {f39 : Addr} {oc39 kV39 dc39 pm39 cd39 ct39 : Value} {od39 an39 : Option Addr} {sl39 : Array (Option Value)} {f40 : Addr} {oc40 kV40 dc40 pm40 cd40 ct40 : Value} {od40 an40 : Option Addr} {sl40 : Array (Option Value)} {f41 : Addr} {oc41 kV41 dc41 pm41 cd41 ct41 : Value} {od41 an41 : Option Addr} {sl41 : Array (Option Value)} {f42 : Addr} {oc42 kV42 dc42 pm42 cd42 ct42 : Value} {od42 an42 : Option Addr} {sl42 : Array (Option Value)} {f43 : Addr} {oc43 kV43 dc43 pm43 cd43 ct43 : Value} {od43 an43 : Option Addr} {sl43 : Array (Option Value)} {f44 : Addr} {oc44 kV44 dc44 pm44 cd44 ct44 : Value} {od44 an44 : Option Addr} {sl44 : Array (Option Value)} {f45 : Addr} {oc45 kV45 dc45 pm45 cd45 ct45 : Value} {od45 an45 : Option Addr} {sl45 : Array (Option Value)} {f46 : Addr} {oc46 kV46 dc46 pm46 cd46 ct46 : Value} {od46 an46 : Option Addr} {sl46 : Array (Option Value)} {f47 : Addr} {oc47 kV47 dc47 pm47 cd47 ct47 : Value} {od47 an47 : Option Addr} {sl47 : Array (Option Value)} {f48 : Addr} {oc48 kV48 dc48 pm48 cd48 ct48 : Value} {od48 an48 : Option Addr} {sl48 : Array (Option Value)} {f49 : Addr} {oc49 kV49 dc49 pm49 cd49 ct49 : Value} {od49 an49 : Option Addr} {sl49 : Array (Option Value)} {f50 : Addr} {oc50 kV50 dc50 pm50 cd50 ct50 : Value} {od50 an50 : Option Addr} {sl50 : Array (Option Value)} {f51 : Addr} {oc51 kV51 dc51 pm51 cd51 ct51 : Value} {od51 an51 : Option Addr} {sl51 : Array (Option Value)} {f52 : Addr} {oc52 kV52 dc52 pm52 cd52 ct52 : Value} {od52 an52 : Option Addr} {sl52 : Array (Option Value)} {f53 : Addr} {oc53 kV53 dc53 pm53 cd53 ct53 : Value} {od53 an53 : Option Addr} {sl53 : Array (Option Value)} {f54 : Addr} {oc54 kV54 dc54 pm54 cd54 ct54 : Value} {od54 an54 : Option Addr} {sl54 : Array (Option Value)} {f55 : Addr} {oc55 kV55 dc55 pm55 cd55 ct55 : Value} {od55 an55 : Option Addr} {sl55 : Array (Option Value)} {f56 : Addr} {oc56 kV56 dc56 pm56 cd56 ct56 : Value} {od56 an56 : Option Addr} {sl56 : Array (Option Value)} {t_LOOKS : Addr} {t_RANGES : Addr} {t_ROW_LIMITS : Addr} {t_FREE_CALLS : Addr} {t_MACHINE_CALLS : Addr} {t_PACKET_CALLS : Addr} {t_HANDLERS : Addr} {r_0 : Addr} {r_1 : Addr} {r_2 : Addr} {r_3 : Addr} {r_4 : Addr} {r_5 : Addr} {r_6 : Addr} {r_7 : Addr} {r_8 : Addr} {r_9 : Addr} {r_10 : Addr} {r_11 : Addr} {r_12 : Addr} {r_13 : Addr} {r_14 : Addr} {r_15 : Addr} {r_16 : Addr} {r_17 : Addr} {r_18 : Addr} {r_19 : Addr} {r_20 : Addr} {tk_RANGES_0 tk_RANGES_1 tk_RANGES_2 tk_RANGES_3 tk_RANGES_4 tk_RANGES_5 tk_RANGES_6 tk_RANGES_7 tk_RANGES_8 tk_RANGES_9 tk_RANGES_10 tk_RANGES_11 tk_RANGES_12 tk_RANGES_13 tk_RANGES_14 tk_RANGES_15 tk_RANGES_16 tk_RANGES_17 tk_RANGES_18 tk_RANGES_19 tk_RANGES_20 : Tok} {nd_RANGES : Nat} {q_0_0 q_0_1 q_0_2 : Addr} {od_r_0 : Option Addr} {nn_r_0 : Nat} {sl_r_0 : Array (Option Value)} {tk_q_0_0_0 tk_q_0_0_1 : Tok} {od_q_0_0 : Option Addr} {nn_q_0_0 : Nat} {sl_q_0_0 : Array (Option Value)} {tk_q_0_1_0 tk_q_0_1_1 : Tok} {od_q_0_1 : Option Addr} {nn_q_0_1 : Nat} {sl_q_0_1 : Array (Option Value)} {tk_q_0_2_0 tk_q_0_2_1 : Tok} {od_q_0_2 : Option Addr} {nn_q_0_2 : Nat} {sl_q_0_2 : Array (Option Value)} {q_1_0 : Addr} {od_r_1 : Option Addr} {nn_r_1 : Nat} {sl_r_1 : Array (Option Value)} {tk_q_1_0_0 tk_q_1_0_1 : Tok} {od_q_1_0 : Option Addr} {nn_q_1_0 : Nat} {sl_q_1_0 : Array (Option Value)} {q_2_0 : Addr} {od_r_2 : Option Addr} {nn_r_2 : Nat} {sl_r_2 : Array (Option Value)} {tk_q_2_0_0 tk_q_2_0_1 : Tok} {od_q_2_0 : Option Addr} {nn_q_2_0 : Nat} {sl_q_2_0 : Array (Option Value)} {q_3_0 : Addr} {od_r_3 : Option Addr} {nn_r_3 : Nat} {sl_r_3 : Array (Option Value)} {tk_q_3_0_0 tk_q_3_0_1 : Tok} {od_q_3_0 : Option Addr} {nn_q_3_0 : Nat} {sl_q_3_0 : Array (Option Value)} {q_4_0 : Addr} {od_r_4 : Option Addr} {nn_r_4 : Nat} {sl_r_4 : Array (Option Value)} {tk_q_4_0_0 tk_q_4_0_1 : Tok} {od_q_4_0 : Option Addr} {nn_q_4_0 : Nat} {sl_q_4_0 : Array (Option Value)} {q_5_0 : Addr} {od_r_5 : Option Addr} {nn_r_5 : Nat} {sl_r_5 : Array (Option Value)} {tk_q_5_0_0 tk_q_5_0_1 : Tok} {od_q_5_0 : Option Addr} {nn_q_5_0 : Nat} {sl_q_5_0 : Array (Option Value)} {q_6_0 q_6_1 q_6_2 : Addr} {od_r_6 : Option Addr} {nn_r_6 : Nat} {sl_r_6 : Array (Option Value)} {tk_q_6_0_0 tk_q_6_0_1 : Tok} {od_q_6_0 : Option Addr} {nn_q_6_0 : Nat} {sl_q_6_0 : Array (Option Value)} {tk_q_6_1_0 tk_q_6_1_1 : Tok} {od_q_6_1 : Option Addr} {nn_q_6_1 : Nat} {sl_q_6_1 : Array (Option Value)} {tk_q_6_2_0 tk_q_6_2_1 : Tok} {od_q_6_2 : Option Addr} {nn_q_6_2 : Nat} {sl_q_6_2 : Array (Option Value)} {q_7_0 : Addr} {od_r_7 : Option Addr} {nn_r_7 : Nat} {sl_r_7 : Array (Option Value)} {tk_q_7_0_0 tk_q_7_0_1 : Tok} {od_q_7_0 : Option Addr} {nn_q_7_0 : Nat} {sl_q_7_0 : Array (Option Value)} {q_8_0 : Addr} {od_r_8 : Option Addr} {nn_r_8 : Nat} {sl_r_8 : Array (Option Value)} {tk_q_8_0_0 tk_q_8_0_1 : Tok} {od_q_8_0 : Option Addr} {nn_q_8_0 : Nat} {sl_q_8_0 : Array (Option Value)} {q_9_0 : Addr} {od_r_9 : Option Addr} {nn_r_9 : Nat} {sl_r_9 : Array (Option Value)} {tk_q_9_0_0 tk_q_9_0_1 : Tok} {od_q_9_0 : Option Addr} {nn_q_9_0 : Nat} {sl_q_9_0 : Array (Option Value)} {od_r_10 : Option Addr} {nn_r_10 : Nat} {sl_r_10 : Array (Option Value)} {q_11_0 : Addr} {od_r_11 : Option Addr} {nn_r_11 : Nat} {sl_r_11 : Array (Option Value)} {tk_q_11_0_0 tk_q_11_0_1 : Tok} {od_q_11_0 : Option Addr} {nn_q_11_0 : Nat} {sl_q_11_0 : Array (Option Value)} {od_r_12 : Option Addr} {nn_r_12 : Nat} {sl_r_12 : Array (Option Value)} {q_13_0 : Addr} {od_r_13 : Option Addr} {nn_r_13 : Nat} {sl_r_13 : Array (Option Value)} {tk_q_13_0_0 tk_q_13_0_1 : Tok} {od_q_13_0 : Option Addr} {nn_q_13_0 : Nat} {sl_q_13_0 : Array (Option Value)} {q_14_0 : Addr} {od_r_14 : Option Addr} {nn_r_14 : Nat} {sl_r_14 : Array (Option Value)} {tk_q_14_0_0 tk_q_14_0_1 : Tok} {od_q_14_0 : Option Addr} {nn_q_14_0 : Nat} {sl_q_14_0 : Array (Option Value)} {q_15_0 : Addr} {od_r_15 : Option Addr} {nn_r_15 : Nat} {sl_r_15 : Array (Option Value)} {tk_q_15_0_0 tk_q_15_0_1 : Tok} {od_q_15_0 : Option Addr} {nn_q_15_0 : Nat} {sl_q_15_0 : Array (Option Value)} {q_16_0 q_16_1 : Addr} {od_r_16 : Option Addr} {nn_r_16 : Nat} {sl_r_16 : Array (Option Value)} {tk_q_16_0_0 tk_q_16_0_1 : Tok} {od_q_16_0 : Option Addr} {nn_q_16_0 : Nat} {sl_q_16_0 : Array (Option Value)} {tk_q_16_1_0 tk_q_16_1_1 : Tok} {od_q_16_1 : Option Addr} {nn_q_16_1 : Nat} {sl_q_16_1 : Array (Option Value)} {q_17_0 q_17_1 : Addr} {od_r_17 : Option Addr} {nn_r_17 : Nat} {sl_r_17 : Array (Option Value)} {tk_q_17_0_0 tk_q_17_0_1 : Tok} {od_q_17_0 : Option Addr} {nn_q_17_0 : Nat} {sl_q_17_0 : Array (Option Value)} {tk_q_17_1_0 tk_q_17_1_1 : Tok} {od_q_17_1 : Option Addr} {nn_q_17_1 : Nat} {sl_q_17_1 : Array (Option Value)} {q_18_0 : Addr} {od_r_18 : Option Addr} {nn_r_18 : Nat} {sl_r_18 : Array (Option Value)} {tk_q_18_0_0 tk_q_18_0_1 : Tok} {od_q_18_0 : Option Addr} {nn_q_18_0 : Nat} {sl_q_18_0 : Array (Option Value)} {od_r_19 : Option Addr} {nn_r_19 : Nat} {sl_r_19 : Array (Option Value)} {od_r_20 : Option Addr} {nn_r_20 : Nat} {sl_r_20 : Array (Option Value)} {tw_1 tw_19 : Tok} {tk_ROW_LIMITS_0 tk_ROW_LIMITS_1 : Tok} {nd_ROW_LIMITS : Nat} {tk_HANDLERS_0 tk_HANDLERS_1 tk_HANDLERS_2 tk_HANDLERS_3 tk_HANDLERS_4 tk_HANDLERS_5 tk_HANDLERS_6 tk_HANDLERS_7 tk_HANDLERS_8 tk_HANDLERS_9 tk_HANDLERS_10 tk_HANDLERS_11 : Tok} {nd_HANDLERS : Nat} {tk_LOOKS_0 tk_LOOKS_1 tk_LOOKS_2 tk_LOOKS_3 tk_LOOKS_4 tk_LOOKS_5 tk_LOOKS_6 tk_LOOKS_7 tk_LOOKS_8 : Tok} {nd_LOOKS : Nat} {tk_t_FREE_CALLS_0 tk_t_FREE_CALLS_1 : Tok} {od_t_FREE_CALLS : Option Addr} {nn_t_FREE_CALLS : Nat} {sl_t_FREE_CALLS : Array (Option Value)} {tk_t_MACHINE_CALLS_0 tk_t_MACHINE_CALLS_1 tk_t_MACHINE_CALLS_2 tk_t_MACHINE_CALLS_3 tk_t_MACHINE_CALLS_4 tk_t_MACHINE_CALLS_5 tk_t_MACHINE_CALLS_6 tk_t_MACHINE_CALLS_7 tk_t_MACHINE_CALLS_8 : Tok} {od_t_MACHINE_CALLS : Option Addr} {nn_t_MACHINE_CALLS : Nat} {sl_t_MACHINE_CALLS : Array (Option Value)} {tk_t_PACKET_CALLS_0 tk_t_PACKET_CALLS_1 tk_t_PACKET_CALLS_2 tk_t_PACKET_CALLS_3 tk_t_PACKET_CALLS_4 : Tok} {od_t_PACKET_CALLS : Option Addr} {nn_t_PACKET_CALLS : Nat} {sl_t_PACKET_CALLS : Array (Option Value)} (v_DATA : nsIn K mainGlobals "DATA" = some (some (Value.int (68) t_DATA))) (v_ACK : nsIn K mainGlobals "ACK" = some (some (Value.int (65) t_ACK))) (v_ASK : nsIn K mainGlobals "ASK" = some (some (Value.int (72) t_ASK))) (v_CHECK_MODULUS : nsIn K mainGlobals "CHECK_MODULUS" = some (some (Value.int (65521) t_CHECK_MODULUS))) (v_CHECK_OCTETS : nsIn K mainGlobals "CHECK_OCTETS" = some (some (Value.int (2) t_CHECK_OCTETS))) (v_LEAST_FRAME : nsIn K mainGlobals "LEAST_FRAME" = some (some (Value.int (4) t_LEAST_FRAME))) (v_EVENT_LIMIT : nsIn K mainGlobals "EVENT_LIMIT" = some (some (Value.int (16) t_EVENT_LIMIT))) (v_PLACE_OCTETS : nsIn K mainGlobals "PLACE_OCTETS" = some (some (Value.int (4) t_PLACE_OCTETS))) (v_TURN_OCTETS : nsIn K mainGlobals "TURN_OCTETS" = some (some (Value.int (2) t_TURN_OCTETS))) (v_DATA_HEAD : nsIn K mainGlobals "DATA_HEAD" = some (some (Value.int (7) t_DATA_HEAD))) (v_ACK_BODY : nsIn K mainGlobals "ACK_BODY" = some (some (Value.int (8) t_ACK_BODY))) (v_ASK_BODY : nsIn K mainGlobals "ASK_BODY" = some (some (Value.int (2) t_ASK_BODY))) (v_NO_EVENT : nsIn K mainGlobals "NO_EVENT" = some (some (Value.int (-13) t_NO_EVENT))) (v_IS_NO_FRAME : nsIn K mainGlobals "IS_NO_FRAME" = some (some (Value.int (0) t_IS_NO_FRAME))) (v_IS_DATA : nsIn K mainGlobals "IS_DATA" = some (some (Value.int (1) t_IS_DATA))) (v_IS_ACK : nsIn K mainGlobals "IS_ACK" = some (some (Value.int (2) t_IS_ACK))) (v_IS_ASK : nsIn K mainGlobals "IS_ASK" = some (some (Value.int (3) t_IS_ASK))) (v_TO_STATION : nsIn K mainGlobals "TO_STATION" = some (some (Value.int (0) t_TO_STATION))) (v_TO_MACHINE : nsIn K mainGlobals "TO_MACHINE" = some (some (Value.int (1) t_TO_MACHINE))) (v_NET_LIMIT : nsIn K mainGlobals "NET_LIMIT" = some (some (Value.int (200) t_NET_LIMIT))) (v_OUT_OF_RANGE : nsIn K mainGlobals "OUT_OF_RANGE" = some (some (Value.int (-1) t_OUT_OF_RANGE))) (v_NOTHING_OPEN : nsIn K mainGlobals "NOTHING_OPEN" = some (some (Value.int (-2) t_NOTHING_OPEN))) (v_NO_MACHINE : nsIn K mainGlobals "NO_MACHINE" = some (some (Value.int (-3) t_NO_MACHINE))) (v_NO_PACKET : nsIn K mainGlobals "NO_PACKET" = some (some (Value.int (-4) t_NO_PACKET))) (v_OPEN_ALREADY : nsIn K mainGlobals "OPEN_ALREADY" = some (some (Value.int (-5) t_OPEN_ALREADY))) (v_NO_POWER : nsIn K mainGlobals "NO_POWER" = some (some (Value.int (-6) t_NO_POWER))) (v_LOG_FULL : nsIn K mainGlobals "LOG_FULL" = some (some (Value.int (-7) t_LOG_FULL))) (v_NET_FULL : nsIn K mainGlobals "NET_FULL" = some (some (Value.int (-8) t_NET_FULL))) (v_SPOILED_ALREADY : nsIn K mainGlobals "SPOILED_ALREADY" = some (some (Value.int (-9) t_SPOILED_ALREADY))) (v_NO_BYTE : nsIn K mainGlobals "NO_BYTE" = some (some (Value.int (-10) t_NO_BYTE))) (v_HAS_POWER : nsIn K mainGlobals "HAS_POWER" = some (some (Value.int (-11) t_HAS_POWER))) (v_LAST_TURN : nsIn K mainGlobals "LAST_TURN" = some (some (Value.int (-12) t_LAST_TURN))) (v_LOG_LIMIT : nsIn K mainGlobals "LOG_LIMIT" = some (some (Value.int (200) t_LOG_LIMIT))) (v_TURN_LIMIT : nsIn K mainGlobals "TURN_LIMIT" = some (some (Value.int (50) t_TURN_LIMIT))) (b_len : nsIn K mainGlobals "len" = some none) (b_range : nsIn K mainGlobals "range" = some none) (b_enumerate : nsIn K mainGlobals "enumerate" = some none) (b_min : nsIn K mainGlobals "min" = some none) (b_max : nsIn K mainGlobals "max" = some none) (b_zip : nsIn K mainGlobals "zip" = some none) (b_all : nsIn K mainGlobals "all" = some none) (b_list : nsIn K mainGlobals "list" = some none) (b_any : nsIn K mainGlobals "any" = some none) (b_sum : nsIn K mainGlobals "sum" = some none) (b_int : nsIn K mainGlobals "int" = some none) (C_Packet : nsIn K mainGlobals "Packet" = some (some (.ref c_Packet))) (pg_Packet : plainGet K c_Packet Str.empty = true) (hd_Packet : hasDictIn K c_Packet = true) (po_Packet : plainOver K c_Packet = true) (sa_Packet : findIn K (.ref c_Packet) "__setattr__" = some (some (.builtin "object.__setattr__"))) (mk_Packet : makesIn K c_Packet = true) (kc_Packet : keepIn K (.ref c_Packet) = true) (n_Packet_goes_to : findIn K (.ref c_Packet) "goes_to" = some none) (n_Packet_machine : findIn K (.ref c_Packet) "machine" = some none) (n_Packet_octets : findIn K (.ref c_Packet) "octets" = some none) (n_Packet_spoiled : findIn K (.ref c_Packet) "spoiled" = some none) (a20 : findIn K (.ref c_Packet) "__init__" = some (some (.ref f20))) (i20 : isFn K (.ref f20) = true) (l20 : K.lookup f20 = some ⟨oc20, od20, .func (fnOf "__init__" "Packet.__init__" (defArgs s_Packet_init) (defBody s_Packet_init) (defScope s_Packet_init) .none kV20 dc20 pm20 an20 cd20 ct20), sl20⟩) (e20 : codeIn K cd20 "Packet.__init__" = true) (k20 : keepIn K (.ref f20) = true) (C_Machine : nsIn K mainGlobals "Machine" = some (some (.ref c_Machine))) (pg_Machine : plainGet K c_Machine Str.empty = true) (hd_Machine : hasDictIn K c_Machine = true) (po_Machine : plainOver K c_Machine = true) (sa_Machine : findIn K (.ref c_Machine) "__setattr__" = some (some (.builtin "object.__setattr__"))) (mk_Machine : makesIn K c_Machine = true) (kc_Machine : keepIn K (.ref c_Machine) = true) (n_Machine_log : findIn K (.ref c_Machine) "log" = some none) (n_Machine_power : findIn K (.ref c_Machine) "power" = some none) (n_Machine_turn : findIn K (.ref c_Machine) "turn" = some none) (n_Machine_acked : findIn K (.ref c_Machine) "acked" = some none) (n_Machine_next_place : findIn K (.ref c_Machine) "next_place" = some none) (n_Machine_timer : findIn K (.ref c_Machine) "timer" = some none) (a21 : findIn K (.ref c_Machine) "__init__" = some (some (.ref f21))) (i21 : isFn K (.ref f21) = true) (l21 : K.lookup f21 = some ⟨oc21, od21, .func (fnOf "__init__" "Machine.__init__" (defArgs s_Machine_init) (defBody s_Machine_init) (defScope s_Machine_init) .none kV21 dc21 pm21 an21 cd21 ct21), sl21⟩) (e21 : codeIn K cd21 "Machine.__init__" = true) (k21 : keepIn K (.ref f21) = true) (C_Desk : nsIn K mainGlobals "Desk" = some (some (.ref c_Desk))) (pg_Desk : plainGet K c_Desk Str.empty = true) (hd_Desk : hasDictIn K c_Desk = true) (po_Desk : plainOver K c_Desk = true) (sa_Desk : findIn K (.ref c_Desk) "__setattr__" = some (some (.builtin "object.__setattr__"))) (mk_Desk : makesIn K c_Desk = true) (kc_Desk : keepIn K (.ref c_Desk) = true) (n_Desk_turn : findIn K (.ref c_Desk) "turn" = some none) (n_Desk_copied : findIn K (.ref c_Desk) "copied" = some none) (n_Desk_aside : findIn K (.ref c_Desk) "aside" = some none) (a22 : findIn K (.ref c_Desk) "__init__" = some (some (.ref f22))) (i22 : isFn K (.ref f22) = true) (l22 : K.lookup f22 = some ⟨oc22, od22, .func (fnOf "__init__" "Desk.__init__" (defArgs s_Desk_init) (defBody s_Desk_init) (defScope s_Desk_init) .none kV22 dc22 pm22 an22 cd22 ct22), sl22⟩) (e22 : codeIn K cd22 "Desk.__init__" = true) (k22 : keepIn K (.ref f22) = true) (C_Ward : nsIn K mainGlobals "Ward" = some (some (.ref c_Ward))) (pg_Ward : plainGet K c_Ward Str.empty = true) (hd_Ward : hasDictIn K c_Ward = true) (po_Ward : plainOver K c_Ward = true) (sa_Ward : findIn K (.ref c_Ward) "__setattr__" = some (some (.builtin "object.__setattr__"))) (mk_Ward : makesIn K c_Ward = true) (kc_Ward : keepIn K (.ref c_Ward) = true) (n_Ward_machines : findIn K (.ref c_Ward) "machines" = some none) (n_Ward_desks : findIn K (.ref c_Ward) "desks" = some none) (n_Ward_window : findIn K (.ref c_Ward) "window" = some none) (n_Ward_wait : findIn K (.ref c_Ward) "wait" = some none) (n_Ward_packets : findIn K (.ref c_Ward) "packets" = some none) (n_Ward_lost : findIn K (.ref c_Ward) "lost" = some none) (n_Ward_bad : findIn K (.ref c_Ward) "bad" = some none) (n_Ward_again : findIn K (.ref c_Ward) "again" = some none) (n_Ward_news : findIn K (.ref c_Ward) "news" = some none) (a23 : findIn K (.ref c_Ward) "__init__" = some (some (.ref f23))) (i23 : isFn K (.ref f23) = true) (l23 : K.lookup f23 = some ⟨oc23, od23, .func (fnOf "__init__" "Ward.__init__" (defArgs s_Ward_init) (defBody s_Ward_init) (defScope s_Ward_init) .none kV23 dc23 pm23 an23 cd23 ct23), sl23⟩) (e23 : codeIn K cd23 "Ward.__init__" = true) (k23 : keepIn K (.ref f23) = true) (a0 : nsIn K mainGlobals "check_of" = some (some (.ref f0))) (l0 : K.lookup f0 = some ⟨oc0, od0, .func (fnOf "check_of" "check_of" (defArgs s_check_of) (defBody s_check_of) (defScope s_check_of) .none kV0 dc0 pm0 an0 cd0 ct0), sl0⟩) (e0 : codeIn K cd0 "check_of" = true) (k0 : keepIn K (.ref f0) = true) (a1 : nsIn K mainGlobals "number_to_octets" = some (some (.ref f1))) (l1 : K.lookup f1 = some ⟨oc1, od1, .func (fnOf "number_to_octets" "number_to_octets" (defArgs s_number_to_octets) (defBody s_number_to_octets) (defScope s_number_to_octets) .none kV1 dc1 pm1 an1 cd1 ct1), sl1⟩) (e1 : codeIn K cd1 "number_to_octets" = true) (k1 : keepIn K (.ref f1) = true) (a2 : nsIn K mainGlobals "octets_to_number" = some (some (.ref f2))) (l2 : K.lookup f2 = some ⟨oc2, od2, .func (fnOf "octets_to_number" "octets_to_number" (defArgs s_octets_to_number) (defBody s_octets_to_number) (defScope s_octets_to_number) .none kV2 dc2 pm2 an2 cd2 ct2), sl2⟩) (e2 : codeIn K cd2 "octets_to_number" = true) (k2 : keepIn K (.ref f2) = true) (a3 : nsIn K mainGlobals "body_of" = some (some (.ref f3))) (l3 : K.lookup f3 = some ⟨oc3, od3, .func (fnOf "body_of" "body_of" (defArgs s_body_of) (defBody s_body_of) (defScope s_body_of) .none kV3 dc3 pm3 an3 cd3 ct3), sl3⟩) (e3 : codeIn K cd3 "body_of" = true) (k3 : keepIn K (.ref f3) = true) (a4 : nsIn K mainGlobals "make_frame" = some (some (.ref f4))) (l4 : K.lookup f4 = some ⟨oc4, od4, .func (fnOf "make_frame" "make_frame" (defArgs s_make_frame) (defBody s_make_frame) (defScope s_make_frame) .none kV4 dc4 pm4 an4 cd4 ct4), sl4⟩) (e4 : codeIn K cd4 "make_frame" = true) (k4 : keepIn K (.ref f4) = true) (a5 : nsIn K mainGlobals "read_data" = some (some (.ref f5))) (l5 : K.lookup f5 = some ⟨oc5, od5, .func (fnOf "read_data" "read_data" (defArgs s_read_data) (defBody s_read_data) (defScope s_read_data) .none kV5 dc5 pm5 an5 cd5 ct5), sl5⟩) (e5 : codeIn K cd5 "read_data" = true) (k5 : keepIn K (.ref f5) = true) (a6 : nsIn K mainGlobals "read_body" = some (some (.ref f6))) (l6 : K.lookup f6 = some ⟨oc6, od6, .func (fnOf "read_body" "read_body" (defArgs s_read_body) (defBody s_read_body) (defScope s_read_body) .none kV6 dc6 pm6 an6 cd6 ct6), sl6⟩) (e6 : codeIn K cd6 "read_body" = true) (k6 : keepIn K (.ref f6) = true) (a7 : nsIn K mainGlobals "read_frame" = some (some (.ref f7))) (l7 : K.lookup f7 = some ⟨oc7, od7, .func (fnOf "read_frame" "read_frame" (defArgs s_read_frame) (defBody s_read_frame) (defScope s_read_frame) .none kV7 dc7 pm7 an7 cd7 ct7), sl7⟩) (e7 : codeIn K cd7 "read_frame" = true) (k7 : keepIn K (.ref f7) = true) (a8 : nsIn K mainGlobals "counted" = some (some (.ref f8))) (l8 : K.lookup f8 = some ⟨oc8, od8, .func (fnOf "counted" "counted" (defArgs s_counted) (defBody s_counted) (defScope s_counted) .none kV8 dc8 pm8 an8 cd8 ct8), sl8⟩) (e8 : codeIn K cd8 "counted" = true) (k8 : keepIn K (.ref f8) = true) (a9 : nsIn K mainGlobals "look_at_net" = some (some (.ref f9))) (l9 : K.lookup f9 = some ⟨oc9, od9, .func (fnOf "look_at_net" "look_at_net" (defArgs s_look_at_net) (defBody s_look_at_net) (defScope s_look_at_net) .none kV9 dc9 pm9 an9 cd9 ct9), sl9⟩) (e9 : codeIn K cd9 "look_at_net" = true) (k9 : keepIn K (.ref f9) = true) (a10 : nsIn K mainGlobals "look_at_packet" = some (some (.ref f10))) (l10 : K.lookup f10 = some ⟨oc10, od10, .func (fnOf "look_at_packet" "look_at_packet" (defArgs s_look_at_packet) (defBody s_look_at_packet) (defScope s_look_at_packet) .none kV10 dc10 pm10 an10 cd10 ct10), sl10⟩) (e10 : codeIn K cd10 "look_at_packet" = true) (k10 : keepIn K (.ref f10) = true) (a11 : nsIn K mainGlobals "look_at_sender" = some (some (.ref f11))) (l11 : K.lookup f11 = some ⟨oc11, od11, .func (fnOf "look_at_sender" "look_at_sender" (defArgs s_look_at_sender) (defBody s_look_at_sender) (defScope s_look_at_sender) .none kV11 dc11 pm11 an11 cd11 ct11), sl11⟩) (e11 : codeIn K cd11 "look_at_sender" = true) (k11 : keepIn K (.ref f11) = true) (a12 : nsIn K mainGlobals "look_at_station" = some (some (.ref f12))) (l12 : K.lookup f12 = some ⟨oc12, od12, .func (fnOf "look_at_station" "look_at_station" (defArgs s_look_at_station) (defBody s_look_at_station) (defScope s_look_at_station) .none kV12 dc12 pm12 an12 cd12 ct12), sl12⟩) (e12 : codeIn K cd12 "look_at_station" = true) (k12 : keepIn K (.ref f12) = true) (a13 : nsIn K mainGlobals "event_at" = some (some (.ref f13))) (l13 : K.lookup f13 = some ⟨oc13, od13, .func (fnOf "event_at" "event_at" (defArgs s_event_at) (defBody s_event_at) (defScope s_event_at) .none kV13 dc13 pm13 an13 cd13 ct13), sl13⟩) (e13 : codeIn K cd13 "event_at" = true) (k13 : keepIn K (.ref f13) = true) (a14 : nsIn K mainGlobals "look_at_copy" = some (some (.ref f14))) (l14 : K.lookup f14 = some ⟨oc14, od14, .func (fnOf "look_at_copy" "look_at_copy" (defArgs s_look_at_copy) (defBody s_look_at_copy) (defScope s_look_at_copy) .none kV14 dc14 pm14 an14 cd14 ct14), sl14⟩) (e14 : codeIn K cd14 "look_at_copy" = true) (k14 : keepIn K (.ref f14) = true) (a15 : nsIn K mainGlobals "look_at_event" = some (some (.ref f15))) (l15 : K.lookup f15 = some ⟨oc15, od15, .func (fnOf "look_at_event" "look_at_event" (defArgs s_look_at_event) (defBody s_look_at_event) (defScope s_look_at_event) .none kV15 dc15 pm15 an15 cd15 ct15), sl15⟩) (e15 : codeIn K cd15 "look_at_event" = true) (k15 : keepIn K (.ref f15) = true) (a16 : nsIn K mainGlobals "look_whether_whole" = some (some (.ref f16))) (l16 : K.lookup f16 = some ⟨oc16, od16, .func (fnOf "look_whether_whole" "look_whether_whole" (defArgs s_look_whether_whole) (defBody s_look_whether_whole) (defScope s_look_whether_whole) .none kV16 dc16 pm16 an16 cd16 ct16), sl16⟩) (e16 : codeIn K cd16 "look_whether_whole" = true) (k16 : keepIn K (.ref f16) = true) (a17 : nsIn K mainGlobals "look_at_frame" = some (some (.ref f17))) (l17 : K.lookup f17 = some ⟨oc17, od17, .func (fnOf "look_at_frame" "look_at_frame" (defArgs s_look_at_frame) (defBody s_look_at_frame) (defScope s_look_at_frame) .none kV17 dc17 pm17 an17 cd17 ct17), sl17⟩) (e17 : codeIn K cd17 "look_at_frame" = true) (k17 : keepIn K (.ref f17) = true) (a18 : nsIn K mainGlobals "look_at_totals" = some (some (.ref f18))) (l18 : K.lookup f18 = some ⟨oc18, od18, .func (fnOf "look_at_totals" "look_at_totals" (defArgs s_look_at_totals) (defBody s_look_at_totals) (defScope s_look_at_totals) .none kV18 dc18 pm18 an18 cd18 ct18), sl18⟩) (e18 : codeIn K cd18 "look_at_totals" = true) (k18 : keepIn K (.ref f18) = true) (a19 : nsIn K mainGlobals "look" = some (some (.ref f19))) (l19 : K.lookup f19 = some ⟨oc19, od19, .func (fnOf "look" "look" (defArgs s_look) (defBody s_look) (defScope s_look) .none kV19 dc19 pm19 an19 cd19 ct19), sl19⟩) (e19 : codeIn K cd19 "look" = true) (k19 : keepIn K (.ref f19) = true) (a24 : nsIn K mainGlobals "send" = some (some (.ref f24))) (l24 : K.lookup f24 = some ⟨oc24, od24, .func (fnOf "send" "send" (defArgs s_send) (defBody s_send) (defScope s_send) .none kV24 dc24 pm24 an24 cd24 ct24), sl24⟩) (e24 : codeIn K cd24 "send" = true) (k24 : keepIn K (.ref f24) = true) (a25 : nsIn K mainGlobals "send_ask" = some (some (.ref f25))) (l25 : K.lookup f25 = some ⟨oc25, od25, .func (fnOf "send_ask" "send_ask" (defArgs s_send_ask) (defBody s_send_ask) (defScope s_send_ask) .none kV25 dc25 pm25 an25 cd25 ct25), sl25⟩) (e25 : codeIn K cd25 "send_ask" = true) (k25 : keepIn K (.ref f25) = true) (a26 : nsIn K mainGlobals "pump" = some (some (.ref f26))) (l26 : K.lookup f26 = some ⟨oc26, od26, .func (fnOf "pump" "pump" (defArgs s_pump) (defBody s_pump) (defScope s_pump) .none kV26 dc26 pm26 an26 cd26 ct26), sl26⟩) (e26 : codeIn K cd26 "pump" = true) (k26 : keepIn K (.ref f26) = true) (a27 : nsIn K mainGlobals "log_event" = some (some (.ref f27))) (l27 : K.lookup f27 = some ⟨oc27, od27, .func (fnOf "log_event" "log_event" (defArgs s_log_event) (defBody s_log_event) (defScope s_log_event) .none kV27 dc27 pm27 an27 cd27 ct27), sl27⟩) (e27 : codeIn K cd27 "log_event" = true) (k27 : keepIn K (.ref f27) = true) (a28 : nsIn K mainGlobals "station_acks" = some (some (.ref f28))) (l28 : K.lookup f28 = some ⟨oc28, od28, .func (fnOf "station_acks" "station_acks" (defArgs s_station_acks) (defBody s_station_acks) (defScope s_station_acks) .none kV28 dc28 pm28 an28 cd28 ct28), sl28⟩) (e28 : codeIn K cd28 "station_acks" = true) (k28 : keepIn K (.ref f28) = true) (a29 : nsIn K mainGlobals "find_aside" = some (some (.ref f29))) (l29 : K.lookup f29 = some ⟨oc29, od29, .func (fnOf "find_aside" "find_aside" (defArgs s_find_aside) (defBody s_find_aside) (defScope s_find_aside) .none kV29 dc29 pm29 an29 cd29 ct29), sl29⟩) (e29 : codeIn K cd29 "find_aside" = true) (k29 : keepIn K (.ref f29) = true) (a30 : nsIn K mainGlobals "take_in" = some (some (.ref f30))) (l30 : K.lookup f30 = some ⟨oc30, od30, .func (fnOf "take_in" "take_in" (defArgs s_take_in) (defBody s_take_in) (defScope s_take_in) .none kV30 dc30 pm30 an30 cd30 ct30), sl30⟩) (e30 : codeIn K cd30 "take_in" = true) (k30 : keepIn K (.ref f30) = true) (a31 : nsIn K mainGlobals "data_at_station" = some (some (.ref f31))) (l31 : K.lookup f31 = some ⟨oc31, od31, .func (fnOf "data_at_station" "data_at_station" (defArgs s_data_at_station) (defBody s_data_at_station) (defScope s_data_at_station) .none kV31 dc31 pm31 an31 cd31 ct31), sl31⟩) (e31 : codeIn K cd31 "data_at_station" = true) (k31 : keepIn K (.ref f31) = true) (a32 : nsIn K mainGlobals "ack_at_machine" = some (some (.ref f32))) (l32 : K.lookup f32 = some ⟨oc32, od32, .func (fnOf "ack_at_machine" "ack_at_machine" (defArgs s_ack_at_machine) (defBody s_ack_at_machine) (defScope s_ack_at_machine) .none kV32 dc32 pm32 an32 cd32 ct32), sl32⟩) (e32 : codeIn K cd32 "ack_at_machine" = true) (k32 : keepIn K (.ref f32) = true) (a33 : nsIn K mainGlobals "arrive_at_station" = some (some (.ref f33))) (l33 : K.lookup f33 = some ⟨oc33, od33, .func (fnOf "arrive_at_station" "arrive_at_station" (defArgs s_arrive_at_station) (defBody s_arrive_at_station) (defScope s_arrive_at_station) .none kV33 dc33 pm33 an33 cd33 ct33), sl33⟩) (e33 : codeIn K cd33 "arrive_at_station" = true) (k33 : keepIn K (.ref f33) = true) (a34 : nsIn K mainGlobals "arrive_at_machine" = some (some (.ref f34))) (l34 : K.lookup f34 = some ⟨oc34, od34, .func (fnOf "arrive_at_machine" "arrive_at_machine" (defArgs s_arrive_at_machine) (defBody s_arrive_at_machine) (defScope s_arrive_at_machine) .none kV34 dc34 pm34 an34 cd34 ct34), sl34⟩) (e34 : codeIn K cd34 "arrive_at_machine" = true) (k34 : keepIn K (.ref f34) = true) (a35 : nsIn K mainGlobals "arrive" = some (some (.ref f35))) (l35 : K.lookup f35 = some ⟨oc35, od35, .func (fnOf "arrive" "arrive" (defArgs s_arrive) (defBody s_arrive) (defScope s_arrive) .none kV35 dc35 pm35 an35 cd35 ct35), sl35⟩) (e35 : codeIn K cd35 "arrive" = true) (k35 : keepIn K (.ref f35) = true) (a36 : nsIn K mainGlobals "tick_machine" = some (some (.ref f36))) (l36 : K.lookup f36 = some ⟨oc36, od36, .func (fnOf "tick_machine" "tick_machine" (defArgs s_tick_machine) (defBody s_tick_machine) (defScope s_tick_machine) .none kV36 dc36 pm36 an36 cd36 ct36), sl36⟩) (e36 : codeIn K cd36 "tick_machine" = true) (k36 : keepIn K (.ref f36) = true) (a37 : nsIn K mainGlobals "tick" = some (some (.ref f37))) (l37 : K.lookup f37 = some ⟨oc37, od37, .func (fnOf "tick" "tick" (defArgs s_tick) (defBody s_tick) (defScope s_tick) .none kV37 dc37 pm37 an37 cd37 ct37), sl37⟩) (e37 : codeIn K cd37 "tick" = true) (k37 : keepIn K (.ref f37) = true) (a38 : nsIn K mainGlobals "calm_round" = some (some (.ref f38))) (l38 : K.lookup f38 = some ⟨oc38, od38, .func (fnOf "calm_round" "calm_round" (defArgs s_calm_round) (defBody s_calm_round) (defScope s_calm_round) .none kV38 dc38 pm38 an38 cd38 ct38), sl38⟩) (e38 : codeIn K cd38 "calm_round" = true) (k38 : keepIn K (.ref f38) = true) (a39 : nsIn K mainGlobals "open_ward" = some (some (.ref f39))) (l39 : K.lookup f39 = some ⟨oc39, od39, .func (fnOf "open_ward" "open_ward" (defArgs s_open_ward) (defBody s_open_ward) (defScope s_open_ward) .none kV39 dc39 pm39 an39 cd39 ct39), sl39⟩) (e39 : codeIn K cd39 "open_ward" = true) (k39 : keepIn K (.ref f39) = true) (a40 : nsIn K mainGlobals "add_to_log" = some (some (.ref f40))) (l40 : K.lookup f40 = some ⟨oc40, od40, .func (fnOf "add_to_log" "add_to_log" (defArgs s_add_to_log) (defBody s_add_to_log) (defScope s_add_to_log) .none kV40 dc40 pm40 an40 cd40 ct40), sl40⟩) (e40 : codeIn K cd40 "add_to_log" = true) (k40 : keepIn K (.ref f40) = true) (a41 : nsIn K mainGlobals "tick_often" = some (some (.ref f41))) (l41 : K.lookup f41 = some ⟨oc41, od41, .func (fnOf "tick_often" "tick_often" (defArgs s_tick_often) (defBody s_tick_often) (defScope s_tick_often) .none kV41 dc41 pm41 an41 cd41 ct41), sl41⟩) (e41 : codeIn K cd41 "tick_often" = true) (k41 : keepIn K (.ref f41) = true) (a42 : nsIn K mainGlobals "deliver_packet" = some (some (.ref f42))) (l42 : K.lookup f42 = some ⟨oc42, od42, .func (fnOf "deliver_packet" "deliver_packet" (defArgs s_deliver_packet) (defBody s_deliver_packet) (defScope s_deliver_packet) .none kV42 dc42 pm42 an42 cd42 ct42), sl42⟩) (e42 : codeIn K cd42 "deliver_packet" = true) (k42 : keepIn K (.ref f42) = true) (a43 : nsIn K mainGlobals "drop_packet" = some (some (.ref f43))) (l43 : K.lookup f43 = some ⟨oc43, od43, .func (fnOf "drop_packet" "drop_packet" (defArgs s_drop_packet) (defBody s_drop_packet) (defScope s_drop_packet) .none kV43 dc43 pm43 an43 cd43 ct43), sl43⟩) (e43 : codeIn K cd43 "drop_packet" = true) (k43 : keepIn K (.ref f43) = true) (a44 : nsIn K mainGlobals "double_packet" = some (some (.ref f44))) (l44 : K.lookup f44 = some ⟨oc44, od44, .func (fnOf "double_packet" "double_packet" (defArgs s_double_packet) (defBody s_double_packet) (defScope s_double_packet) .none kV44 dc44 pm44 an44 cd44 ct44), sl44⟩) (e44 : codeIn K cd44 "double_packet" = true) (k44 : keepIn K (.ref f44) = true) (a45 : nsIn K mainGlobals "spoil_packet" = some (some (.ref f45))) (l45 : K.lookup f45 = some ⟨oc45, od45, .func (fnOf "spoil_packet" "spoil_packet" (defArgs s_spoil_packet) (defBody s_spoil_packet) (defScope s_spoil_packet) .none kV45 dc45 pm45 an45 cd45 ct45), sl45⟩) (e45 : codeIn K cd45 "spoil_packet" = true) (k45 : keepIn K (.ref f45) = true) (a46 : nsIn K mainGlobals "cut_power" = some (some (.ref f46))) (l46 : K.lookup f46 = some ⟨oc46, od46, .func (fnOf "cut_power" "cut_power" (defArgs s_cut_power) (defBody s_cut_power) (defScope s_cut_power) .none kV46 dc46 pm46 an46 cd46 ct46), sl46⟩) (e46 : codeIn K cd46 "cut_power" = true) (k46 : keepIn K (.ref f46) = true) (a47 : nsIn K mainGlobals "bring_back" = some (some (.ref f47))) (l47 : K.lookup f47 = some ⟨oc47, od47, .func (fnOf "bring_back" "bring_back" (defArgs s_bring_back) (defBody s_bring_back) (defScope s_bring_back) .none kV47 dc47 pm47 an47 cd47 ct47), sl47⟩) (e47 : codeIn K cd47 "bring_back" = true) (k47 : keepIn K (.ref f47) = true) (a48 : nsIn K mainGlobals "lose_copy" = some (some (.ref f48))) (l48 : K.lookup f48 = some ⟨oc48, od48, .func (fnOf "lose_copy" "lose_copy" (defArgs s_lose_copy) (defBody s_lose_copy) (defScope s_lose_copy) .none kV48 dc48 pm48 an48 cd48 ct48), sl48⟩) (e48 : codeIn K cd48 "lose_copy" = true) (k48 : keepIn K (.ref f48) = true) (a49 : nsIn K mainGlobals "blink_station" = some (some (.ref f49))) (l49 : K.lookup f49 = some ⟨oc49, od49, .func (fnOf "blink_station" "blink_station" (defArgs s_blink_station) (defBody s_blink_station) (defScope s_blink_station) .none kV49 dc49 pm49 an49 cd49 ct49), sl49⟩) (e49 : codeIn K cd49 "blink_station" = true) (k49 : keepIn K (.ref f49) = true) (a50 : nsIn K mainGlobals "calm_down" = some (some (.ref f50))) (l50 : K.lookup f50 = some ⟨oc50, od50, .func (fnOf "calm_down" "calm_down" (defArgs s_calm_down) (defBody s_calm_down) (defScope s_calm_down) .none kV50 dc50 pm50 an50 cd50 ct50), sl50⟩) (e50 : codeIn K cd50 "calm_down" = true) (k50 : keepIn K (.ref f50) = true) (a51 : nsIn K mainGlobals "count_numbers" = some (some (.ref f51))) (l51 : K.lookup f51 = some ⟨oc51, od51, .func (fnOf "count_numbers" "count_numbers" (defArgs s_count_numbers) (defBody s_count_numbers) (defScope s_count_numbers) .none kV51 dc51 pm51 an51 cd51 ct51), sl51⟩) (e51 : codeIn K cd51 "count_numbers" = true) (k51 : keepIn K (.ref f51) = true) (a52 : nsIn K mainGlobals "has_row" = some (some (.ref f52))) (l52 : K.lookup f52 = some ⟨oc52, od52, .func (fnOf "has_row" "has_row" (defArgs s_has_row) (defBody s_has_row) (defScope s_has_row) .none kV52 dc52 pm52 an52 cd52 ct52), sl52⟩) (e52 : codeIn K cd52 "has_row" = true) (k52 : keepIn K (.ref f52) = true) (a53 : nsIn K mainGlobals "in_ranges" = some (some (.ref f53))) (l53 : K.lookup f53 = some ⟨oc53, od53, .func (fnOf "in_ranges" "in_ranges" (defArgs s_in_ranges) (defBody s_in_ranges) (defScope s_in_ranges) .none kV53 dc53 pm53 an53 cd53 ct53), sl53⟩) (e53 : codeIn K cd53 "in_ranges" = true) (k53 : keepIn K (.ref f53) = true) (a54 : nsIn K mainGlobals "common_refusal" = some (some (.ref f54))) (l54 : K.lookup f54 = some ⟨oc54, od54, .func (fnOf "common_refusal" "common_refusal" (defArgs s_common_refusal) (defBody s_common_refusal) (defScope s_common_refusal) .none kV54 dc54 pm54 an54 cd54 ct54), sl54⟩) (e54 : codeIn K cd54 "common_refusal" = true) (k54 : keepIn K (.ref f54) = true) (a55 : nsIn K mainGlobals "perform" = some (some (.ref f55))) (l55 : K.lookup f55 = some ⟨oc55, od55, .func (fnOf "perform" "perform" (defArgs s_perform) (defBody s_perform) (defScope s_perform) .none kV55 dc55 pm55 an55 cd55 ct55), sl55⟩) (e55 : codeIn K cd55 "perform" = true) (k55 : keepIn K (.ref f55) = true) (a56 : nsIn K mainGlobals "answers" = some (some (.ref f56))) (l56 : K.lookup f56 = some ⟨oc56, od56, .func (fnOf "answers" "answers" (defArgs s_answers) (defBody s_answers) (defScope s_answers) .none kV56 dc56 pm56 an56 cd56 ct56), sl56⟩) (e56 : codeIn K cd56 "answers" = true) (k56 : keepIn K (.ref f56) = true) (T_LOOKS : nsIn K mainGlobals "LOOKS" = some (some (.ref t_LOOKS))) (T_RANGES : nsIn K mainGlobals "RANGES" = some (some (.ref t_RANGES))) (T_ROW_LIMITS : nsIn K mainGlobals "ROW_LIMITS" = some (some (.ref t_ROW_LIMITS))) (T_FREE_CALLS : nsIn K mainGlobals "FREE_CALLS" = some (some (.ref t_FREE_CALLS))) (T_MACHINE_CALLS : nsIn K mainGlobals "MACHINE_CALLS" = some (some (.ref t_MACHINE_CALLS))) (T_PACKET_CALLS : nsIn K mainGlobals "PACKET_CALLS" = some (some (.ref t_PACKET_CALLS))) (T_HANDLERS : nsIn K mainGlobals "HANDLERS" = some (some (.ref t_HANDLERS))) (L_RANGES : K.lookup t_RANGES = some ⟨.type "dict", none, .dict #[⟨hashInt 0, .int 0 tk_RANGES_0, .ref r_0⟩, ⟨hashInt 1, .int 1 tk_RANGES_1, .ref r_1⟩, ⟨hashInt 2, .int 2 tk_RANGES_2, .ref r_2⟩, ⟨hashInt 3, .int 3 tk_RANGES_3, .ref r_3⟩, ⟨hashInt 4, .int 4 tk_RANGES_4, .ref r_4⟩, ⟨hashInt 5, .int 5 tk_RANGES_5, .ref r_5⟩, ⟨hashInt 6, .int 6 tk_RANGES_6, .ref r_6⟩, ⟨hashInt 7, .int 7 tk_RANGES_7, .ref r_7⟩, ⟨hashInt 8, .int 8 tk_RANGES_8, .ref r_8⟩, ⟨hashInt 9, .int 9 tk_RANGES_9, .ref r_9⟩, ⟨hashInt 10, .int 10 tk_RANGES_10, .ref r_10⟩, ⟨hashInt 11, .int 11 tk_RANGES_11, .ref r_11⟩, ⟨hashInt 12, .int 12 tk_RANGES_12, .ref r_12⟩, ⟨hashInt 13, .int 13 tk_RANGES_13, .ref r_13⟩, ⟨hashInt 14, .int 14 tk_RANGES_14, .ref r_14⟩, ⟨hashInt 15, .int 15 tk_RANGES_15, .ref r_15⟩, ⟨hashInt 16, .int 16 tk_RANGES_16, .ref r_16⟩, ⟨hashInt 17, .int 17 tk_RANGES_17, .ref r_17⟩, ⟨hashInt 18, .int 18 tk_RANGES_18, .ref r_18⟩, ⟨hashInt 19, .int 19 tk_RANGES_19, .ref r_19⟩, ⟨hashInt 20, .int 20 tk_RANGES_20, .ref r_20⟩] nd_RANGES, #[]⟩) (S_RANGES : (t_RANGES == sysModules) = false) (L_r_0 : K.lookup r_0 = some ⟨.type "tuple", od_r_0, .seq #[.ref q_0_0, .ref q_0_1, .ref q_0_2] nn_r_0, sl_r_0⟩) (L_q_0_0 : K.lookup q_0_0 = some ⟨.type "tuple", od_q_0_0, .seq #[.int (1) tk_q_0_0_0, .int (4) tk_q_0_0_1] nn_q_0_0, sl_q_0_0⟩) (L_q_0_1 : K.lookup q_0_1 = some ⟨.type "tuple", od_q_0_1, .seq #[.int (1) tk_q_0_1_0, .int (8) tk_q_0_1_1] nn_q_0_1, sl_q_0_1⟩) (L_q_0_2 : K.lookup q_0_2 = some ⟨.type "tuple", od_q_0_2, .seq #[.int (1) tk_q_0_2_0, .int (50) tk_q_0_2_1] nn_q_0_2, sl_q_0_2⟩) (L_r_1 : K.lookup r_1 = some ⟨.type "tuple", od_r_1, .seq #[.ref q_1_0] nn_r_1, sl_r_1⟩) (L_q_1_0 : K.lookup q_1_0 = some ⟨.type "tuple", od_q_1_0, .seq #[.int (0) tk_q_1_0_0, .int (3) tk_q_1_0_1] nn_q_1_0, sl_q_1_0⟩) (L_r_2 : K.lookup r_2 = some ⟨.type "tuple", od_r_2, .seq #[.ref q_2_0] nn_r_2, sl_r_2⟩) (L_q_2_0 : K.lookup q_2_0 = some ⟨.type "tuple", od_q_2_0, .seq #[.int (1) tk_q_2_0_0, .int (100) tk_q_2_0_1] nn_q_2_0, sl_q_2_0⟩) (L_r_3 : K.lookup r_3 = some ⟨.type "tuple", od_r_3, .seq #[.ref q_3_0] nn_r_3, sl_r_3⟩) (L_q_3_0 : K.lookup q_3_0 = some ⟨.type "tuple", od_q_3_0, .seq #[.int (0) tk_q_3_0_0, .int (199) tk_q_3_0_1] nn_q_3_0, sl_q_3_0⟩) (L_r_4 : K.lookup r_4 = some ⟨.type "tuple", od_r_4, .seq #[.ref q_4_0] nn_r_4, sl_r_4⟩) (L_q_4_0 : K.lookup q_4_0 = some ⟨.type "tuple", od_q_4_0, .seq #[.int (0) tk_q_4_0_0, .int (199) tk_q_4_0_1] nn_q_4_0, sl_q_4_0⟩) (L_r_5 : K.lookup r_5 = some ⟨.type "tuple", od_r_5, .seq #[.ref q_5_0] nn_r_5, sl_r_5⟩) (L_q_5_0 : K.lookup q_5_0 = some ⟨.type "tuple", od_q_5_0, .seq #[.int (0) tk_q_5_0_0, .int (199) tk_q_5_0_1] nn_q_5_0, sl_q_5_0⟩) (L_r_6 : K.lookup r_6 = some ⟨.type "tuple", od_r_6, .seq #[.ref q_6_0, .ref q_6_1, .ref q_6_2] nn_r_6, sl_r_6⟩) (L_q_6_0 : K.lookup q_6_0 = some ⟨.type "tuple", od_q_6_0, .seq #[.int (0) tk_q_6_0_0, .int (199) tk_q_6_0_1] nn_q_6_0, sl_q_6_0⟩) (L_q_6_1 : K.lookup q_6_1 = some ⟨.type "tuple", od_q_6_1, .seq #[.int (0) tk_q_6_1_0, .int (31) tk_q_6_1_1] nn_q_6_1, sl_q_6_1⟩) (L_q_6_2 : K.lookup q_6_2 = some ⟨.type "tuple", od_q_6_2, .seq #[.int (1) tk_q_6_2_0, .int (255) tk_q_6_2_1] nn_q_6_2, sl_q_6_2⟩) (L_r_7 : K.lookup r_7 = some ⟨.type "tuple", od_r_7, .seq #[.ref q_7_0] nn_r_7, sl_r_7⟩) (L_q_7_0 : K.lookup q_7_0 = some ⟨.type "tuple", od_q_7_0, .seq #[.int (0) tk_q_7_0_0, .int (3) tk_q_7_0_1] nn_q_7_0, sl_q_7_0⟩) (L_r_8 : K.lookup r_8 = some ⟨.type "tuple", od_r_8, .seq #[.ref q_8_0] nn_r_8, sl_r_8⟩) (L_q_8_0 : K.lookup q_8_0 = some ⟨.type "tuple", od_q_8_0, .seq #[.int (0) tk_q_8_0_0, .int (3) tk_q_8_0_1] nn_q_8_0, sl_q_8_0⟩) (L_r_9 : K.lookup r_9 = some ⟨.type "tuple", od_r_9, .seq #[.ref q_9_0] nn_r_9, sl_r_9⟩) (L_q_9_0 : K.lookup q_9_0 = some ⟨.type "tuple", od_q_9_0, .seq #[.int (0) tk_q_9_0_0, .int (3) tk_q_9_0_1] nn_q_9_0, sl_q_9_0⟩) (L_r_10 : K.lookup r_10 = some ⟨.type "tuple", od_r_10, .seq #[] nn_r_10, sl_r_10⟩) (L_r_11 : K.lookup r_11 = some ⟨.type "tuple", od_r_11, .seq #[.ref q_11_0] nn_r_11, sl_r_11⟩) (L_q_11_0 : K.lookup q_11_0 = some ⟨.type "tuple", od_q_11_0, .seq #[.int (1) tk_q_11_0_0, .int (100) tk_q_11_0_1] nn_q_11_0, sl_q_11_0⟩) (L_r_12 : K.lookup r_12 = some ⟨.type "tuple", od_r_12, .seq #[] nn_r_12, sl_r_12⟩) (L_r_13 : K.lookup r_13 = some ⟨.type "tuple", od_r_13, .seq #[.ref q_13_0] nn_r_13, sl_r_13⟩) (L_q_13_0 : K.lookup q_13_0 = some ⟨.type "tuple", od_q_13_0, .seq #[.int (0) tk_q_13_0_0, .int (199) tk_q_13_0_1] nn_q_13_0, sl_q_13_0⟩) (L_r_14 : K.lookup r_14 = some ⟨.type "tuple", od_r_14, .seq #[.ref q_14_0] nn_r_14, sl_r_14⟩) (L_q_14_0 : K.lookup q_14_0 = some ⟨.type "tuple", od_q_14_0, .seq #[.int (0) tk_q_14_0_0, .int (3) tk_q_14_0_1] nn_q_14_0, sl_q_14_0⟩) (L_r_15 : K.lookup r_15 = some ⟨.type "tuple", od_r_15, .seq #[.ref q_15_0] nn_r_15, sl_r_15⟩) (L_q_15_0 : K.lookup q_15_0 = some ⟨.type "tuple", od_q_15_0, .seq #[.int (0) tk_q_15_0_0, .int (3) tk_q_15_0_1] nn_q_15_0, sl_q_15_0⟩) (L_r_16 : K.lookup r_16 = some ⟨.type "tuple", od_r_16, .seq #[.ref q_16_0, .ref q_16_1] nn_r_16, sl_r_16⟩) (L_q_16_0 : K.lookup q_16_0 = some ⟨.type "tuple", od_q_16_0, .seq #[.int (0) tk_q_16_0_0, .int (3) tk_q_16_0_1] nn_q_16_0, sl_q_16_0⟩) (L_q_16_1 : K.lookup q_16_1 = some ⟨.type "tuple", od_q_16_1, .seq #[.int (0) tk_q_16_1_0, .int (199) tk_q_16_1_1] nn_q_16_1, sl_q_16_1⟩) (L_r_17 : K.lookup r_17 = some ⟨.type "tuple", od_r_17, .seq #[.ref q_17_0, .ref q_17_1] nn_r_17, sl_r_17⟩) (L_q_17_0 : K.lookup q_17_0 = some ⟨.type "tuple", od_q_17_0, .seq #[.int (0) tk_q_17_0_0, .int (3) tk_q_17_0_1] nn_q_17_0, sl_q_17_0⟩) (L_q_17_1 : K.lookup q_17_1 = some ⟨.type "tuple", od_q_17_1, .seq #[.int (0) tk_q_17_1_0, .int (199) tk_q_17_1_1] nn_q_17_1, sl_q_17_1⟩) (L_r_18 : K.lookup r_18 = some ⟨.type "tuple", od_r_18, .seq #[.ref q_18_0] nn_r_18, sl_r_18⟩) (L_q_18_0 : K.lookup q_18_0 = some ⟨.type "tuple", od_q_18_0, .seq #[.int (0) tk_q_18_0_0, .int (3) tk_q_18_0_1] nn_q_18_0, sl_q_18_0⟩) (L_r_19 : K.lookup r_19 = some ⟨.type "tuple", od_r_19, .seq #[] nn_r_19, sl_r_19⟩) (L_r_20 : K.lookup r_20 = some ⟨.type "tuple", od_r_20, .seq #[] nn_r_20, sl_r_20⟩) (L_ROW_LIMITS : K.lookup t_ROW_LIMITS = some ⟨.type "dict", none, .dict #[⟨hashInt 1, .int 1 tk_ROW_LIMITS_0, .int 16 tw_1⟩, ⟨hashInt 19, .int 19 tk_ROW_LIMITS_1, .int 40 tw_19⟩] nd_ROW_LIMITS, #[]⟩) (S_ROW_LIMITS : (t_ROW_LIMITS == sysModules) = false) (L_HANDLERS : K.lookup t_HANDLERS = some ⟨.type "dict", none, .dict #[⟨hashInt 0, .int 0 tk_HANDLERS_0, .ref f39⟩, ⟨hashInt 1, .int 1 tk_HANDLERS_1, .ref f40⟩, ⟨hashInt 2, .int 2 tk_HANDLERS_2, .ref f41⟩, ⟨hashInt 3, .int 3 tk_HANDLERS_3, .ref f42⟩, ⟨hashInt 4, .int 4 tk_HANDLERS_4, .ref f43⟩, ⟨hashInt 5, .int 5 tk_HANDLERS_5, .ref f44⟩, ⟨hashInt 6, .int 6 tk_HANDLERS_6, .ref f45⟩, ⟨hashInt 7, .int 7 tk_HANDLERS_7, .ref f46⟩, ⟨hashInt 8, .int 8 tk_HANDLERS_8, .ref f47⟩, ⟨hashInt 9, .int 9 tk_HANDLERS_9, .ref f48⟩, ⟨hashInt 10, .int 10 tk_HANDLERS_10, .ref f49⟩, ⟨hashInt 11, .int 11 tk_HANDLERS_11, .ref f50⟩] nd_HANDLERS, #[]⟩) (S_HANDLERS : (t_HANDLERS == sysModules) = false) (L_LOOKS : K.lookup t_LOOKS = some ⟨.type "dict", none, .dict #[⟨hashInt 12, .int 12 tk_LOOKS_0, .ref f9⟩, ⟨hashInt 13, .int 13 tk_LOOKS_1, .ref f10⟩, ⟨hashInt 14, .int 14 tk_LOOKS_2, .ref f11⟩, ⟨hashInt 15, .int 15 tk_LOOKS_3, .ref f12⟩, ⟨hashInt 16, .int 16 tk_LOOKS_4, .ref f14⟩, ⟨hashInt 17, .int 17 tk_LOOKS_5, .ref f15⟩, ⟨hashInt 18, .int 18 tk_LOOKS_6, .ref f16⟩, ⟨hashInt 19, .int 19 tk_LOOKS_7, .ref f17⟩, ⟨hashInt 20, .int 20 tk_LOOKS_8, .ref f18⟩] nd_LOOKS, #[]⟩) (S_LOOKS : (t_LOOKS == sysModules) = false) (L_t_FREE_CALLS : K.lookup t_FREE_CALLS = some ⟨.type "tuple", od_t_FREE_CALLS, .seq #[.int (0) tk_t_FREE_CALLS_0, .int (19) tk_t_FREE_CALLS_1] nn_t_FREE_CALLS, sl_t_FREE_CALLS⟩) (L_t_MACHINE_CALLS : K.lookup t_MACHINE_CALLS = some ⟨.type "tuple", od_t_MACHINE_CALLS, .seq #[.int (1) tk_t_MACHINE_CALLS_0, .int (7) tk_t_MACHINE_CALLS_1, .int (8) tk_t_MACHINE_CALLS_2, .int (9) tk_t_MACHINE_CALLS_3, .int (14) tk_t_MACHINE_CALLS_4, .int (15) tk_t_MACHINE_CALLS_5, .int (16) tk_t_MACHINE_CALLS_6, .int (17) tk_t_MACHINE_CALLS_7, .int (18) tk_t_MACHINE_CALLS_8] nn_t_MACHINE_CALLS, sl_t_MACHINE_CALLS⟩) (L_t_PACKET_CALLS : K.lookup t_PACKET_CALLS = some ⟨.type "tuple", od_t_PACKET_CALLS, .seq #[.int (3) tk_t_PACKET_CALLS_0, .int (4) tk_t_PACKET_CALLS_1, .int (5) tk_t_PACKET_CALLS_2, .int (6) tk_t_PACKET_CALLS_3, .int (13) tk_t_PACKET_CALLS_4] nn_t_PACKET_CALLS, sl_t_PACKET_CALLS⟩)
    : ∃ (a : Adr) (rk : List (Int × V)), Txt K mg a ∧ Tab K a rk := by
  have F20 := fun_mk (st := s_Packet_init) l20 e20 k20
  have B20 := F20.binds (ps := p_Packet_init) fun _ _ _ _ _ _ us hl => match us, hl with | [_, _, _, _], _ => rfl
  have F21 := fun_mk (st := s_Machine_init) l21 e21 k21
  have B21 := F21.binds (ps := p_Machine_init) fun _ _ _ _ _ _ us hl => match us, hl with | [_], _ => rfl
  have F22 := fun_mk (st := s_Desk_init) l22 e22 k22
  have B22 := F22.binds (ps := p_Desk_init) fun _ _ _ _ _ _ us hl => match us, hl with | [_], _ => rfl
  have F23 := fun_mk (st := s_Ward_init) l23 e23 k23
  have B23 := F23.binds (ps := p_Ward_init) fun _ _ _ _ _ _ us hl => match us, hl with | [_], _ => rfl
  have F0 := fun_mk (st := s_check_of) l0 e0 k0
  have B0 := F0.binds (ps := p_check_of) fun _ _ _ _ _ _ us hl => match us, hl with | [_], _ => rfl
  have F1 := fun_mk (st := s_number_to_octets) l1 e1 k1
  have B1 := F1.binds (ps := p_number_to_octets) fun _ _ _ _ _ _ us hl => match us, hl with | [_, _], _ => rfl
  have F2 := fun_mk (st := s_octets_to_number) l2 e2 k2
  have B2 := F2.binds (ps := p_octets_to_number) fun _ _ _ _ _ _ us hl => match us, hl with | [_], _ => rfl
  have F3 := fun_mk (st := s_body_of) l3 e3 k3
  have B3 := F3.binds (ps := p_body_of) fun _ _ _ _ _ _ us hl => match us, hl with | [_], _ => rfl
  have F4 := fun_mk (st := s_make_frame) l4 e4 k4
  have B4 := F4.binds (ps := p_make_frame) fun _ _ _ _ _ _ us hl => match us, hl with | [_], _ => rfl
  have F5 := fun_mk (st := s_read_data) l5 e5 k5
  have B5 := F5.binds (ps := p_read_data) fun _ _ _ _ _ _ us hl => match us, hl with | [_], _ => rfl
  have F6 := fun_mk (st := s_read_body) l6 e6 k6
  have B6 := F6.binds (ps := p_read_body) fun _ _ _ _ _ _ us hl => match us, hl with | [_], _ => rfl
  have F7 := fun_mk (st := s_read_frame) l7 e7 k7
  have B7 := F7.binds (ps := p_read_frame) fun _ _ _ _ _ _ us hl => match us, hl with | [_], _ => rfl
  have F8 := fun_mk (st := s_counted) l8 e8 k8
  have B8 := F8.binds (ps := p_counted) fun _ _ _ _ _ _ us hl => match us, hl with | [_], _ => rfl
  have F9 := fun_mk (st := s_look_at_net) l9 e9 k9
  have B9 := F9.binds (ps := p_look_at_net) fun _ _ _ _ _ _ us hl => match us, hl with | [_, _, _], _ => rfl
  have F10 := fun_mk (st := s_look_at_packet) l10 e10 k10
  have B10 := F10.binds (ps := p_look_at_packet) fun _ _ _ _ _ _ us hl => match us, hl with | [_, _, _], _ => rfl
  have F11 := fun_mk (st := s_look_at_sender) l11 e11 k11
  have B11 := F11.binds (ps := p_look_at_sender) fun _ _ _ _ _ _ us hl => match us, hl with | [_, _, _], _ => rfl
  have F12 := fun_mk (st := s_look_at_station) l12 e12 k12
  have B12 := F12.binds (ps := p_look_at_station) fun _ _ _ _ _ _ us hl => match us, hl with | [_, _, _], _ => rfl
  have F13 := fun_mk (st := s_event_at) l13 e13 k13
  have B13 := F13.binds (ps := p_event_at) fun _ _ _ _ _ _ us hl => match us, hl with | [_, _], _ => rfl
  have F14 := fun_mk (st := s_look_at_copy) l14 e14 k14
  have B14 := F14.binds (ps := p_look_at_copy) fun _ _ _ _ _ _ us hl => match us, hl with | [_, _, _], _ => rfl
  have F15 := fun_mk (st := s_look_at_event) l15 e15 k15
  have B15 := F15.binds (ps := p_look_at_event) fun _ _ _ _ _ _ us hl => match us, hl with | [_, _, _], _ => rfl
  have F16 := fun_mk (st := s_look_whether_whole) l16 e16 k16
  have B16 := F16.binds (ps := p_look_whether_whole) fun _ _ _ _ _ _ us hl => match us, hl with | [_, _, _], _ => rfl
  have F17 := fun_mk (st := s_look_at_frame) l17 e17 k17
  have B17 := F17.binds (ps := p_look_at_frame) fun _ _ _ _ _ _ us hl => match us, hl with | [_, _, _], _ => rfl
  have F18 := fun_mk (st := s_look_at_totals) l18 e18 k18
  have B18 := F18.binds (ps := p_look_at_totals) fun _ _ _ _ _ _ us hl => match us, hl with | [_, _, _], _ => rfl
  have F19 := fun_mk (st := s_look) l19 e19 k19
  have B19 := F19.binds (ps := p_look) fun _ _ _ _ _ _ us hl => match us, hl with | [_, _, _, _], _ => rfl
  have F24 := fun_mk (st := s_send) l24 e24 k24
  have B24 := F24.binds (ps := p_send) fun _ _ _ _ _ _ us hl => match us, hl with | [_, _, _, _], _ => rfl
  have F25 := fun_mk (st := s_send_ask) l25 e25 k25
  have B25 := F25.binds (ps := p_send_ask) fun _ _ _ _ _ _ us hl => match us, hl with | [_, _], _ => rfl
  have F26 := fun_mk (st := s_pump) l26 e26 k26
  have B26 := F26.binds (ps := p_pump) fun _ _ _ _ _ _ us hl => match us, hl with | [_, _], _ => rfl
  have F27 := fun_mk (st := s_log_event) l27 e27 k27
  have B27 := F27.binds (ps := p_log_event) fun _ _ _ _ _ _ us hl => match us, hl with | [_, _, _], _ => rfl
  have F28 := fun_mk (st := s_station_acks) l28 e28 k28
  have B28 := F28.binds (ps := p_station_acks) fun _ _ _ _ _ _ us hl => match us, hl with | [_, _], _ => rfl
  have F29 := fun_mk (st := s_find_aside) l29 e29 k29
  have B29 := F29.binds (ps := p_find_aside) fun _ _ _ _ _ _ us hl => match us, hl with | [_, _], _ => rfl
  have F30 := fun_mk (st := s_take_in) l30 e30 k30
  have B30 := F30.binds (ps := p_take_in) fun _ _ _ _ _ _ us hl => match us, hl with | [_, _, _], _ => rfl
  have F31 := fun_mk (st := s_data_at_station) l31 e31 k31
  have B31 := F31.binds (ps := p_data_at_station) fun _ _ _ _ _ _ us hl => match us, hl with | [_, _, _, _], _ => rfl
  have F32 := fun_mk (st := s_ack_at_machine) l32 e32 k32
  have B32 := F32.binds (ps := p_ack_at_machine) fun _ _ _ _ _ _ us hl => match us, hl with | [_, _, _, _], _ => rfl
  have F33 := fun_mk (st := s_arrive_at_station) l33 e33 k33
  have B33 := F33.binds (ps := p_arrive_at_station) fun _ _ _ _ _ _ us hl => match us, hl with | [_, _], _ => rfl
  have F34 := fun_mk (st := s_arrive_at_machine) l34 e34 k34
  have B34 := F34.binds (ps := p_arrive_at_machine) fun _ _ _ _ _ _ us hl => match us, hl with | [_, _, _], _ => rfl
  have F35 := fun_mk (st := s_arrive) l35 e35 k35
  have B35 := F35.binds (ps := p_arrive) fun _ _ _ _ _ _ us hl => match us, hl with | [_, _], _ => rfl
  have F36 := fun_mk (st := s_tick_machine) l36 e36 k36
  have B36 := F36.binds (ps := p_tick_machine) fun _ _ _ _ _ _ us hl => match us, hl with | [_, _], _ => rfl
  have F37 := fun_mk (st := s_tick) l37 e37 k37
  have B37 := F37.binds (ps := p_tick) fun _ _ _ _ _ _ us hl => match us, hl with | [_], _ => rfl
  have F38 := fun_mk (st := s_calm_round) l38 e38 k38
  have B38 := F38.binds (ps := p_calm_round) fun _ _ _ _ _ _ us hl => match us, hl with | [_], _ => rfl
  have F39 := fun_mk (st := s_open_ward) l39 e39 k39
  have B39 := F39.binds (ps := p_open_ward) fun _ _ _ _ _ _ us hl => match us, hl with | [_, _, _], _ => rfl
  have F40 := fun_mk (st := s_add_to_log) l40 e40 k40
  have B40 := F40.binds (ps := p_add_to_log) fun _ _ _ _ _ _ us hl => match us, hl with | [_, _, _], _ => rfl
  have F41 := fun_mk (st := s_tick_often) l41 e41 k41
  have B41 := F41.binds (ps := p_tick_often) fun _ _ _ _ _ _ us hl => match us, hl with | [_, _, _], _ => rfl
  have F42 := fun_mk (st := s_deliver_packet) l42 e42 k42
  have B42 := F42.binds (ps := p_deliver_packet) fun _ _ _ _ _ _ us hl => match us, hl with | [_, _, _], _ => rfl
  have F43 := fun_mk (st := s_drop_packet) l43 e43 k43
  have B43 := F43.binds (ps := p_drop_packet) fun _ _ _ _ _ _ us hl => match us, hl with | [_, _, _], _ => rfl
  have F44 := fun_mk (st := s_double_packet) l44 e44 k44
  have B44 := F44.binds (ps := p_double_packet) fun _ _ _ _ _ _ us hl => match us, hl with | [_, _, _], _ => rfl
  have F45 := fun_mk (st := s_spoil_packet) l45 e45 k45
  have B45 := F45.binds (ps := p_spoil_packet) fun _ _ _ _ _ _ us hl => match us, hl with | [_, _, _], _ => rfl
  have F46 := fun_mk (st := s_cut_power) l46 e46 k46
  have B46 := F46.binds (ps := p_cut_power) fun _ _ _ _ _ _ us hl => match us, hl with | [_, _, _], _ => rfl
  have F47 := fun_mk (st := s_bring_back) l47 e47 k47
  have B47 := F47.binds (ps := p_bring_back) fun _ _ _ _ _ _ us hl => match us, hl with | [_, _, _], _ => rfl
  have F48 := fun_mk (st := s_lose_copy) l48 e48 k48
  have B48 := F48.binds (ps := p_lose_copy) fun _ _ _ _ _ _ us hl => match us, hl with | [_, _, _], _ => rfl
  have F49 := fun_mk (st := s_blink_station) l49 e49 k49
  have B49 := F49.binds (ps := p_blink_station) fun _ _ _ _ _ _ us hl => match us, hl with | [_, _, _], _ => rfl
  have F50 := fun_mk (st := s_calm_down) l50 e50 k50
  have B50 := F50.binds (ps := p_calm_down) fun _ _ _ _ _ _ us hl => match us, hl with | [_, _, _], _ => rfl
  have F51 := fun_mk (st := s_count_numbers) l51 e51 k51
  have B51 := F51.binds (ps := p_count_numbers) fun _ _ _ _ _ _ us hl => match us, hl with | [_], _ => rfl
  have F52 := fun_mk (st := s_has_row) l52 e52 k52
  have B52 := F52.binds (ps := p_has_row) fun _ _ _ _ _ _ us hl => match us, hl with | [_], _ => rfl
  have F53 := fun_mk (st := s_in_ranges) l53 e53 k53
  have B53 := F53.binds (ps := p_in_ranges) fun _ _ _ _ _ _ us hl => match us, hl with | [_, _, _], _ => rfl
  have F54 := fun_mk (st := s_common_refusal) l54 e54 k54
  have B54 := F54.binds (ps := p_common_refusal) fun _ _ _ _ _ _ us hl => match us, hl with | [_, _, _, _], _ => rfl
  have F55 := fun_mk (st := s_perform) l55 e55 k55
  have B55 := F55.binds (ps := p_perform) fun _ _ _ _ _ _ us hl => match us, hl with | [_, _, _, _], _ => rfl
  have F56 := fun_mk (st := s_answers) l56 e56 k56
  have B56 := F56.binds (ps := p_answers) fun _ _ _ _ _ _ us hl => match us, hl with | [_], _ => rfl
  refine ⟨⟨f0, fnOf "check_of" "check_of" (defArgs s_check_of) (defBody s_check_of) (defScope s_check_of) .none kV0 dc0 pm0 an0 cd0 ct0, f1, fnOf "number_to_octets" "number_to_octets" (defArgs s_number_to_octets) (defBody s_number_to_octets) (defScope s_number_to_octets) .none kV1 dc1 pm1 an1 cd1 ct1, f2, fnOf "octets_to_number" "octets_to_number" (defArgs s_octets_to_number) (defBody s_octets_to_number) (defScope s_octets_to_number) .none kV2 dc2 pm2 an2 cd2 ct2, f3, fnOf "body_of" "body_of" (defArgs s_body_of) (defBody s_body_of) (defScope s_body_of) .none kV3 dc3 pm3 an3 cd3 ct3, f4, fnOf "make_frame" "make_frame" (defArgs s_make_frame) (defBody s_make_frame) (defScope s_make_frame) .none kV4 dc4 pm4 an4 cd4 ct4, f5, fnOf "read_data" "read_data" (defArgs s_read_data) (defBody s_read_data) (defScope s_read_data) .none kV5 dc5 pm5 an5 cd5 ct5, f6, fnOf "read_body" "read_body" (defArgs s_read_body) (defBody s_read_body) (defScope s_read_body) .none kV6 dc6 pm6 an6 cd6 ct6, f7, fnOf "read_frame" "read_frame" (defArgs s_read_frame) (defBody s_read_frame) (defScope s_read_frame) .none kV7 dc7 pm7 an7 cd7 ct7, f8, fnOf "counted" "counted" (defArgs s_counted) (defBody s_counted) (defScope s_counted) .none kV8 dc8 pm8 an8 cd8 ct8, f9, fnOf "look_at_net" "look_at_net" (defArgs s_look_at_net) (defBody s_look_at_net) (defScope s_look_at_net) .none kV9 dc9 pm9 an9 cd9 ct9, f10, fnOf "look_at_packet" "look_at_packet" (defArgs s_look_at_packet) (defBody s_look_at_packet) (defScope s_look_at_packet) .none kV10 dc10 pm10 an10 cd10 ct10, f11, fnOf "look_at_sender" "look_at_sender" (defArgs s_look_at_sender) (defBody s_look_at_sender) (defScope s_look_at_sender) .none kV11 dc11 pm11 an11 cd11 ct11, f12, fnOf "look_at_station" "look_at_station" (defArgs s_look_at_station) (defBody s_look_at_station) (defScope s_look_at_station) .none kV12 dc12 pm12 an12 cd12 ct12, f13, fnOf "event_at" "event_at" (defArgs s_event_at) (defBody s_event_at) (defScope s_event_at) .none kV13 dc13 pm13 an13 cd13 ct13, f14, fnOf "look_at_copy" "look_at_copy" (defArgs s_look_at_copy) (defBody s_look_at_copy) (defScope s_look_at_copy) .none kV14 dc14 pm14 an14 cd14 ct14, f15, fnOf "look_at_event" "look_at_event" (defArgs s_look_at_event) (defBody s_look_at_event) (defScope s_look_at_event) .none kV15 dc15 pm15 an15 cd15 ct15, f16, fnOf "look_whether_whole" "look_whether_whole" (defArgs s_look_whether_whole) (defBody s_look_whether_whole) (defScope s_look_whether_whole) .none kV16 dc16 pm16 an16 cd16 ct16, f17, fnOf "look_at_frame" "look_at_frame" (defArgs s_look_at_frame) (defBody s_look_at_frame) (defScope s_look_at_frame) .none kV17 dc17 pm17 an17 cd17 ct17, f18, fnOf "look_at_totals" "look_at_totals" (defArgs s_look_at_totals) (defBody s_look_at_totals) (defScope s_look_at_totals) .none kV18 dc18 pm18 an18 cd18 ct18, f19, fnOf "look" "look" (defArgs s_look) (defBody s_look) (defScope s_look) .none kV19 dc19 pm19 an19 cd19 ct19, f20, fnOf "__init__" "Packet.__init__" (defArgs s_Packet_init) (defBody s_Packet_init) (defScope s_Packet_init) .none kV20 dc20 pm20 an20 cd20 ct20, f21, fnOf "__init__" "Machine.__init__" (defArgs s_Machine_init) (defBody s_Machine_init) (defScope s_Machine_init) .none kV21 dc21 pm21 an21 cd21 ct21, f22, fnOf "__init__" "Desk.__init__" (defArgs s_Desk_init) (defBody s_Desk_init) (defScope s_Desk_init) .none kV22 dc22 pm22 an22 cd22 ct22, f23, fnOf "__init__" "Ward.__init__" (defArgs s_Ward_init) (defBody s_Ward_init) (defScope s_Ward_init) .none kV23 dc23 pm23 an23 cd23 ct23, f24, fnOf "send" "send" (defArgs s_send) (defBody s_send) (defScope s_send) .none kV24 dc24 pm24 an24 cd24 ct24, f25, fnOf "send_ask" "send_ask" (defArgs s_send_ask) (defBody s_send_ask) (defScope s_send_ask) .none kV25 dc25 pm25 an25 cd25 ct25, f26, fnOf "pump" "pump" (defArgs s_pump) (defBody s_pump) (defScope s_pump) .none kV26 dc26 pm26 an26 cd26 ct26, f27, fnOf "log_event" "log_event" (defArgs s_log_event) (defBody s_log_event) (defScope s_log_event) .none kV27 dc27 pm27 an27 cd27 ct27, f28, fnOf "station_acks" "station_acks" (defArgs s_station_acks) (defBody s_station_acks) (defScope s_station_acks) .none kV28 dc28 pm28 an28 cd28 ct28, f29, fnOf "find_aside" "find_aside" (defArgs s_find_aside) (defBody s_find_aside) (defScope s_find_aside) .none kV29 dc29 pm29 an29 cd29 ct29, f30, fnOf "take_in" "take_in" (defArgs s_take_in) (defBody s_take_in) (defScope s_take_in) .none kV30 dc30 pm30 an30 cd30 ct30, f31, fnOf "data_at_station" "data_at_station" (defArgs s_data_at_station) (defBody s_data_at_station) (defScope s_data_at_station) .none kV31 dc31 pm31 an31 cd31 ct31, f32, fnOf "ack_at_machine" "ack_at_machine" (defArgs s_ack_at_machine) (defBody s_ack_at_machine) (defScope s_ack_at_machine) .none kV32 dc32 pm32 an32 cd32 ct32, f33, fnOf "arrive_at_station" "arrive_at_station" (defArgs s_arrive_at_station) (defBody s_arrive_at_station) (defScope s_arrive_at_station) .none kV33 dc33 pm33 an33 cd33 ct33, f34, fnOf "arrive_at_machine" "arrive_at_machine" (defArgs s_arrive_at_machine) (defBody s_arrive_at_machine) (defScope s_arrive_at_machine) .none kV34 dc34 pm34 an34 cd34 ct34, f35, fnOf "arrive" "arrive" (defArgs s_arrive) (defBody s_arrive) (defScope s_arrive) .none kV35 dc35 pm35 an35 cd35 ct35, f36, fnOf "tick_machine" "tick_machine" (defArgs s_tick_machine) (defBody s_tick_machine) (defScope s_tick_machine) .none kV36 dc36 pm36 an36 cd36 ct36, f37, fnOf "tick" "tick" (defArgs s_tick) (defBody s_tick) (defScope s_tick) .none kV37 dc37 pm37 an37 cd37 ct37, f38, fnOf "calm_round" "calm_round" (defArgs s_calm_round) (defBody s_calm_round) (defScope s_calm_round) .none kV38 dc38 pm38 an38 cd38 ct38, f39, fnOf "open_ward" "open_ward" (defArgs s_open_ward) (defBody s_open_ward) (defScope s_open_ward) .none kV39 dc39 pm39 an39 cd39 ct39, f40, fnOf "add_to_log" "add_to_log" (defArgs s_add_to_log) (defBody s_add_to_log) (defScope s_add_to_log) .none kV40 dc40 pm40 an40 cd40 ct40, f41, fnOf "tick_often" "tick_often" (defArgs s_tick_often) (defBody s_tick_often) (defScope s_tick_often) .none kV41 dc41 pm41 an41 cd41 ct41, f42, fnOf "deliver_packet" "deliver_packet" (defArgs s_deliver_packet) (defBody s_deliver_packet) (defScope s_deliver_packet) .none kV42 dc42 pm42 an42 cd42 ct42, f43, fnOf "drop_packet" "drop_packet" (defArgs s_drop_packet) (defBody s_drop_packet) (defScope s_drop_packet) .none kV43 dc43 pm43 an43 cd43 ct43, f44, fnOf "double_packet" "double_packet" (defArgs s_double_packet) (defBody s_double_packet) (defScope s_double_packet) .none kV44 dc44 pm44 an44 cd44 ct44, f45, fnOf "spoil_packet" "spoil_packet" (defArgs s_spoil_packet) (defBody s_spoil_packet) (defScope s_spoil_packet) .none kV45 dc45 pm45 an45 cd45 ct45, f46, fnOf "cut_power" "cut_power" (defArgs s_cut_power) (defBody s_cut_power) (defScope s_cut_power) .none kV46 dc46 pm46 an46 cd46 ct46, f47, fnOf "bring_back" "bring_back" (defArgs s_bring_back) (defBody s_bring_back) (defScope s_bring_back) .none kV47 dc47 pm47 an47 cd47 ct47, f48, fnOf "lose_copy" "lose_copy" (defArgs s_lose_copy) (defBody s_lose_copy) (defScope s_lose_copy) .none kV48 dc48 pm48 an48 cd48 ct48, f49, fnOf "blink_station" "blink_station" (defArgs s_blink_station) (defBody s_blink_station) (defScope s_blink_station) .none kV49 dc49 pm49 an49 cd49 ct49, f50, fnOf "calm_down" "calm_down" (defArgs s_calm_down) (defBody s_calm_down) (defScope s_calm_down) .none kV50 dc50 pm50 an50 cd50 ct50, f51, fnOf "count_numbers" "count_numbers" (defArgs s_count_numbers) (defBody s_count_numbers) (defScope s_count_numbers) .none kV51 dc51 pm51 an51 cd51 ct51, f52, fnOf "has_row" "has_row" (defArgs s_has_row) (defBody s_has_row) (defScope s_has_row) .none kV52 dc52 pm52 an52 cd52 ct52, f53, fnOf "in_ranges" "in_ranges" (defArgs s_in_ranges) (defBody s_in_ranges) (defScope s_in_ranges) .none kV53 dc53 pm53 an53 cd53 ct53, f54, fnOf "common_refusal" "common_refusal" (defArgs s_common_refusal) (defBody s_common_refusal) (defScope s_common_refusal) .none kV54 dc54 pm54 an54 cd54 ct54, f55, fnOf "perform" "perform" (defArgs s_perform) (defBody s_perform) (defScope s_perform) .none kV55 dc55 pm55 an55 cd55 ct55, f56, fnOf "answers" "answers" (defArgs s_answers) (defBody s_answers) (defScope s_answers) .none kV56 dc56 pm56 an56 cd56 ct56, c_Packet, c_Machine, c_Desk, c_Ward, t_LOOKS, t_RANGES, t_ROW_LIMITS, t_FREE_CALLS, t_MACHINE_CALLS, t_PACKET_CALLS, t_HANDLERS⟩, [(0, .ref r_0), (1, .ref r_1), (2, .ref r_2), (3, .ref r_3), (4, .ref r_4), (5, .ref r_5), (6, .ref r_6), (7, .ref r_7), (8, .ref r_8), (9, .ref r_9), (10, .ref r_10), (11, .ref r_11), (12, .ref r_12), (13, .ref r_13), (14, .ref r_14), (15, .ref r_15), (16, .ref r_16), (17, .ref r_17), (18, .ref r_18), (19, .ref r_19), (20, .ref r_20)], ?_, ?_⟩
  · exact { c_DATA := ⟨_, mg_of X G v_DATA⟩, c_ACK := ⟨_, mg_of X G v_ACK⟩, c_ASK := ⟨_, mg_of X G v_ASK⟩, c_CHECK_MODULUS := ⟨_, mg_of X G v_CHECK_MODULUS⟩, c_CHECK_OCTETS := ⟨_, mg_of X G v_CHECK_OCTETS⟩, c_LEAST_FRAME := ⟨_, mg_of X G v_LEAST_FRAME⟩, c_EVENT_LIMIT := ⟨_, mg_of X G v_EVENT_LIMIT⟩, c_PLACE_OCTETS := ⟨_, mg_of X G v_PLACE_OCTETS⟩, c_TURN_OCTETS := ⟨_, mg_of X G v_TURN_OCTETS⟩, c_DATA_HEAD := ⟨_, mg_of X G v_DATA_HEAD⟩, c_ACK_BODY := ⟨_, mg_of X G v_ACK_BODY⟩, c_ASK_BODY := ⟨_, mg_of X G v_ASK_BODY⟩, c_NO_EVENT := ⟨_, mg_of X G v_NO_EVENT⟩, c_IS_NO_FRAME := ⟨_, mg_of X G v_IS_NO_FRAME⟩, c_IS_DATA := ⟨_, mg_of X G v_IS_DATA⟩, c_IS_ACK := ⟨_, mg_of X G v_IS_ACK⟩, c_IS_ASK := ⟨_, mg_of X G v_IS_ASK⟩, c_TO_STATION := ⟨_, mg_of X G v_TO_STATION⟩, c_TO_MACHINE := ⟨_, mg_of X G v_TO_MACHINE⟩, c_NET_LIMIT := ⟨_, mg_of X G v_NET_LIMIT⟩, c_OUT_OF_RANGE := ⟨_, mg_of X G v_OUT_OF_RANGE⟩, c_NOTHING_OPEN := ⟨_, mg_of X G v_NOTHING_OPEN⟩, c_NO_MACHINE := ⟨_, mg_of X G v_NO_MACHINE⟩, c_NO_PACKET := ⟨_, mg_of X G v_NO_PACKET⟩, c_OPEN_ALREADY := ⟨_, mg_of X G v_OPEN_ALREADY⟩, c_NO_POWER := ⟨_, mg_of X G v_NO_POWER⟩, c_LOG_FULL := ⟨_, mg_of X G v_LOG_FULL⟩, c_NET_FULL := ⟨_, mg_of X G v_NET_FULL⟩, c_SPOILED_ALREADY := ⟨_, mg_of X G v_SPOILED_ALREADY⟩, c_NO_BYTE := ⟨_, mg_of X G v_NO_BYTE⟩, c_HAS_POWER := ⟨_, mg_of X G v_HAS_POWER⟩, c_LAST_TURN := ⟨_, mg_of X G v_LAST_TURN⟩, c_LOG_LIMIT := ⟨_, mg_of X G v_LOG_LIMIT⟩, c_TURN_LIMIT := ⟨_, mg_of X G v_TURN_LIMIT⟩, b_len := mg_none_of X G b_len, b_range := mg_none_of X G b_range, b_enumerate := mg_none_of X G b_enumerate, b_min := mg_none_of X G b_min, b_max := mg_none_of X G b_max, b_zip := mg_none_of X G b_zip, b_all := mg_none_of X G b_all, b_list := mg_none_of X G b_list, b_any := mg_none_of X G b_any, b_sum := mg_none_of X G b_sum, b_int := mg_none_of X G b_int, n_Packet_goes_to := n_Packet_goes_to, n_Packet_machine := n_Packet_machine, n_Packet_octets := n_Packet_octets, n_Packet_spoiled := n_Packet_spoiled, Packet := ⟨⟨pg_Packet, hd_Packet, po_Packet, sa_Packet⟩, ⟨mk_Packet, a20, i20, kc_Packet⟩, mg_of X G C_Packet, F20, B20⟩, n_Machine_log := n_Machine_log, n_Machine_power := n_Machine_power, n_Machine_turn := n_Machine_turn, n_Machine_acked := n_Machine_acked, n_Machine_next_place := n_Machine_next_place, n_Machine_timer := n_Machine_timer, Machine := ⟨⟨pg_Machine, hd_Machine, po_Machine, sa_Machine⟩, ⟨mk_Machine, a21, i21, kc_Machine⟩, mg_of X G C_Machine, F21, B21⟩, n_Desk_turn := n_Desk_turn, n_Desk_copied := n_Desk_copied, n_Desk_aside := n_Desk_aside, Desk := ⟨⟨pg_Desk, hd_Desk, po_Desk, sa_Desk⟩, ⟨mk_Desk, a22, i22, kc_Desk⟩, mg_of X G C_Desk, F22, B22⟩, n_Ward_machines := n_Ward_machines, n_Ward_desks := n_Ward_desks, n_Ward_window := n_Ward_window, n_Ward_wait := n_Ward_wait, n_Ward_packets := n_Ward_packets, n_Ward_lost := n_Ward_lost, n_Ward_bad := n_Ward_bad, n_Ward_again := n_Ward_again, n_Ward_news := n_Ward_news, Ward := ⟨⟨pg_Ward, hd_Ward, po_Ward, sa_Ward⟩, ⟨mk_Ward, a23, i23, kc_Ward⟩, mg_of X G C_Ward, F23, B23⟩, check_of := ⟨F0, mg_of X G a0, B0⟩, number_to_octets := ⟨F1, mg_of X G a1, B1⟩, octets_to_number := ⟨F2, mg_of X G a2, B2⟩, body_of := ⟨F3, mg_of X G a3, B3⟩, make_frame := ⟨F4, mg_of X G a4, B4⟩, read_data := ⟨F5, mg_of X G a5, B5⟩, read_body := ⟨F6, mg_of X G a6, B6⟩, read_frame := ⟨F7, mg_of X G a7, B7⟩, counted := ⟨F8, mg_of X G a8, B8⟩, look_at_net := ⟨F9, mg_of X G a9, B9⟩, look_at_packet := ⟨F10, mg_of X G a10, B10⟩, look_at_sender := ⟨F11, mg_of X G a11, B11⟩, look_at_station := ⟨F12, mg_of X G a12, B12⟩, event_at := ⟨F13, mg_of X G a13, B13⟩, look_at_copy := ⟨F14, mg_of X G a14, B14⟩, look_at_event := ⟨F15, mg_of X G a15, B15⟩, look_whether_whole := ⟨F16, mg_of X G a16, B16⟩, look_at_frame := ⟨F17, mg_of X G a17, B17⟩, look_at_totals := ⟨F18, mg_of X G a18, B18⟩, look := ⟨F19, mg_of X G a19, B19⟩, send := ⟨F24, mg_of X G a24, B24⟩, send_ask := ⟨F25, mg_of X G a25, B25⟩, pump := ⟨F26, mg_of X G a26, B26⟩, log_event := ⟨F27, mg_of X G a27, B27⟩, station_acks := ⟨F28, mg_of X G a28, B28⟩, find_aside := ⟨F29, mg_of X G a29, B29⟩, take_in := ⟨F30, mg_of X G a30, B30⟩, data_at_station := ⟨F31, mg_of X G a31, B31⟩, ack_at_machine := ⟨F32, mg_of X G a32, B32⟩, arrive_at_station := ⟨F33, mg_of X G a33, B33⟩, arrive_at_machine := ⟨F34, mg_of X G a34, B34⟩, arrive := ⟨F35, mg_of X G a35, B35⟩, tick_machine := ⟨F36, mg_of X G a36, B36⟩, tick := ⟨F37, mg_of X G a37, B37⟩, calm_round := ⟨F38, mg_of X G a38, B38⟩, open_ward := ⟨F39, mg_of X G a39, B39⟩, add_to_log := ⟨F40, mg_of X G a40, B40⟩, tick_often := ⟨F41, mg_of X G a41, B41⟩, deliver_packet := ⟨F42, mg_of X G a42, B42⟩, drop_packet := ⟨F43, mg_of X G a43, B43⟩, double_packet := ⟨F44, mg_of X G a44, B44⟩, spoil_packet := ⟨F45, mg_of X G a45, B45⟩, cut_power := ⟨F46, mg_of X G a46, B46⟩, bring_back := ⟨F47, mg_of X G a47, B47⟩, lose_copy := ⟨F48, mg_of X G a48, B48⟩, blink_station := ⟨F49, mg_of X G a49, B49⟩, calm_down := ⟨F50, mg_of X G a50, B50⟩, count_numbers := ⟨F51, mg_of X G a51, B51⟩, has_row := ⟨F52, mg_of X G a52, B52⟩, in_ranges := ⟨F53, mg_of X G a53, B53⟩, common_refusal := ⟨F54, mg_of X G a54, B54⟩, perform := ⟨F55, mg_of X G a55, B55⟩, answers := ⟨F56, mg_of X G a56, B56⟩, g_LOOKS := mg_of X G T_LOOKS, g_RANGES := mg_of X G T_RANGES, g_ROW_LIMITS := mg_of X G T_ROW_LIMITS, g_FREE_CALLS := mg_of X G T_FREE_CALLS, g_MACHINE_CALLS := mg_of X G T_MACHINE_CALLS, g_PACKET_CALLS := mg_of X G T_PACKET_CALLS, g_HANDLERS := mg_of X G T_HANDLERS }
  · exact {
    ranges := ⟨S_RANGES, ⟨_, _, _, [(0, tk_RANGES_0, .ref r_0), (1, tk_RANGES_1, .ref r_1), (2, tk_RANGES_2, .ref r_2), (3, tk_RANGES_3, .ref r_3), (4, tk_RANGES_4, .ref r_4), (5, tk_RANGES_5, .ref r_5), (6, tk_RANGES_6, .ref r_6), (7, tk_RANGES_7, .ref r_7), (8, tk_RANGES_8, .ref r_8), (9, tk_RANGES_9, .ref r_9), (10, tk_RANGES_10, .ref r_10), (11, tk_RANGES_11, .ref r_11), (12, tk_RANGES_12, .ref r_12), (13, tk_RANGES_13, .ref r_13), (14, tk_RANGES_14, .ref r_14), (15, tk_RANGES_15, .ref r_15), (16, tk_RANGES_16, .ref r_16), (17, tk_RANGES_17, .ref r_17), (18, tk_RANGES_18, .ref r_18), (19, tk_RANGES_19, .ref r_19), (20, tk_RANGES_20, .ref r_20)], L_RANGES, ⟨rfl, rfl, rfl⟩, rfl, rfl, (.cons ⟨rfl, rfl⟩ (.cons ⟨rfl, rfl⟩ (.cons ⟨rfl, rfl⟩ (.cons ⟨rfl, rfl⟩ (.cons ⟨rfl, rfl⟩ (.cons ⟨rfl, rfl⟩ (.cons ⟨rfl, rfl⟩ (.cons ⟨rfl, rfl⟩ (.cons ⟨rfl, rfl⟩ (.cons ⟨rfl, rfl⟩ (.cons ⟨rfl, rfl⟩ (.cons ⟨rfl, rfl⟩ (.cons ⟨rfl, rfl⟩ (.cons ⟨rfl, rfl⟩ (.cons ⟨rfl, rfl⟩ (.cons ⟨rfl, rfl⟩ (.cons ⟨rfl, rfl⟩ (.cons ⟨rfl, rfl⟩ (.cons ⟨rfl, rfl⟩ (.cons ⟨rfl, rfl⟩ (.cons ⟨rfl, rfl⟩ .nil)))))))))))))))))))))⟩, by show ([0, 1, 2, 3, 4, 5, 6, 7, 8, 9, 10, 11, 12, 13, 14, 15, 16, 17, 18, 19, 20] : List Int).Nodup; decide⟩
    limits := ⟨S_ROW_LIMITS, ⟨_, _, _, [(1, tk_ROW_LIMITS_0, .int 16 tw_1), (19, tk_ROW_LIMITS_1, .int 40 tw_19)], L_ROW_LIMITS, ⟨rfl, rfl, rfl⟩, rfl, rfl, (.cons ⟨rfl, ⟨_, rfl⟩⟩ (.cons ⟨rfl, ⟨_, rfl⟩⟩ .nil))⟩, by show ([1, 19] : List Int).Nodup; decide⟩
    hands := ⟨S_HANDLERS, ⟨_, _, _, [(0, tk_HANDLERS_0, .ref f39), (1, tk_HANDLERS_1, .ref f40), (2, tk_HANDLERS_2, .ref f41), (3, tk_HANDLERS_3, .ref f42), (4, tk_HANDLERS_4, .ref f43), (5, tk_HANDLERS_5, .ref f44), (6, tk_HANDLERS_6, .ref f45), (7, tk_HANDLERS_7, .ref f46), (8, tk_HANDLERS_8, .ref f47), (9, tk_HANDLERS_9, .ref f48), (10, tk_HANDLERS_10, .ref f49), (11, tk_HANDLERS_11, .ref f50)], L_HANDLERS, ⟨rfl, rfl, rfl⟩, rfl, rfl, (.cons ⟨rfl, rfl⟩ (.cons ⟨rfl, rfl⟩ (.cons ⟨rfl, rfl⟩ (.cons ⟨rfl, rfl⟩ (.cons ⟨rfl, rfl⟩ (.cons ⟨rfl, rfl⟩ (.cons ⟨rfl, rfl⟩ (.cons ⟨rfl, rfl⟩ (.cons ⟨rfl, rfl⟩ (.cons ⟨rfl, rfl⟩ (.cons ⟨rfl, rfl⟩ (.cons ⟨rfl, rfl⟩ .nil))))))))))))⟩, by show ([0, 1, 2, 3, 4, 5, 6, 7, 8, 9, 10, 11] : List Int).Nodup; decide⟩
    looks := ⟨S_LOOKS, ⟨_, _, _, [(12, tk_LOOKS_0, .ref f9), (13, tk_LOOKS_1, .ref f10), (14, tk_LOOKS_2, .ref f11), (15, tk_LOOKS_3, .ref f12), (16, tk_LOOKS_4, .ref f14), (17, tk_LOOKS_5, .ref f15), (18, tk_LOOKS_6, .ref f16), (19, tk_LOOKS_7, .ref f17), (20, tk_LOOKS_8, .ref f18)], L_LOOKS, ⟨rfl, rfl, rfl⟩, rfl, rfl, (.cons ⟨rfl, rfl⟩ (.cons ⟨rfl, rfl⟩ (.cons ⟨rfl, rfl⟩ (.cons ⟨rfl, rfl⟩ (.cons ⟨rfl, rfl⟩ (.cons ⟨rfl, rfl⟩ (.cons ⟨rfl, rfl⟩ (.cons ⟨rfl, rfl⟩ (.cons ⟨rfl, rfl⟩ .nil)))))))))⟩, by show ([12, 13, 14, 15, 16, 17, 18, 19, 20] : List Int).Nodup; decide⟩
    free := (fun H => .inr ⟨_, _, _, L_t_FREE_CALLS, rfl, rfl, (by show 2 ≤ sizeLine; decide), (.cons ⟨_, rfl⟩ (.cons ⟨_, rfl⟩ .nil))⟩)
    mach := (fun H => .inr ⟨_, _, _, L_t_MACHINE_CALLS, rfl, rfl, (by show 9 ≤ sizeLine; decide), (.cons ⟨_, rfl⟩ (.cons ⟨_, rfl⟩ (.cons ⟨_, rfl⟩ (.cons ⟨_, rfl⟩ (.cons ⟨_, rfl⟩ (.cons ⟨_, rfl⟩ (.cons ⟨_, rfl⟩ (.cons ⟨_, rfl⟩ (.cons ⟨_, rfl⟩ .nil)))))))))⟩)
    pkt := (fun H => .inr ⟨_, _, _, L_t_PACKET_CALLS, rfl, rfl, (by show 5 ≤ sizeLine; decide), (.cons ⟨_, rfl⟩ (.cons ⟨_, rfl⟩ (.cons ⟨_, rfl⟩ (.cons ⟨_, rfl⟩ (.cons ⟨_, rfl⟩ .nil)))))⟩)
    rOk := by
      intro k l h
      unfold tabR at h
      by_cases h0 : k = 0
      · subst h0
        cases (Option.some.inj (show some _ = some l from h))
        refine ⟨r_0, rfl, [q_0_0, q_0_1, q_0_2], (fun H => .inr ⟨_, _, _, L_r_0, rfl, rfl, (by show 3 ≤ sizeLine; decide), (.cons rfl (.cons rfl (.cons rfl .nil)))⟩), rfl, ?_⟩
        intro j q p hq hp
        match j, hq, hp with
        | 0, hq, hp => cases (Option.some.inj (show some _ = some q from hq)); cases (Option.some.inj (show some _ = some p from hp)); exact (fun H => .inr ⟨_, _, _, L_q_0_0, rfl, rfl, (by show 2 ≤ sizeLine; decide), (.cons ⟨_, rfl⟩ (.cons ⟨_, rfl⟩ .nil))⟩)
        | 1, hq, hp => cases (Option.some.inj (show some _ = some q from hq)); cases (Option.some.inj (show some _ = some p from hp)); exact (fun H => .inr ⟨_, _, _, L_q_0_1, rfl, rfl, (by show 2 ≤ sizeLine; decide), (.cons ⟨_, rfl⟩ (.cons ⟨_, rfl⟩ .nil))⟩)
        | 2, hq, hp => cases (Option.some.inj (show some _ = some q from hq)); cases (Option.some.inj (show some _ = some p from hp)); exact (fun H => .inr ⟨_, _, _, L_q_0_2, rfl, rfl, (by show 2 ≤ sizeLine; decide), (.cons ⟨_, rfl⟩ (.cons ⟨_, rfl⟩ .nil))⟩)
        | j + 3, hq, hp => cases (show none = some q from hq)
      rw [List.lookup_cons, beq_eq_false_iff_ne.mpr h0] at h
      by_cases h1 : k = 1
      · subst h1
        cases (Option.some.inj (show some _ = some l from h))
        refine ⟨r_1, rfl, [q_1_0], (fun H => .inr ⟨_, _, _, L_r_1, rfl, rfl, (by show 1 ≤ sizeLine; decide), (.cons rfl .nil)⟩), rfl, ?_⟩
        intro j q p hq hp
        match j, hq, hp with
        | 0, hq, hp => cases (Option.some.inj (show some _ = some q from hq)); cases (Option.some.inj (show some _ = some p from hp)); exact (fun H => .inr ⟨_, _, _, L_q_1_0, rfl, rfl, (by show 2 ≤ sizeLine; decide), (.cons ⟨_, rfl⟩ (.cons ⟨_, rfl⟩ .nil))⟩)
        | j + 1, hq, hp => cases (show none = some q from hq)
      rw [List.lookup_cons, beq_eq_false_iff_ne.mpr h1] at h
      by_cases h2 : k = 2
      · subst h2
        cases (Option.some.inj (show some _ = some l from h))
        refine ⟨r_2, rfl, [q_2_0], (fun H => .inr ⟨_, _, _, L_r_2, rfl, rfl, (by show 1 ≤ sizeLine; decide), (.cons rfl .nil)⟩), rfl, ?_⟩
        intro j q p hq hp
        match j, hq, hp with
        | 0, hq, hp => cases (Option.some.inj (show some _ = some q from hq)); cases (Option.some.inj (show some _ = some p from hp)); exact (fun H => .inr ⟨_, _, _, L_q_2_0, rfl, rfl, (by show 2 ≤ sizeLine; decide), (.cons ⟨_, rfl⟩ (.cons ⟨_, rfl⟩ .nil))⟩)
        | j + 1, hq, hp => cases (show none = some q from hq)
      rw [List.lookup_cons, beq_eq_false_iff_ne.mpr h2] at h
      by_cases h3 : k = 3
      · subst h3
        cases (Option.some.inj (show some _ = some l from h))
        refine ⟨r_3, rfl, [q_3_0], (fun H => .inr ⟨_, _, _, L_r_3, rfl, rfl, (by show 1 ≤ sizeLine; decide), (.cons rfl .nil)⟩), rfl, ?_⟩
        intro j q p hq hp
        match j, hq, hp with
        | 0, hq, hp => cases (Option.some.inj (show some _ = some q from hq)); cases (Option.some.inj (show some _ = some p from hp)); exact (fun H => .inr ⟨_, _, _, L_q_3_0, rfl, rfl, (by show 2 ≤ sizeLine; decide), (.cons ⟨_, rfl⟩ (.cons ⟨_, rfl⟩ .nil))⟩)
        | j + 1, hq, hp => cases (show none = some q from hq)
      rw [List.lookup_cons, beq_eq_false_iff_ne.mpr h3] at h
      by_cases h4 : k = 4
      · subst h4
        cases (Option.some.inj (show some _ = some l from h))
        refine ⟨r_4, rfl, [q_4_0], (fun H => .inr ⟨_, _, _, L_r_4, rfl, rfl, (by show 1 ≤ sizeLine; decide), (.cons rfl .nil)⟩), rfl, ?_⟩
        intro j q p hq hp
        match j, hq, hp with
        | 0, hq, hp => cases (Option.some.inj (show some _ = some q from hq)); cases (Option.some.inj (show some _ = some p from hp)); exact (fun H => .inr ⟨_, _, _, L_q_4_0, rfl, rfl, (by show 2 ≤ sizeLine; decide), (.cons ⟨_, rfl⟩ (.cons ⟨_, rfl⟩ .nil))⟩)
        | j + 1, hq, hp => cases (show none = some q from hq)
      rw [List.lookup_cons, beq_eq_false_iff_ne.mpr h4] at h
      by_cases h5 : k = 5
      · subst h5
        cases (Option.some.inj (show some _ = some l from h))
        refine ⟨r_5, rfl, [q_5_0], (fun H => .inr ⟨_, _, _, L_r_5, rfl, rfl, (by show 1 ≤ sizeLine; decide), (.cons rfl .nil)⟩), rfl, ?_⟩
        intro j q p hq hp
        match j, hq, hp with
        | 0, hq, hp => cases (Option.some.inj (show some _ = some q from hq)); cases (Option.some.inj (show some _ = some p from hp)); exact (fun H => .inr ⟨_, _, _, L_q_5_0, rfl, rfl, (by show 2 ≤ sizeLine; decide), (.cons ⟨_, rfl⟩ (.cons ⟨_, rfl⟩ .nil))⟩)
        | j + 1, hq, hp => cases (show none = some q from hq)
      rw [List.lookup_cons, beq_eq_false_iff_ne.mpr h5] at h
      by_cases h6 : k = 6
      · subst h6
        cases (Option.some.inj (show some _ = some l from h))
        refine ⟨r_6, rfl, [q_6_0, q_6_1, q_6_2], (fun H => .inr ⟨_, _, _, L_r_6, rfl, rfl, (by show 3 ≤ sizeLine; decide), (.cons rfl (.cons rfl (.cons rfl .nil)))⟩), rfl, ?_⟩
        intro j q p hq hp
        match j, hq, hp with
        | 0, hq, hp => cases (Option.some.inj (show some _ = some q from hq)); cases (Option.some.inj (show some _ = some p from hp)); exact (fun H => .inr ⟨_, _, _, L_q_6_0, rfl, rfl, (by show 2 ≤ sizeLine; decide), (.cons ⟨_, rfl⟩ (.cons ⟨_, rfl⟩ .nil))⟩)
        | 1, hq, hp => cases (Option.some.inj (show some _ = some q from hq)); cases (Option.some.inj (show some _ = some p from hp)); exact (fun H => .inr ⟨_, _, _, L_q_6_1, rfl, rfl, (by show 2 ≤ sizeLine; decide), (.cons ⟨_, rfl⟩ (.cons ⟨_, rfl⟩ .nil))⟩)
        | 2, hq, hp => cases (Option.some.inj (show some _ = some q from hq)); cases (Option.some.inj (show some _ = some p from hp)); exact (fun H => .inr ⟨_, _, _, L_q_6_2, rfl, rfl, (by show 2 ≤ sizeLine; decide), (.cons ⟨_, rfl⟩ (.cons ⟨_, rfl⟩ .nil))⟩)
        | j + 3, hq, hp => cases (show none = some q from hq)
      rw [List.lookup_cons, beq_eq_false_iff_ne.mpr h6] at h
      by_cases h7 : k = 7
      · subst h7
        cases (Option.some.inj (show some _ = some l from h))
        refine ⟨r_7, rfl, [q_7_0], (fun H => .inr ⟨_, _, _, L_r_7, rfl, rfl, (by show 1 ≤ sizeLine; decide), (.cons rfl .nil)⟩), rfl, ?_⟩
        intro j q p hq hp
        match j, hq, hp with
        | 0, hq, hp => cases (Option.some.inj (show some _ = some q from hq)); cases (Option.some.inj (show some _ = some p from hp)); exact (fun H => .inr ⟨_, _, _, L_q_7_0, rfl, rfl, (by show 2 ≤ sizeLine; decide), (.cons ⟨_, rfl⟩ (.cons ⟨_, rfl⟩ .nil))⟩)
        | j + 1, hq, hp => cases (show none = some q from hq)
      rw [List.lookup_cons, beq_eq_false_iff_ne.mpr h7] at h
      by_cases h8 : k = 8
      · subst h8
        cases (Option.some.inj (show some _ = some l from h))
        refine ⟨r_8, rfl, [q_8_0], (fun H => .inr ⟨_, _, _, L_r_8, rfl, rfl, (by show 1 ≤ sizeLine; decide), (.cons rfl .nil)⟩), rfl, ?_⟩
        intro j q p hq hp
        match j, hq, hp with
        | 0, hq, hp => cases (Option.some.inj (show some _ = some q from hq)); cases (Option.some.inj (show some _ = some p from hp)); exact (fun H => .inr ⟨_, _, _, L_q_8_0, rfl, rfl, (by show 2 ≤ sizeLine; decide), (.cons ⟨_, rfl⟩ (.cons ⟨_, rfl⟩ .nil))⟩)
        | j + 1, hq, hp => cases (show none = some q from hq)
      rw [List.lookup_cons, beq_eq_false_iff_ne.mpr h8] at h
      by_cases h9 : k = 9
      · subst h9
        cases (Option.some.inj (show some _ = some l from h))
        refine ⟨r_9, rfl, [q_9_0], (fun H => .inr ⟨_, _, _, L_r_9, rfl, rfl, (by show 1 ≤ sizeLine; decide), (.cons rfl .nil)⟩), rfl, ?_⟩
        intro j q p hq hp
        match j, hq, hp with
        | 0, hq, hp => cases (Option.some.inj (show some _ = some q from hq)); cases (Option.some.inj (show some _ = some p from hp)); exact (fun H => .inr ⟨_, _, _, L_q_9_0, rfl, rfl, (by show 2 ≤ sizeLine; decide), (.cons ⟨_, rfl⟩ (.cons ⟨_, rfl⟩ .nil))⟩)
        | j + 1, hq, hp => cases (show none = some q from hq)
      rw [List.lookup_cons, beq_eq_false_iff_ne.mpr h9] at h
      by_cases h10 : k = 10
      · subst h10
        cases (Option.some.inj (show some _ = some l from h))
        refine ⟨r_10, rfl, [], (fun H => .inr ⟨_, _, _, L_r_10, rfl, rfl, (by show 0 ≤ sizeLine; decide), .nil⟩), rfl, ?_⟩
        intro j q p hq hp
        cases (show none = some q from hq)
      rw [List.lookup_cons, beq_eq_false_iff_ne.mpr h10] at h
      by_cases h11 : k = 11
      · subst h11
        cases (Option.some.inj (show some _ = some l from h))
        refine ⟨r_11, rfl, [q_11_0], (fun H => .inr ⟨_, _, _, L_r_11, rfl, rfl, (by show 1 ≤ sizeLine; decide), (.cons rfl .nil)⟩), rfl, ?_⟩
        intro j q p hq hp
        match j, hq, hp with
        | 0, hq, hp => cases (Option.some.inj (show some _ = some q from hq)); cases (Option.some.inj (show some _ = some p from hp)); exact (fun H => .inr ⟨_, _, _, L_q_11_0, rfl, rfl, (by show 2 ≤ sizeLine; decide), (.cons ⟨_, rfl⟩ (.cons ⟨_, rfl⟩ .nil))⟩)
        | j + 1, hq, hp => cases (show none = some q from hq)
      rw [List.lookup_cons, beq_eq_false_iff_ne.mpr h11] at h
      by_cases h12 : k = 12
      · subst h12
        cases (Option.some.inj (show some _ = some l from h))
        refine ⟨r_12, rfl, [], (fun H => .inr ⟨_, _, _, L_r_12, rfl, rfl, (by show 0 ≤ sizeLine; decide), .nil⟩), rfl, ?_⟩
        intro j q p hq hp
        cases (show none = some q from hq)
      rw [List.lookup_cons, beq_eq_false_iff_ne.mpr h12] at h
      by_cases h13 : k = 13
      · subst h13
        cases (Option.some.inj (show some _ = some l from h))
        refine ⟨r_13, rfl, [q_13_0], (fun H => .inr ⟨_, _, _, L_r_13, rfl, rfl, (by show 1 ≤ sizeLine; decide), (.cons rfl .nil)⟩), rfl, ?_⟩
        intro j q p hq hp
        match j, hq, hp with
        | 0, hq, hp => cases (Option.some.inj (show some _ = some q from hq)); cases (Option.some.inj (show some _ = some p from hp)); exact (fun H => .inr ⟨_, _, _, L_q_13_0, rfl, rfl, (by show 2 ≤ sizeLine; decide), (.cons ⟨_, rfl⟩ (.cons ⟨_, rfl⟩ .nil))⟩)
        | j + 1, hq, hp => cases (show none = some q from hq)
      rw [List.lookup_cons, beq_eq_false_iff_ne.mpr h13] at h
      by_cases h14 : k = 14
      · subst h14
        cases (Option.some.inj (show some _ = some l from h))
        refine ⟨r_14, rfl, [q_14_0], (fun H => .inr ⟨_, _, _, L_r_14, rfl, rfl, (by show 1 ≤ sizeLine; decide), (.cons rfl .nil)⟩), rfl, ?_⟩
        intro j q p hq hp
        match j, hq, hp with
        | 0, hq, hp => cases (Option.some.inj (show some _ = some q from hq)); cases (Option.some.inj (show some _ = some p from hp)); exact (fun H => .inr ⟨_, _, _, L_q_14_0, rfl, rfl, (by show 2 ≤ sizeLine; decide), (.cons ⟨_, rfl⟩ (.cons ⟨_, rfl⟩ .nil))⟩)
        | j + 1, hq, hp => cases (show none = some q from hq)
      rw [List.lookup_cons, beq_eq_false_iff_ne.mpr h14] at h
      by_cases h15 : k = 15
      · subst h15
        cases (Option.some.inj (show some _ = some l from h))
        refine ⟨r_15, rfl, [q_15_0], (fun H => .inr ⟨_, _, _, L_r_15, rfl, rfl, (by show 1 ≤ sizeLine; decide), (.cons rfl .nil)⟩), rfl, ?_⟩
        intro j q p hq hp
        match j, hq, hp with
        | 0, hq, hp => cases (Option.some.inj (show some _ = some q from hq)); cases (Option.some.inj (show some _ = some p from hp)); exact (fun H => .inr ⟨_, _, _, L_q_15_0, rfl, rfl, (by show 2 ≤ sizeLine; decide), (.cons ⟨_, rfl⟩ (.cons ⟨_, rfl⟩ .nil))⟩)
        | j + 1, hq, hp => cases (show none = some q from hq)
      rw [List.lookup_cons, beq_eq_false_iff_ne.mpr h15] at h
      by_cases h16 : k = 16
      · subst h16
        cases (Option.some.inj (show some _ = some l from h))
        refine ⟨r_16, rfl, [q_16_0, q_16_1], (fun H => .inr ⟨_, _, _, L_r_16, rfl, rfl, (by show 2 ≤ sizeLine; decide), (.cons rfl (.cons rfl .nil))⟩), rfl, ?_⟩
        intro j q p hq hp
        match j, hq, hp with
        | 0, hq, hp => cases (Option.some.inj (show some _ = some q from hq)); cases (Option.some.inj (show some _ = some p from hp)); exact (fun H => .inr ⟨_, _, _, L_q_16_0, rfl, rfl, (by show 2 ≤ sizeLine; decide), (.cons ⟨_, rfl⟩ (.cons ⟨_, rfl⟩ .nil))⟩)
        | 1, hq, hp => cases (Option.some.inj (show some _ = some q from hq)); cases (Option.some.inj (show some _ = some p from hp)); exact (fun H => .inr ⟨_, _, _, L_q_16_1, rfl, rfl, (by show 2 ≤ sizeLine; decide), (.cons ⟨_, rfl⟩ (.cons ⟨_, rfl⟩ .nil))⟩)
        | j + 2, hq, hp => cases (show none = some q from hq)
      rw [List.lookup_cons, beq_eq_false_iff_ne.mpr h16] at h
      by_cases h17 : k = 17
      · subst h17
        cases (Option.some.inj (show some _ = some l from h))
        refine ⟨r_17, rfl, [q_17_0, q_17_1], (fun H => .inr ⟨_, _, _, L_r_17, rfl, rfl, (by show 2 ≤ sizeLine; decide), (.cons rfl (.cons rfl .nil))⟩), rfl, ?_⟩
        intro j q p hq hp
        match j, hq, hp with
        | 0, hq, hp => cases (Option.some.inj (show some _ = some q from hq)); cases (Option.some.inj (show some _ = some p from hp)); exact (fun H => .inr ⟨_, _, _, L_q_17_0, rfl, rfl, (by show 2 ≤ sizeLine; decide), (.cons ⟨_, rfl⟩ (.cons ⟨_, rfl⟩ .nil))⟩)
        | 1, hq, hp => cases (Option.some.inj (show some _ = some q from hq)); cases (Option.some.inj (show some _ = some p from hp)); exact (fun H => .inr ⟨_, _, _, L_q_17_1, rfl, rfl, (by show 2 ≤ sizeLine; decide), (.cons ⟨_, rfl⟩ (.cons ⟨_, rfl⟩ .nil))⟩)
        | j + 2, hq, hp => cases (show none = some q from hq)
      rw [List.lookup_cons, beq_eq_false_iff_ne.mpr h17] at h
      by_cases h18 : k = 18
      · subst h18
        cases (Option.some.inj (show some _ = some l from h))
        refine ⟨r_18, rfl, [q_18_0], (fun H => .inr ⟨_, _, _, L_r_18, rfl, rfl, (by show 1 ≤ sizeLine; decide), (.cons rfl .nil)⟩), rfl, ?_⟩
        intro j q p hq hp
        match j, hq, hp with
        | 0, hq, hp => cases (Option.some.inj (show some _ = some q from hq)); cases (Option.some.inj (show some _ = some p from hp)); exact (fun H => .inr ⟨_, _, _, L_q_18_0, rfl, rfl, (by show 2 ≤ sizeLine; decide), (.cons ⟨_, rfl⟩ (.cons ⟨_, rfl⟩ .nil))⟩)
        | j + 1, hq, hp => cases (show none = some q from hq)
      rw [List.lookup_cons, beq_eq_false_iff_ne.mpr h18] at h
      by_cases h19 : k = 19
      · subst h19
        cases (Option.some.inj (show some _ = some l from h))
        refine ⟨r_19, rfl, [], (fun H => .inr ⟨_, _, _, L_r_19, rfl, rfl, (by show 0 ≤ sizeLine; decide), .nil⟩), rfl, ?_⟩
        intro j q p hq hp
        cases (show none = some q from hq)
      rw [List.lookup_cons, beq_eq_false_iff_ne.mpr h19] at h
      by_cases h20 : k = 20
      · subst h20
        cases (Option.some.inj (show some _ = some l from h))
        refine ⟨r_20, rfl, [], (fun H => .inr ⟨_, _, _, L_r_20, rfl, rfl, (by show 0 ≤ sizeLine; decide), .nil⟩), rfl, ?_⟩
        intro j q p hq hp
        cases (show none = some q from hq)
      rw [List.lookup_cons, beq_eq_false_iff_ne.mpr h20] at h
      cases h
    }
end Nw
end
section
set_option Elab.async false
set_option linter.all false
namespace PySem.W.Fast
def tw100376502442399236 : Nat := 0
def tw10050983847147196905 : Nat := 0
def tw10137595339017300539 : Nat := 0
def tw10156465264239864657 : Nat := 0
def tw10158839705337157024 : Nat := 0
def tw10316123976645701283 : Nat := 0
def tw10319903367319372223 : Nat := 0
def tw10333660432224717718 : Nat := 0
def tw10350630549743332846 : Nat := 0
def tw10385420419142643502 : Nat := 0
def tw10396430354934885111 : Nat := 0
def tw10410205983727950502 : Nat := 0
def tw10413096571107310511 : Nat := 0
def tw10479085484923708107 : Nat := 0
def tw10508682793353606937 : Nat := 0
def tw10516993726917274619 : Nat := 0
def tw1053161004648183122 : Nat := 0
def tw10561231665625586812 : Nat := 0
def tw10645734748639836800 : Nat := 0
def tw10678453434487276230 : Nat := 0
def tw10690264704204590072 : Nat := 0
def tw10795587824854298318 : Nat := 0
def tw10797820087423282324 : Nat := 0
def tw10803570053873998657 : Nat := 0
def tw1084601453643812832 : Nat := 0
def tw10846107384613534267 : Nat := 0
def tw10846334905480097649 : Nat := 0
def tw10868873547033217131 : Nat := 0
def tw10960776663350350073 : Nat := 0
def tw10997182773441754965 : Nat := 0
def tw11002773180594662874 : Nat := 0
def tw1105498728115728390 : Nat := 0
def tw11064776626628768927 : Nat := 0
def tw11190854121999380499 : Nat := 0
def tw11201122979084867866 : Nat := 0
def tw11228221341547092361 : Nat := 0
def tw11321092704903933524 : Nat := 0
def tw11321756780481975631 : Nat := 0
def tw11338978763014090708 : Nat := 0
def tw11417748666749711003 : Nat := 0
def tw11429798827421761309 : Nat := 0
def tw11457994805186212504 : Nat := 0
def tw11467690882703113640 : Nat := 0
def tw1150571449735457692 : Nat := 0
def tw1157008815287321535 : Nat := 0
def tw11586279761516517429 : Nat := 0
def tw11612570317261035543 : Nat := 0
def tw11637339341241238047 : Nat := 0
def tw11659445631952638596 : Nat := 0
def tw11665582132657946375 : Nat := 0
def tw11732177561885223160 : Nat := 0
def tw11750110941665812193 : Nat := 0
def tw11807033966280980795 : Nat := 0
def tw11837262918996568724 : Nat := 0
def tw11854650274891060068 : Nat := 0
def tw11890545740726159923 : Nat := 0
def tw11895395697596629361 : Nat := 0
def tw11956521653731358649 : Nat := 0
def tw1200365335399831834 : Nat := 0
def tw12018384937379917515 : Nat := 0
def tw12056271185710072985 : Nat := 0
def tw12076271262975170521 : Nat := 0
def tw12080290032613228874 : Nat := 0
def tw12092559010373512325 : Nat := 0
def tw12109069825450903269 : Nat := 0
def tw12124650876200269321 : Nat := 0
def tw12135463156532884181 : Nat := 0
def tw1215911506131074331 : Nat := 0
def tw12222329611563035225 : Nat := 0
def tw1222787467915743444 : Nat := 0
def tw12233539132181884170 : Nat := 0
def tw12261003576407050137 : Nat := 0
def tw12281368228831128710 : Nat := 0
def tw12339491983297628877 : Nat := 0
def tw12377531738136353627 : Nat := 0
def tw12380080676244567983 : Nat := 0
def tw12434405320688531632 : Nat := 0
def tw12453933363941109830 : Nat := 0
def tw12474108967435954541 : Nat := 0
def tw12485707200795818284 : Nat := 0
def tw12518369969467463780 : Nat := 0
def tw1252272634815160304 : Nat := 0
def tw12548631500408622508 : Nat := 0
def tw12637494840260255922 : Nat := 0
def tw12655861292784320023 : Nat := 0
def tw1270721970387874140 : Nat := 0
def tw12731735232816323169 : Nat := 0
def tw12750315554607479000 : Nat := 0
def tw12750922541415936926 : Nat := 0
def tw12774121834200245173 : Nat := 0
def tw12800914173338930172 : Nat := 0
def tw12863449057635546568 : Nat := 0
def tw12888862250557911807 : Nat := 0
def tw12915002877798776399 : Nat := 0
def tw12954759253985304848 : Nat := 0
def tw12961615391724554783 : Nat := 0
def tw12981006201894974492 : Nat := 0
def tw12988562982545967981 : Nat := 0
def tw13126766387873265188 : Nat := 0
def tw13191396306952039332 : Nat := 0
def tw13197404673496596474 : Nat := 0
def tw13220025100131455426 : Nat := 0
def tw13251885710740767167 : Nat := 0
def tw1327312520938581587 : Nat := 0
def tw13285011679374447649 : Nat := 0
def tw13311684118331503303 : Nat := 0
def tw13333339319195873704 : Nat := 0
def tw13373173973971809157 : Nat := 0
def tw13382613827343523677 : Nat := 0
def tw13449584662603855261 : Nat := 0
def tw13487236083671524729 : Nat := 0
def tw13603983684835371412 : Nat := 0
def tw13624526955200455773 : Nat := 0
def tw13647406861942355966 : Nat := 0
def tw13698344869156942282 : Nat := 0
def tw13728019931191839477 : Nat := 0
def tw13751522583484976159 : Nat := 0
def tw13776404848132658736 : Nat := 0
def tw13796453107235952882 : Nat := 0
def tw13800609550379062898 : Nat := 0
def tw13822079247735637276 : Nat := 0
def tw13850603850048685453 : Nat := 0
def tw1391741061296916700 : Nat := 0
def tw13975766357445264829 : Nat := 0
def tw14041148635332181514 : Nat := 0
def tw1409127987042109001 : Nat := 0
def tw14168665172649240970 : Nat := 0
def tw14251196958229653241 : Nat := 0
def tw14252291419531466664 : Nat := 0
def tw14268763126357685579 : Nat := 0
def tw14285534731955699277 : Nat := 0
def tw14308477442282761931 : Nat := 0
def tw14336034746895103292 : Nat := 0
def tw14384509649183235169 : Nat := 0
def tw14397432967287234085 : Nat := 0
def tw14403908034886134767 : Nat := 0
def tw14423561601103806502 : Nat := 0
def tw14464169803781199464 : Nat := 0
def tw14503498168284962868 : Nat := 0
def tw14573050186500619826 : Nat := 0
def tw14592075011704210238 : Nat := 0
def tw14614140105679158817 : Nat := 0
def tw14662664318815578163 : Nat := 0
def tw1479583338731638116 : Nat := 0
def tw14807609836936392613 : Nat := 0
def tw14812386261549430394 : Nat := 0
def tw14847151080860686367 : Nat := 0
def tw14873156242888725159 : Nat := 0
def tw14884785439147933371 : Nat := 0
def tw1488680266329201625 : Nat := 0
def tw14912921400789902461 : Nat := 0
def tw14916175303847776324 : Nat := 0
def tw14917609943920688083 : Nat := 0
def tw14980918122700813060 : Nat := 0
def tw15035458563552204081 : Nat := 0
def tw15047185603285467227 : Nat := 0
def tw15116024969261617771 : Nat := 0
def tw15182794450939397176 : Nat := 0
def tw1525520877334160828 : Nat := 0
def tw15266010430540406645 : Nat := 0
def tw15295450625448346066 : Nat := 0
def tw15308973671937223893 : Nat := 0
def tw15338346393280307929 : Nat := 0
def tw15387023949387929319 : Nat := 0
def tw15404454680335221852 : Nat := 0
def tw15486527397993762519 : Nat := 0
def tw15510675550127354170 : Nat := 0
def tw1553391993092324431 : Nat := 0
def tw15618248835510474321 : Nat := 0
def tw15647472577777701999 : Nat := 0
def tw15653423758527770020 : Nat := 0
def tw15692626583352969019 : Nat := 0
def tw15735862814530534294 : Nat := 0
def tw15771395729098237371 : Nat := 0
def tw15777213796262205553 : Nat := 0
def tw15786128961670428575 : Nat := 0
def tw15948747818237845620 : Nat := 0
def tw16027834179850830237 : Nat := 0
def tw1602811557423894317 : Nat := 0
def tw16060639233921734424 : Nat := 0
def tw1612293351910081511 : Nat := 0
def tw16166692623417746522 : Nat := 0
def tw16192888266279512642 : Nat := 0
def tw16201738780568902189 : Nat := 0
def tw16293818771419238960 : Nat := 0
def tw16351004708376389261 : Nat := 0
def tw16352373124806143732 : Nat := 0
def tw16390895362716432188 : Nat := 0
def tw1641038724316159487 : Nat := 0
def tw1642097612000035817 : Nat := 0
def tw16424331660246394903 : Nat := 0
def tw16476062175573788993 : Nat := 0
def tw16524791549510989411 : Nat := 0
def tw16582677039789073071 : Nat := 0
def tw16584300536707979808 : Nat := 0
def tw16624451445569429308 : Nat := 0
def tw16631342647262350624 : Nat := 0
def tw16645783893525444618 : Nat := 0
def tw16686876212477749421 : Nat := 0
def tw16739397512590495004 : Nat := 0
def tw16803465844262846358 : Nat := 0
def tw16849906266437021903 : Nat := 0
def tw16861291129545567635 : Nat := 0
def tw16915915698694896905 : Nat := 0
def tw1701886324568461505 : Nat := 0
def tw17035977557650437481 : Nat := 0
def tw17063785828341088067 : Nat := 0
def tw17126766869950445776 : Nat := 0
def tw17204202300033067308 : Nat := 0
def tw1725554772458413427 : Nat := 0
def tw17316846225986737906 : Nat := 0
def tw17324043491373312331 : Nat := 0
def tw17333840407296862552 : Nat := 0
def tw17344601234973942587 : Nat := 0
def tw17349312724448329444 : Nat := 0
def tw17430102770503238444 : Nat := 0
def tw17449942898856549514 : Nat := 0
def tw17472474298613058335 : Nat := 0
def tw17518957550478399961 : Nat := 0
def tw17519017157624156592 : Nat := 0
def tw17530366235626380730 : Nat := 0
def tw17540100749397716336 : Nat := 0
def tw1755614299736526239 : Nat := 0
def tw17594518655075171365 : Nat := 0
def tw17639688664083742551 : Nat := 0
def tw17699282031536850823 : Nat := 0
def tw17717355608717497969 : Nat := 0
def tw17744303991853750063 : Nat := 0
def tw17780054706035722612 : Nat := 0
def tw17803503799236360917 : Nat := 0
def tw17827845547310194350 : Nat := 0
def tw17877728884907481034 : Nat := 0
def tw17885056816676847338 : Nat := 0
def tw17932159413557297431 : Nat := 0
def tw17938675865287068428 : Nat := 0
def tw17942059249451617497 : Nat := 0
def tw18028967863000486651 : Nat := 0
def tw18036310525390978326 : Nat := 0
def tw18042956290064878404 : Nat := 0
def tw18065115083993435451 : Nat := 0
def tw18111541034435303538 : Nat := 0
def tw18200033656336030682 : Nat := 0
def tw18214577842428692586 : Nat := 0
def tw18230085636848289309 : Nat := 0
def tw18246257645346387247 : Nat := 0
def tw18274381942577663954 : Nat := 0
def tw18275074458450945918 : Nat := 0
def tw18320590852878487079 : Nat := 0
def tw18321346182899333782 : Nat := 0
def tw1832211439126013121 : Nat := 0
def tw18335510780046399012 : Nat := 0
def tw18416046065167961580 : Nat := 0
def tw1856268226775924755 : Nat := 0
def tw1860226002340837497 : Nat := 0
def tw1861950769495299280 : Nat := 0
def tw1868448045232930643 : Nat := 0
def tw1920598940077747695 : Nat := 0
def tw1954293325736836710 : Nat := 0
def tw1964235962365313647 : Nat := 0
def tw1976446411552584883 : Nat := 0
def tw2043123784425428224 : Nat := 0
def tw2144977025860608381 : Nat := 0
def tw2207206364253433451 : Nat := 0
def tw2236319957992261980 : Nat := 0
def tw2270923747796895190 : Nat := 0
def tw2297389015099600869 : Nat := 0
def tw2300421473421423556 : Nat := 0
def tw2302611905506164940 : Nat := 0
def tw2306639094282918533 : Nat := 0
def tw2355055141354749770 : Nat := 0
def tw2370634448916367103 : Nat := 0
def tw2406736179643597520 : Nat := 0
def tw2410812921391663203 : Nat := 0
def tw2459874596793449540 : Nat := 0
def tw2486707069619200094 : Nat := 0
def tw2499201882520083994 : Nat := 0
def tw2520748028285265650 : Nat := 0
def tw2526041821245323177 : Nat := 0
def tw2649960284539045053 : Nat := 0
def tw2686566452540807774 : Nat := 0
def tw2768828446237440328 : Nat := 0
def tw2794375373204628072 : Nat := 0
def tw2798714413461444205 : Nat := 0
def tw2857959090726288249 : Nat := 0
def tw2861564917367676771 : Nat := 0
def tw2866973322557287045 : Nat := 0
def tw2871419452243807175 : Nat := 0
def tw2922724923621670949 : Nat := 0
def tw2945095370231206474 : Nat := 0
def tw2970549928730706725 : Nat := 0
def tw2991499192218582723 : Nat := 0
def tw3004293079309683410 : Nat := 0
def tw3021279389416415096 : Nat := 0
def tw3059822879172920900 : Nat := 0
def tw3064919093647802935 : Nat := 0
def tw3082381944200024045 : Nat := 0
def tw3085658121293847068 : Nat := 0
def tw3090904982988328968 : Nat := 0
def tw3097451269228300774 : Nat := 0
def tw3098571806062827848 : Nat := 0
def tw3145792110836239789 : Nat := 0
def tw3181538156353548340 : Nat := 0
def tw3215304295434651679 : Nat := 0
def tw3255636405673727861 : Nat := 0
def tw3295527794275949245 : Nat := 0
def tw3307849106272376213 : Nat := 0
def tw3327655465880667702 : Nat := 0
def tw3346565199752864142 : Nat := 0
def tw3389583198081212350 : Nat := 0
def tw3408393600809010043 : Nat := 0
def tw3410045819890911948 : Nat := 0
def tw3530854941753074738 : Nat := 0
def tw3593905862655248258 : Nat := 0
def tw3603918213617515719 : Nat := 0
def tw3617796020672160329 : Nat := 0
def tw3618831518942388692 : Nat := 0
def tw3633893342723767769 : Nat := 0
def tw370244558505632233 : Nat := 0
def tw374679555693030656 : Nat := 0
def tw3774308125087729697 : Nat := 0
def tw3822810451510023194 : Nat := 0
def tw3869317770053903136 : Nat := 0
def tw3929173892252662682 : Nat := 0
def tw3973563203990694561 : Nat := 0
def tw4009401398129224253 : Nat := 0
def tw4027948989323204272 : Nat := 0
def tw4163863328821380625 : Nat := 0
def tw4173532688956194612 : Nat := 0
def tw4212362144426573687 : Nat := 0
def tw42440091334044842 : Nat := 0
def tw4258823049098847293 : Nat := 0
def tw4264249918476140477 : Nat := 0
def tw429439680584756540 : Nat := 0
def tw4329337320688463445 : Nat := 0
def tw4359786158744151179 : Nat := 0
def tw4378186947921819411 : Nat := 0
def tw4420884172502255033 : Nat := 0
def tw4428463445923948021 : Nat := 0
def tw4472781598287198700 : Nat := 0
def tw4521747719744536825 : Nat := 0
def tw4572752369338076808 : Nat := 0
def tw4588949756858425565 : Nat := 0
def tw4684463199651798497 : Nat := 0
def tw4713314080444699682 : Nat := 0
def tw4719423680595444393 : Nat := 0
def tw4740309925200969253 : Nat := 0
def tw486154480349816490 : Nat := 0
def tw4899641763412104589 : Nat := 0
def tw4937461701102524174 : Nat := 0
def tw4950072583590679826 : Nat := 0
def tw5001766989636171400 : Nat := 0
def tw5060818707320005699 : Nat := 0
def tw5137335938679254040 : Nat := 0
def tw5192692993923630675 : Nat := 0
def tw5216323209350766614 : Nat := 0
def tw5240648148040070165 : Nat := 0
def tw5271980277605825597 : Nat := 0
def tw5295740829587672254 : Nat := 0
def tw532455983196895148 : Nat := 0
def tw5333462670911288815 : Nat := 0
def tw5353054496051745513 : Nat := 0
def tw5361733795356245122 : Nat := 0
def tw5518276629648473261 : Nat := 0
def tw5519727745444551792 : Nat := 0
def tw5567228535619040452 : Nat := 0
def tw5568265640455145058 : Nat := 0
def tw5576381381144268545 : Nat := 0
def tw5622162971807145295 : Nat := 0
def tw568373106071174304 : Nat := 0
def tw5757911908541608632 : Nat := 0
def tw5758333426727105829 : Nat := 0
def tw5778779984569026669 : Nat := 0
def tw5839170701283500007 : Nat := 0
def tw5867500205587135585 : Nat := 0
def tw597820950399517161 : Nat := 0
def tw5987906204900507851 : Nat := 0
def tw6032480986866441210 : Nat := 0
def tw6046633877221523632 : Nat := 0
def tw6084278560250246976 : Nat := 0
def tw6089716041578931326 : Nat := 0
def tw6159419674335186949 : Nat := 0
def tw617978954277781238 : Nat := 0
def tw6205772224168464783 : Nat := 0
def tw6296176405150624982 : Nat := 0
def tw6412850605821039244 : Nat := 0
def tw6417950580982446817 : Nat := 0
def tw6429352924611347147 : Nat := 0
def tw6508861497539191398 : Nat := 0
def tw651454873158488262 : Nat := 0
def tw6618606353425834419 : Nat := 0
def tw6647912755254620262 : Nat := 0
def tw6658423312271389645 : Nat := 0
def tw6667894563721737090 : Nat := 0
def tw668005797878572952 : Nat := 0
def tw6702695170139611444 : Nat := 0
def tw6717170333018243487 : Nat := 0
def tw6731893407529556932 : Nat := 0
def tw6741732753560162571 : Nat := 0
def tw6742357320216863188 : Nat := 0
def tw6762428402876755342 : Nat := 0
def tw6825758440758179659 : Nat := 0
def tw6852947258715008185 : Nat := 0
def tw690140925865795473 : Nat := 0
def tw6939067269695507901 : Nat := 0
def tw6953212710390510141 : Nat := 0
def tw7024788342617084266 : Nat := 0
def tw7047858877259228213 : Nat := 0
def tw7055928475077215888 : Nat := 0
def tw7083180854509111479 : Nat := 0
def tw7087473394749188657 : Nat := 0
def tw7109226025625303904 : Nat := 0
def tw7113854204645883034 : Nat := 0
def tw7135718372727955213 : Nat := 0
def tw7138126214910611559 : Nat := 0
def tw7250783044917545789 : Nat := 0
def tw7284016975384969614 : Nat := 0
def tw7321879510626385764 : Nat := 0
def tw7344329686509085831 : Nat := 0
def tw7407431424266466288 : Nat := 0
def tw742240579993948397 : Nat := 0
def tw7438963503447706732 : Nat := 0
def tw7497837935149152397 : Nat := 0
def tw750813274797160780 : Nat := 0
def tw7529883690984642845 : Nat := 0
def tw7534820403829370052 : Nat := 0
def tw7537053065333481522 : Nat := 0
def tw7563771464636949448 : Nat := 0
def tw7630443023553210711 : Nat := 0
def tw7647145385538388180 : Nat := 0
def tw7713334425171961751 : Nat := 0
def tw7715477716509808891 : Nat := 0
def tw7768293969737013049 : Nat := 0
def tw7862182293914034054 : Nat := 0
def tw7955347186722256181 : Nat := 0
def tw7965431364678516578 : Nat := 0
def tw8002094703054230779 : Nat := 0
def tw8006079554529191602 : Nat := 0
def tw8092330766435135710 : Nat := 0
def tw8134214167237224950 : Nat := 0
def tw8201096212790028313 : Nat := 0
def tw8237278715331525543 : Nat := 0
def tw8298538930465385759 : Nat := 0
def tw8335836897463807465 : Nat := 0
def tw8352020882687587914 : Nat := 0
def tw8392492420641838681 : Nat := 0
def tw8398390675341027217 : Nat := 0
def tw8407074333424528762 : Nat := 0
def tw8423818071228690661 : Nat := 0
def tw8435780759554790603 : Nat := 0
def tw8477967867697684751 : Nat := 0
def tw8483720466654677685 : Nat := 0
def tw8503419105840960513 : Nat := 0
def tw8525938609025258604 : Nat := 0
def tw8530654536899876602 : Nat := 0
def tw8558145982642326502 : Nat := 0
def tw8641795796007269157 : Nat := 0
def tw8693083607366208015 : Nat := 0
def tw8800774636804764649 : Nat := 0
def tw8803641204244636208 : Nat := 0
def tw8898706189539104822 : Nat := 0
def tw8931530431938090907 : Nat := 0
def tw8957649042452752379 : Nat := 0
def tw8995780161278771850 : Nat := 0
def tw9095685506575668728 : Nat := 0
def tw9100858424624667884 : Nat := 0
def tw914300642387493668 : Nat := 0
def tw915274681665709436 : Nat := 0
def tw9277121373341055540 : Nat := 0
def tw9291807927913664607 : Nat := 0
def tw9295741444875177628 : Nat := 0
def tw9310751342703957966 : Nat := 0
def tw9321700752425270656 : Nat := 0
def tw9328609825316407821 : Nat := 0
def tw9407297354177837243 : Nat := 0
def tw942932894135693242 : Nat := 0
def tw945783521625488567 : Nat := 0
def tw9532347210100312206 : Nat := 0
def tw9545317015199643674 : Nat := 0
def tw9641614399088536098 : Nat := 0
def tw9683337411722515206 : Nat := 0
def tw9705890982763002038 : Nat := 0
def tw9856624126580942528 : Nat := 0
def tw9904139788666993351 : Nat := 0
def tw9923166844147491447 : Nat := 0
def tw9930004087663292816 : Nat := 0
def tw9935316952179834146 : Nat := 0
def tw9944836359489660805 : Nat := 0
def tw9969810069961897289 : Nat := 0
def tw9986798441712996299 : Nat := 0
end PySem.W.Fast
open PySem PySem.W PyProof.Rows
set_option maxRecDepth 100000 in
set_option maxHeartbeats 0 in
theorem PySem.Challenge.cw_nursewire_s01_answers_holds : PySem.Challenge.rw_nursewire_s01_answers.Holds := by
  w_on; k_headS; (case hw => exact ⟨[.list [.int 19, .int 0]], by decide +kernel, by decide +kernel⟩)
  k_fillS
  refine L2.walk_specK (r := PySem.Challenge.rw_nursewire_s01_answers) (k := 14) (CX := L2.CX0) (ps := ["calls"]) (sp := Nw.spAns) (by decide +kernel) rfl rfl ⟨rfl, by decide, by decide⟩ (fun w h Y => PySem.W.kIn_of Y) ?F ?S (fun _ _ _ _ z => z)
  case F =>
    intro w mg fa h Y KX G hmg
    have T : ∃ (a : Nw.Adr) (rk : List (Int × L2.V)), Nw.Txt (L2.KOf KX) mg a ∧ Nw.Tab (L2.KOf KX) a rk := by
      dsimp only [L2.KOf]
      refine' Nw.txt_mk KX G ?v_DATA ?v_ACK ?v_ASK ?v_CHECK_MODULUS ?v_CHECK_OCTETS ?v_LEAST_FRAME ?v_EVENT_LIMIT ?v_PLACE_OCTETS ?v_TURN_OCTETS ?v_DATA_HEAD ?v_ACK_BODY ?v_ASK_BODY ?v_NO_EVENT ?v_IS_NO_FRAME ?v_IS_DATA ?v_IS_ACK ?v_IS_ASK ?v_TO_STATION ?v_TO_MACHINE ?v_NET_LIMIT ?v_OUT_OF_RANGE ?v_NOTHING_OPEN ?v_NO_MACHINE ?v_NO_PACKET ?v_OPEN_ALREADY ?v_NO_POWER ?v_LOG_FULL ?v_NET_FULL ?v_SPOILED_ALREADY ?v_NO_BYTE ?v_HAS_POWER ?v_LAST_TURN ?v_LOG_LIMIT ?v_TURN_LIMIT ?b_len ?b_range ?b_enumerate ?b_min ?b_max ?b_zip ?b_all ?b_list ?b_any ?b_sum ?b_int ?C_Packet ?pg_Packet ?hd_Packet ?po_Packet ?sa_Packet ?mk_Packet ?kc_Packet ?n_Packet_goes_to ?n_Packet_machine ?n_Packet_octets ?n_Packet_spoiled ?a20 ?i20 ?l20 ?e20 ?k20 ?C_Machine ?pg_Machine ?hd_Machine ?po_Machine ?sa_Machine ?mk_Machine ?kc_Machine ?n_Machine_log ?n_Machine_power ?n_Machine_turn ?n_Machine_acked ?n_Machine_next_place ?n_Machine_timer ?a21 ?i21 ?l21 ?e21 ?k21 ?C_Desk ?pg_Desk ?hd_Desk ?po_Desk ?sa_Desk ?mk_Desk ?kc_Desk ?n_Desk_turn ?n_Desk_copied ?n_Desk_aside ?a22 ?i22 ?l22 ?e22 ?k22 ?C_Ward ?pg_Ward ?hd_Ward ?po_Ward ?sa_Ward ?mk_Ward ?kc_Ward ?n_Ward_machines ?n_Ward_desks ?n_Ward_window ?n_Ward_wait ?n_Ward_packets ?n_Ward_lost ?n_Ward_bad ?n_Ward_again ?n_Ward_news ?a23 ?i23 ?l23 ?e23 ?k23 ?a0 ?l0 ?e0 ?k0 ?a1 ?l1 ?e1 ?k1 ?a2 ?l2 ?e2 ?k2 ?a3 ?l3 ?e3 ?k3 ?a4 ?l4 ?e4 ?k4 ?a5 ?l5 ?e5 ?k5 ?a6 ?l6 ?e6 ?k6 ?a7 ?l7 ?e7 ?k7 ?a8 ?l8 ?e8 ?k8 ?a9 ?l9 ?e9 ?k9 ?a10 ?l10 ?e10 ?k10 ?a11 ?l11 ?e11 ?k11 ?a12 ?l12 ?e12 ?k12 ?a13 ?l13 ?e13 ?k13 ?a14 ?l14 ?e14 ?k14 ?a15 ?l15 ?e15 ?k15 ?a16 ?l16 ?e16 ?k16 ?a17 ?l17 ?e17 ?k17 ?a18 ?l18 ?e18 ?k18 ?a19 ?l19 ?e19 ?k19 ?a24 ?l24 ?e24 ?k24 ?a25 ?l25 ?e25 ?k25 ?a26 ?l26 ?e26 ?k26 ?a27 ?l27 ?e27 ?k27 ?a28 ?l28 ?e28 ?k28 ?a29 ?l29 ?e29 ?k29 ?a30 ?l30 ?e30 ?k30 ?a31 ?l31 ?e31 ?k31 ?a32 ?l32 ?e32 ?k32 ?a33 ?l33 ?e33 ?k33 ?a34 ?l34 ?e34 ?k34 ?a35 ?l35 ?e35 ?k35 ?a36 ?l36 ?e36 ?k36 ?a37 ?l37 ?e37 ?k37 ?a38 ?l38 ?e38 ?k38 ?a39 ?l39 ?e39 ?k39 ?a40 ?l40 ?e40 ?k40 ?a41 ?l41 ?e41 ?k41 ?a42 ?l42 ?e42 ?k42 ?a43 ?l43 ?e43 ?k43 ?a44 ?l44 ?e44 ?k44 ?a45 ?l45 ?e45 ?k45 ?a46 ?l46 ?e46 ?k46 ?a47 ?l47 ?e47 ?k47 ?a48 ?l48 ?e48 ?k48 ?a49 ?l49 ?e49 ?k49 ?a50 ?l50 ?e50 ?k50 ?a51 ?l51 ?e51 ?k51 ?a52 ?l52 ?e52 ?k52 ?a53 ?l53 ?e53 ?k53 ?a54 ?l54 ?e54 ?k54 ?a55 ?l55 ?e55 ?k55 ?a56 ?l56 ?e56 ?k56 ?T_LOOKS ?T_RANGES ?T_ROW_LIMITS ?T_FREE_CALLS ?T_MACHINE_CALLS ?T_PACKET_CALLS ?T_HANDLERS ?L_RANGES ?S_RANGES ?L_r_0 ?L_q_0_0 ?L_q_0_1 ?L_q_0_2 ?L_r_1 ?L_q_1_0 ?L_r_2 ?L_q_2_0 ?L_r_3 ?L_q_3_0 ?L_r_4 ?L_q_4_0 ?L_r_5 ?L_q_5_0 ?L_r_6 ?L_q_6_0 ?L_q_6_1 ?L_q_6_2 ?L_r_7 ?L_q_7_0 ?L_r_8 ?L_q_8_0 ?L_r_9 ?L_q_9_0 ?L_r_10 ?L_r_11 ?L_q_11_0 ?L_r_12 ?L_r_13 ?L_q_13_0 ?L_r_14 ?L_q_14_0 ?L_r_15 ?L_q_15_0 ?L_r_16 ?L_q_16_0 ?L_q_16_1 ?L_r_17 ?L_q_17_0 ?L_q_17_1 ?L_r_18 ?L_q_18_0 ?L_r_19 ?L_r_20 ?L_ROW_LIMITS ?S_ROW_LIMITS ?L_HANDLERS ?S_HANDLERS ?L_LOOKS ?S_LOOKS ?L_t_FREE_CALLS ?L_t_MACHINE_CALLS ?L_t_PACKET_CALLS
      (case v_DATA => k_is)
      (case v_ACK => k_is)
      (case v_ASK => k_is)
      (case v_CHECK_MODULUS => k_is)
      (case v_CHECK_OCTETS => k_is)
      (case v_LEAST_FRAME => k_is)
      (case v_EVENT_LIMIT => k_is)
      (case v_PLACE_OCTETS => k_is)
      (case v_TURN_OCTETS => k_is)
      (case v_DATA_HEAD => k_is)
      (case v_ACK_BODY => k_is)
      (case v_ASK_BODY => k_is)
      (case v_NO_EVENT => k_is)
      (case v_IS_NO_FRAME => k_is)
      (case v_IS_DATA => k_is)
      (case v_IS_ACK => k_is)
      (case v_IS_ASK => k_is)
      (case v_TO_STATION => k_is)
      (case v_TO_MACHINE => k_is)
      (case v_NET_LIMIT => k_is)
      (case v_OUT_OF_RANGE => k_is)
      (case v_NOTHING_OPEN => k_is)
      (case v_NO_MACHINE => k_is)
      (case v_NO_PACKET => k_is)
      (case v_OPEN_ALREADY => k_is)
      (case v_NO_POWER => k_is)
      (case v_LOG_FULL => k_is)
      (case v_NET_FULL => k_is)
      (case v_SPOILED_ALREADY => k_is)
      (case v_NO_BYTE => k_is)
      (case v_HAS_POWER => k_is)
      (case v_LAST_TURN => k_is)
      (case v_LOG_LIMIT => k_is)
      (case v_TURN_LIMIT => k_is)
      (case b_len => k_is)
      (case b_range => k_is)
      (case b_enumerate => k_is)
      (case b_min => k_is)
      (case b_max => k_is)
      (case b_zip => k_is)
      (case b_all => k_is)
      (case b_list => k_is)
      (case b_any => k_is)
      (case b_sum => k_is)
      (case b_int => k_is)
      (case C_Packet => k_is)
      (case pg_Packet => k_is)
      (case hd_Packet => k_is)
      (case po_Packet => k_is)
      (case sa_Packet => k_is)
      (case mk_Packet => k_is)
      (case kc_Packet => k_is)
      (case n_Packet_goes_to => k_is)
      (case n_Packet_machine => k_is)
      (case n_Packet_octets => k_is)
      (case n_Packet_spoiled => k_is)
      (case a20 => k_is)
      (case i20 => k_is)
      (case l20 => k_is)
      (case e20 => k_is)
      (case k20 => k_is)
      (case C_Machine => k_is)
      (case pg_Machine => k_is)
      (case hd_Machine => k_is)
      (case po_Machine => k_is)
      (case sa_Machine => k_is)
      (case mk_Machine => k_is)
      (case kc_Machine => k_is)
      (case n_Machine_log => k_is)
      (case n_Machine_power => k_is)
      (case n_Machine_turn => k_is)
      (case n_Machine_acked => k_is)
      (case n_Machine_next_place => k_is)
      (case n_Machine_timer => k_is)
      (case a21 => k_is)
      (case i21 => k_is)
      (case l21 => k_is)
      (case e21 => k_is)
      (case k21 => k_is)
      (case C_Desk => k_is)
      (case pg_Desk => k_is)
      (case hd_Desk => k_is)
      (case po_Desk => k_is)
      (case sa_Desk => k_is)
      (case mk_Desk => k_is)
      (case kc_Desk => k_is)
      (case n_Desk_turn => k_is)
      (case n_Desk_copied => k_is)
      (case n_Desk_aside => k_is)
      (case a22 => k_is)
      (case i22 => k_is)
      (case l22 => k_is)
      (case e22 => k_is)
      (case k22 => k_is)
      (case C_Ward => k_is)
      (case pg_Ward => k_is)
      (case hd_Ward => k_is)
      (case po_Ward => k_is)
      (case sa_Ward => k_is)
      (case mk_Ward => k_is)
      (case kc_Ward => k_is)
      (case n_Ward_machines => k_is)
      (case n_Ward_desks => k_is)
      (case n_Ward_window => k_is)
      (case n_Ward_wait => k_is)
      (case n_Ward_packets => k_is)
      (case n_Ward_lost => k_is)
      (case n_Ward_bad => k_is)
      (case n_Ward_again => k_is)
      (case n_Ward_news => k_is)
      (case a23 => k_is)
      (case i23 => k_is)
      (case l23 => k_is)
      (case e23 => k_is)
      (case k23 => k_is)
      (case a0 => k_is)
      (case l0 => k_is)
      (case e0 => k_is)
      (case k0 => k_is)
      (case a1 => k_is)
      (case l1 => k_is)
      (case e1 => k_is)
      (case k1 => k_is)
      (case a2 => k_is)
      (case l2 => k_is)
      (case e2 => k_is)
      (case k2 => k_is)
      (case a3 => k_is)
      (case l3 => k_is)
      (case e3 => k_is)
      (case k3 => k_is)
      (case a4 => k_is)
      (case l4 => k_is)
      (case e4 => k_is)
      (case k4 => k_is)
      (case a5 => k_is)
      (case l5 => k_is)
      (case e5 => k_is)
      (case k5 => k_is)
      (case a6 => k_is)
      (case l6 => k_is)
      (case e6 => k_is)
      (case k6 => k_is)
      (case a7 => k_is)
      (case l7 => k_is)
      (case e7 => k_is)
      (case k7 => k_is)
      (case a8 => k_is)
      (case l8 => k_is)
      (case e8 => k_is)
      (case k8 => k_is)
      (case a9 => k_is)
      (case l9 => k_is)
      (case e9 => k_is)
      (case k9 => k_is)
      (case a10 => k_is)
      (case l10 => k_is)
      (case e10 => k_is)
      (case k10 => k_is)
      (case a11 => k_is)
      (case l11 => k_is)
      (case e11 => k_is)
      (case k11 => k_is)
      (case a12 => k_is)
      (case l12 => k_is)
      (case e12 => k_is)
      (case k12 => k_is)
      (case a13 => k_is)
      (case l13 => k_is)
      (case e13 => k_is)
      (case k13 => k_is)
      (case a14 => k_is)
      (case l14 => k_is)
      (case e14 => k_is)
      (case k14 => k_is)
      (case a15 => k_is)
      (case l15 => k_is)
      (case e15 => k_is)
      (case k15 => k_is)
      (case a16 => k_is)
      (case l16 => k_is)
      (case e16 => k_is)
      (case k16 => k_is)
      (case a17 => k_is)
      (case l17 => k_is)
      (case e17 => k_is)
      (case k17 => k_is)
      (case a18 => k_is)
      (case l18 => k_is)
      (case e18 => k_is)
      (case k18 => k_is)
      (case a19 => k_is)
      (case l19 => k_is)
      (case e19 => k_is)
      (case k19 => k_is)
      (case a24 => k_is)
      (case l24 => k_is)
      (case e24 => k_is)
      (case k24 => k_is)
      (case a25 => k_is)
      (case l25 => k_is)
      (case e25 => k_is)
      (case k25 => k_is)
      (case a26 => k_is)
      (case l26 => k_is)
      (case e26 => k_is)
      (case k26 => k_is)
      (case a27 => k_is)
      (case l27 => k_is)
      (case e27 => k_is)
      (case k27 => k_is)
      (case a28 => k_is)
      (case l28 => k_is)
      (case e28 => k_is)
      (case k28 => k_is)
      (case a29 => k_is)
      (case l29 => k_is)
      (case e29 => k_is)
      (case k29 => k_is)
      (case a30 => k_is)
      (case l30 => k_is)
      (case e30 => k_is)
      (case k30 => k_is)
      (case a31 => k_is)
      (case l31 => k_is)
      (case e31 => k_is)
      (case k31 => k_is)
      (case a32 => k_is)
      (case l32 => k_is)
      (case e32 => k_is)
      (case k32 => k_is)
      (case a33 => k_is)
      (case l33 => k_is)
      (case e33 => k_is)
      (case k33 => k_is)
      (case a34 => k_is)
      (case l34 => k_is)
      (case e34 => k_is)
      (case k34 => k_is)
      (case a35 => k_is)
      (case l35 => k_is)
      (case e35 => k_is)
      (case k35 => k_is)
      (case a36 => k_is)
      (case l36 => k_is)
      (case e36 => k_is)
      (case k36 => k_is)
      (case a37 => k_is)
      (case l37 => k_is)
      (case e37 => k_is)
      (case k37 => k_is)
      (case a38 => k_is)
      (case l38 => k_is)
      (case e38 => k_is)
      (case k38 => k_is)
      (case a39 => k_is)
      (case l39 => k_is)
      (case e39 => k_is)
      (case k39 => k_is)
      (case a40 => k_is)
      (case l40 => k_is)
      (case e40 => k_is)
      (case k40 => k_is)
      (case a41 => k_is)
      (case l41 => k_is)
      (case e41 => k_is)
      (case k41 => k_is)
      (case a42 => k_is)
      (case l42 => k_is)
      (case e42 => k_is)
      (case k42 => k_is)
      (case a43 => k_is)
      (case l43 => k_is)
      (case e43 => k_is)
      (case k43 => k_is)
      (case a44 => k_is)
      (case l44 => k_is)
      (case e44 => k_is)
      (case k44 => k_is)
      (case a45 => k_is)
      (case l45 => k_is)
      (case e45 => k_is)
      (case k45 => k_is)
      (case a46 => k_is)
      (case l46 => k_is)
      (case e46 => k_is)
      (case k46 => k_is)
      (case a47 => k_is)
      (case l47 => k_is)
      (case e47 => k_is)
      (case k47 => k_is)
      (case a48 => k_is)
      (case l48 => k_is)
      (case e48 => k_is)
      (case k48 => k_is)
      (case a49 => k_is)
      (case l49 => k_is)
      (case e49 => k_is)
      (case k49 => k_is)
      (case a50 => k_is)
      (case l50 => k_is)
      (case e50 => k_is)
      (case k50 => k_is)
      (case a51 => k_is)
      (case l51 => k_is)
      (case e51 => k_is)
      (case k51 => k_is)
      (case a52 => k_is)
      (case l52 => k_is)
      (case e52 => k_is)
      (case k52 => k_is)
      (case a53 => k_is)
      (case l53 => k_is)
      (case e53 => k_is)
      (case k53 => k_is)
      (case a54 => k_is)
      (case l54 => k_is)
      (case e54 => k_is)
      (case k54 => k_is)
      (case a55 => k_is)
      (case l55 => k_is)
      (case e55 => k_is)
      (case k55 => k_is)
      (case a56 => k_is)
      (case l56 => k_is)
      (case e56 => k_is)
      (case k56 => k_is)
      (case T_LOOKS => k_is)
      (case T_RANGES => k_is)
      (case T_ROW_LIMITS => k_is)
      (case T_FREE_CALLS => k_is)
      (case T_MACHINE_CALLS => k_is)
      (case T_PACKET_CALLS => k_is)
      (case T_HANDLERS => k_is)
      (case L_RANGES => k_is)
      (case S_RANGES => rfl)
      (case L_r_0 => k_is)
      (case L_q_0_0 => k_is)
      (case L_q_0_1 => k_is)
      (case L_q_0_2 => k_is)
      (case L_r_1 => k_is)
      (case L_q_1_0 => k_is)
      (case L_r_2 => k_is)
      (case L_q_2_0 => k_is)
      (case L_r_3 => k_is)
      (case L_q_3_0 => k_is)
      (case L_r_4 => k_is)
      (case L_q_4_0 => k_is)
      (case L_r_5 => k_is)
      (case L_q_5_0 => k_is)
      (case L_r_6 => k_is)
      (case L_q_6_0 => k_is)
      (case L_q_6_1 => k_is)
      (case L_q_6_2 => k_is)
      (case L_r_7 => k_is)
      (case L_q_7_0 => k_is)
      (case L_r_8 => k_is)
      (case L_q_8_0 => k_is)
      (case L_r_9 => k_is)
      (case L_q_9_0 => k_is)
      (case L_r_10 => k_is)
      (case L_r_11 => k_is)
      (case L_q_11_0 => k_is)
      (case L_r_12 => k_is)
      (case L_r_13 => k_is)
      (case L_q_13_0 => k_is)
      (case L_r_14 => k_is)
      (case L_q_14_0 => k_is)
      (case L_r_15 => k_is)
      (case L_q_15_0 => k_is)
      (case L_r_16 => k_is)
      (case L_q_16_0 => k_is)
      (case L_q_16_1 => k_is)
      (case L_r_17 => k_is)
      (case L_q_17_0 => k_is)
      (case L_q_17_1 => k_is)
      (case L_r_18 => k_is)
      (case L_q_18_0 => k_is)
      (case L_r_19 => k_is)
      (case L_r_20 => k_is)
      (case L_ROW_LIMITS => k_is)
      (case S_ROW_LIMITS => rfl)
      (case L_HANDLERS => k_is)
      (case S_HANDLERS => rfl)
      (case L_LOOKS => k_is)
      (case S_LOOKS => rfl)
      (case L_t_FREE_CALLS => k_is)
      (case L_t_MACHINE_CALLS => k_is)
      (case L_t_PACKET_CALLS => k_is)
    obtain ⟨a, rk, T, B⟩ := T
    have e0 := hmg.symm.trans T.answers.mg
    cases e0
    exact ⟨_, Nw.ans_binds T, fun base _ _ => Nw.ok_answers T B⟩
  case S =>
    intro K H xs a hO hwi hask hx
    cases hx with
    | cons h1 h2 =>
      cases h2
      cases h1 with
      | lst hs ha =>
        have e := L2.ints_dw a.1 _ ha
        subst e
        have q : ((Codec.inLen 0 16000 a.1 && a.1.all (Codec.inInt (-1000000000000000000) 1000000000000000000)) && true) = true := hwi
        rw [Bool.and_eq_true, Bool.and_eq_true] at q
        exact ⟨_, a.1, rfl, hs, (Codec.inNat_iff.mp q.1.1).2, hask, fun H' p hp => .lst (L2.SqL.of hp) (L2.dw_ints _)⟩
end
