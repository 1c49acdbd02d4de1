import PyProof.Rows.All
import Wide.All
import OpenK.AllK
import Wide.FinOn
import PyProof.EqAt
import PyProof.EqKinds
import PyProof.TupleCall
import KE.BitLaws
import KE.KSortTup
import KE.KListLetter
import KE.KStar
import KE.KRevSl
import PyProof.TupleOfGen
import KE.KLam
import KE.KMinKey
import KE.IntBitsLaws
import KE.KIsAll
import KE.KTryMore
import PyProof.ExcArgsOwn
import PySem.Challenge.RW_mistakesigns_k15_whole_refusals
set_option Elab.async false
set_option linter.all false
set_option maxRecDepth 100000
set_option maxHeartbeats 0
namespace L2
open PySem PySem.Spec PyProof.Rows
abbrev Key := Sum Int Str
def keyIs : Key → Value → Bool
  | .inl k, v => Value.isInt k v
  | .inr x, v => Value.isStrOf x v
def keyH (w : World) : Key → Int
  | .inl k => hashInt k
  | .inr x => hashStr w x
theorem keyIs_shape : ∀ {k : Key} {v : Value}, keyIs k v = true → (∃ i t, k = Sum.inl i ∧ v = Value.int i t) ∨ (∃ x t, k = Sum.inr x ∧ v = Value.str x t)
  | .inl i, v, h => by
    obtain ⟨t, e⟩ := Value.isInt_shape (k := i) (v := v) h
    exact .inl ⟨i, t, rfl, e⟩
  | .inr x, v, h => by
    obtain ⟨t, e⟩ := Value.isStrOf_shape (x := x) (v := v) h
    exact .inr ⟨x, t, rfl, e⟩
theorem key_ll (a b : Int) : decide ((Sum.inl a : Key) = Sum.inl b) = (a == b) := by
  by_cases e : a = b
  · subst e; simp
  · have h : ¬ (Sum.inl a : Key) = Sum.inl b := fun q => e (Sum.inl.inj q)
    rw [decide_eq_false h]
    exact (beq_eq_false_iff_ne.mpr e).symm
theorem key_rr (a b : Str) : decide ((Sum.inr a : Key) = Sum.inr b) = decide (a = b) := by
  by_cases e : a = b
  · subst e; simp
  · have h : ¬ (Sum.inr a : Key) = Sum.inr b := fun q => e (Sum.inr.inj q)
    rw [decide_eq_false h, decide_eq_false e]
theorem key_lr (a : Int) (b : Str) : decide ((Sum.inl a : Key) = Sum.inr b) = false := decide_eq_false (fun q => nomatch q)
theorem key_rl (a : Str) (b : Int) : decide ((Sum.inr a : Key) = Sum.inl b) = false := decide_eq_false (fun q => nomatch q)
def mixKind (prog : Program) (w : World) : PySem.KeyKind prog w Key where
  is := keyIs
  hash := keyH w
  inj := fun v a b ha hb => by
    rcases keyIs_shape ha with ⟨i, t, rfl, rfl⟩ | ⟨x, t, rfl, rfl⟩
    · rcases keyIs_shape hb with ⟨j, u, rfl, e⟩ | ⟨y, u, rfl, e⟩
      · injection e with e1 _; rw [e1]
      · exact nomatch e
    · rcases keyIs_shape hb with ⟨j, u, rfl, e⟩ | ⟨y, u, rfl, e⟩
      · exact nomatch e
      · injection e with e1 _; rw [e1]
  byValue := fun k v h => by
    rcases keyIs_shape h with ⟨i, t, rfl, rfl⟩ | ⟨x, t, rfl, rfl⟩ <;> rfl
  pyHash := fun hv h => by
    rcases keyIs_shape hv with ⟨i, t, rfl, rfl⟩ | ⟨x, t, rfl, rfl⟩
    · exact wpAny_pyHash_int h
    · exact wpAny_pyHash_str h
  eqBool := fun hu hv h => by
    rcases keyIs_shape hu with ⟨i, t, rfl, rfl⟩ | ⟨x, t, rfl, rfl⟩
    · rcases keyIs_shape hv with ⟨j, u, rfl, rfl⟩ | ⟨y, u, rfl, rfl⟩
      · rw [key_ll] at h; exact wpAny_eqBool_int h
      · rw [key_lr] at h; exact SeqAt.EqAt.int_str i t y u _ _ _ _ h
    · rcases keyIs_shape hv with ⟨j, u, rfl, rfl⟩ | ⟨y, u, rfl, rfl⟩
      · rw [key_rl] at h; exact SeqAt.EqAt.str_int x t j u _ _ _ _ h
      · rw [key_rr] at h; exact wpAny_eqBool_str h
  «strs» := fun k x t v h => by
    rcases keyIs_shape h with ⟨i, u, rfl, e⟩ | ⟨y, u, rfl, e⟩
    · exact nomatch e
    · injection e with e1 _
      subst e1
      cases v <;> rfl
end L2
namespace L2
open PySem PySem.Spec PyProof.Rows
inductive V where
  | non | bl (b : Bool) | int (i : Int) | str (x : Str) | byt (b : Array UInt8) | flt (b : UInt64) | ref (a : Addr) | ty (n : String)
  deriving DecidableEq
def RelV : V → Value → Prop
  | .non, u => u = Value.none
  | .bl b, u => u = Value.bool b
  | .int i, u => ∃ t, u = Value.int i t
  | .str x, u => ∃ t, u = Value.str x t
  | .byt b, u => ∃ t, u = Value.bytes b t
  | .flt b, u => ∃ t, u = Value.float b t
  | .ref a, u => u = Value.ref a
  | .ty n, u => u = Value.type n
abbrev Vals : List V → List Value → Prop := Paired RelV
theorem Vals.length {xs : List V} {us : List Value} (r : Vals xs us) : xs.length = us.length := Paired.length r
theorem Vals.get : ∀ {xs : List V} {us : List Value} {i : Nat} {x : V}, Vals xs us → xs[i]? = some x → ∃ u, us[i]? = some u ∧ RelV x u
  | _, _, _, _, .nil, e => by simp at e
  | _, _, 0, _, .cons r _, e => by simp at e; subst e; exact ⟨_, rfl, r⟩
  | _, _, i + 1, x, .cons _ t, e => by
    obtain ⟨u, h1, h2⟩ := Vals.get (i := i) (x := x) t (by simpa using e)
    exact ⟨u, by simpa using h1, h2⟩
theorem Vals.set {x : V} {u : Value} (r : RelV x u) : ∀ {xs : List V} {us : List Value} (i : Nat), Vals xs us → Vals (xs.set i x) (us.set i u)
  | _, _, _, .nil => .nil
  | _, _, 0, .cons _ t => .cons r t
  | _, _, i + 1, .cons q t => .cons q (Vals.set r i t)
theorem Vals.append : ∀ {xs ys : List V} {us ws : List Value}, Vals xs us → Vals ys ws → Vals (xs ++ ys) (us ++ ws)
  | _, _, _, _, .nil, s => s
  | _, _, _, _, .cons r t, s => .cons r (Vals.append t s)
theorem Vals.take : ∀ {xs : List V} {us : List Value} (n : Nat), Vals xs us → Vals (xs.take n) (us.take n)
  | _, _, 0, _ => .nil
  | _, _, _ + 1, .nil => .nil
  | _, _, n + 1, .cons r t => .cons r (Vals.take n t)
theorem Vals.drop : ∀ {xs : List V} {us : List Value} (n : Nat), Vals xs us → Vals (xs.drop n) (us.drop n)
  | _, _, 0, r => r
  | _, _, _ + 1, .nil => .nil
  | _, _, n + 1, .cons _ t => Vals.drop n t
theorem Vals.none_of : ∀ {xs : List V} {us : List Value} {i : Nat}, Vals xs us → xs[i]? = none → us[i]? = none := fun {xs us i} r e => by
  have h1 := r.length
  have h2 : xs.length ≤ i := List.getElem?_eq_none_iff.mp e
  exact List.getElem?_eq_none_iff.mpr (by omega)
def RelO : Option V → Option Value → Prop
  | some v, some u => RelV v u
  | none, none => True
  | _, _ => False
def KV {κ : Type} : List (κ × V) → List (κ × Value) → Prop := Paired fun (p : κ × V) (q : κ × Value) => p.1 = q.1 ∧ RelV p.2 q.2
def kV : Key → V
  | .inl i => .int i
  | .inr x => .str x
inductive HO where
    | lst (xs : List V)
    | tup (xs : List V)
    | dK (kvs : List (Key × V)) | dT (kvs : List (List Key × V))
    | set (S : Int → Bool) (n : Nat)
    | ins (C dx : Addr) (fs : List (Str × V))
    | own (x : Addr)
    | xd (fs : List (Str × V))
    | met (f x : Addr)
    | rng (lo hi : Int)
    | frz (o : Obj) (u : HO)
    | tbl (ps : Array Value)
    | ext (φ : Heap → Prop)
abbrev Hp := Addr → Option HO
def upd (H : Hp) (a : Addr) (o : HO) : Hp := fun b => if b = a then some o else H b
theorem upd_same {H : Hp} {a : Addr} {o : HO} : upd H a o a = some o := by unfold upd; rw [if_pos rfl]
theorem upd_ne {H : Hp} {a b : Addr} {o : HO} (h : b ≠ a) : upd H a o b = H b := by unfold upd; rw [if_neg h]
theorem ne_of_none {H : Hp} {a b : Addr} {o : HO} (h : H a = some o) (h' : H b = none) : a ≠ b := by
  intro e; subst e; rw [h] at h'; cases h'
def IsTupN (h : Heap) (a : Addr) (items : Array Value) : Prop := ∃ o, h.get? a = some o ∧ (o.cls = .type "tuple" ∧ ∃ n, o.data = .seq items n) ∧ o.dict = none
theorem IsTupN.tup {h : Heap} {a : Addr} {items : Array Value} (x : IsTupN h a items) : IsTup h a items := let ⟨o, ho, ⟨hc, hd⟩, _⟩ := x; ⟨o, ho, hc, hd⟩
theorem IsTupN.lt {h : Heap} {a : Addr} {items : Array Value} (x : IsTupN h a items) : a < h.objs.size := let ⟨_, ho, _⟩ := x; Heap.lt_size ho
theorem IsTupN.new (h : Heap) (items : Array Value) : IsTupN (h.push { cls := .type "tuple", data := .seq items }) h.objs.size items := ⟨_, Heap.get?_push_size _ rfl, ⟨rfl, _, rfl⟩, rfl⟩
section
variable (P : Program) (w : World)
def ObjOk (H : Hp) (h : Heap) (a : Addr) : HO → Prop
  | .lst xs => xs.length ≤ sizeLine ∧ ∃ (its : List Value) (n : Nat), Vals xs its ∧ h.get? a = some { cls := .type "list", data := .seq its.toArray n }
  | .tup xs => xs.length ≤ sizeLine ∧ ∃ its : List Value, Vals xs its ∧ IsTupN h a its.toArray
  | .dK kvs => kvs.length ≤ sizeLine ∧ (a == sysModules) = false ∧ ∃ vs, KV kvs vs ∧ h.DictOf (mixKind P w) a vs
  | .dT kvs => kvs.length ≤ sizeLine ∧ (a == sysModules) = false ∧ ∃ xs : List (List Key × Addr × Value),
      Paired (fun (p : List Key × V) (q : List Key × Addr × Value) => p.1 = q.1 ∧ H q.2.1 = some (.tup (p.1.map kV)) ∧ RelV p.2 q.2.2) kvs xs ∧
      ∃ o es ep, h.get? a = some o ∧ o.ExactDict ∧ o.data = .dict es ep ∧ es.toList = xs.map (entryOfKey (tupleKind (mixKind P w))) ∧ (xs.map (·.1)).Nodup
  | .set S n => h.SetOf (intKind P w) a S n
  | .ins C dx fs => H dx = some (.own a) ∧ fs.length ≤ 1000 ∧ dx ≠ a ∧ h.get? a = some (PySem.W.instObj C dx) ∧
      ∃ mA, h.Ns1 dx mA ∧ (∀ f, RelO (fs.lookup f) (mA f)) ∧ PySem.Within mA (fs.map (·.1))
  | .own _ => ∃ o, h.get? a = some o
  | .xd fs => ∃ mA, h.Ns1 a mA ∧ ∀ f, RelO (fs.lookup f) (mA f)
  | .rng lo hi => ∃ t u v, h.get? a = some { cls := .type "range", data := .fields #[.int lo t, .int hi u, .int 1 v] }
  | .frz o u => h.get? a = some o ∧ ObjOk H h a u
  | .tbl ps => h.get? a = some { cls := .none, data := .fields ps }
  | .met f x => h.get? a = some (PySem.W.methodObj (.ref f) (.ref x))
  | .ext φ => φ h ∧ (∃ o, h.get? a = some o) ∧ ∀ h1 h2 : Heap, φ h1 → (∀ o, h1.get? a = some o → h2.get? a = some o) → φ h2
def HOk (H : Hp) (h : Heap) : Prop := ∀ a o, H a = some o → ObjOk P w H h a o
end
section
variable {P : Program} {w : World} {H H' : Hp} {h h' : Heap} {a : Addr} {o : HO}
theorem ObjOk.lt (x : ObjOk P w H h a o) : a < h.objs.size := by
  cases o with
  | lst xs => obtain ⟨_, _, _, _, e⟩ := x; exact Heap.lt_size e
  | tup xs => obtain ⟨_, _, _, p⟩ := x; exact p.lt
  | dK kvs => obtain ⟨_, _, _, _, o, _, _, e, _⟩ := x; exact Heap.lt_size e
  | dT kvs => obtain ⟨_, _, _, _, o, _, _, e, _⟩ := x; exact Heap.lt_size e
  | set S n => obtain ⟨o, _, _, _, e, _⟩ := x; exact Heap.lt_size e
  | ins C dx fs => obtain ⟨_, _, _, e, _⟩ := x; exact Heap.lt_size e
  | own y => obtain ⟨_, e⟩ := x; exact Heap.lt_size e
  | xd fs => obtain ⟨_, ⟨_, _, _, e, _⟩, _⟩ := x; exact Heap.lt_size e
  | rng lo hi => obtain ⟨_, _, _, e⟩ := x; exact Heap.lt_size e
  | frz ob u => obtain ⟨e, _⟩ := x; exact Heap.lt_size e
  | tbl ps => exact Heap.lt_size (show h.get? a = some _ from x)
  | met f y => exact Heap.lt_size (show h.get? a = some _ from x)
  | ext φ => obtain ⟨_, ⟨_, e⟩, _⟩ := x; exact Heap.lt_size e
theorem Paired.mapP {α β : Type} {F G : α → β → Prop} : ∀ {l₁ : List α} {l₂ : List β}, Paired F l₁ l₂ → (∀ a b, F a b → G a b) → Paired G l₁ l₂
  | _, _, .nil, _ => .nil
  | _, _, .cons r t, f => .cons (f _ _ r) (Paired.mapP t f)
theorem ObjOk.stay (x : ObjOk P w H h a o) (k : ∀ b u, (b = a ∨ H b = some (.own a)) → h.get? b = some u → h'.get? b = some u)
    (ho : ∀ b, H b = some (.own a) → H' b = some (.own a)) (ht : ∀ b xs, H b = some (.tup xs) → H' b = some (.tup xs)) : ObjOk P w H' h' a o := by
  induction o with
  | lst xs => obtain ⟨z, its, n, r, e⟩ := x; exact ⟨z, its, n, r, k _ _ (.inl rfl) e⟩
  | tup xs => obtain ⟨z, its, r, ob, e, c⟩ := x; exact ⟨z, its, r, ob, k _ _ (.inl rfl) e, c⟩
  | dK kvs => obtain ⟨z, y, vs, r, ob, es, ep, e, c⟩ := x; exact ⟨z, y, vs, r, ob, es, ep, k _ _ (.inl rfl) e, c⟩
  | dT kvs =>
    obtain ⟨z, y, xs, r, ob, es, ep, e, c⟩ := x
    exact ⟨z, y, xs, Paired.mapP r fun p q z => ⟨z.1, ht _ _ z.2.1, z.2.2⟩, ob, es, ep, k _ _ (.inl rfl) e, c⟩
  | set S n => obtain ⟨ob, es, ep, t, e, c⟩ := x; exact ⟨ob, es, ep, t, k _ _ (.inl rfl) e, c⟩
  | ins C dx fs =>
    obtain ⟨d, z, ne, e, mA, ⟨od, es, ep, e2, c⟩, r⟩ := x
    exact ⟨ho _ d, z, ne, k _ _ (.inl rfl) e, mA, ⟨od, es, ep, k _ _ (.inr d) e2, c⟩, r⟩
  | own y => obtain ⟨ob, e⟩ := x; exact ⟨ob, k _ _ (.inl rfl) e⟩
  | xd fs => obtain ⟨mA, ⟨od, es, ep, e, c⟩, r⟩ := x; exact ⟨mA, ⟨od, es, ep, k _ _ (.inl rfl) e, c⟩, r⟩
  | rng lo hi => obtain ⟨t, u, v, e⟩ := x; exact ⟨t, u, v, k _ _ (.inl rfl) e⟩
  | frz ob u ih => obtain ⟨e, q⟩ := x; exact ⟨k _ _ (.inl rfl) e, ih q⟩
  | tbl ps =>
    have e : h.get? a = some { cls := .none, data := .fields ps } := x
    show h'.get? a = some { cls := .none, data := .fields ps }
    exact k a _ (.inl rfl) e
  | met f y =>
    have e : h.get? a = some (PySem.W.methodObj (.ref f) (.ref y)) := x
    show h'.get? a = some (PySem.W.methodObj (.ref f) (.ref y))
    exact k a _ (.inl rfl) e
  | ext φ => obtain ⟨p, ⟨o, e⟩, st⟩ := x; exact ⟨st _ _ p fun o q => k _ _ (.inl rfl) q, ⟨o, k _ _ (.inl rfl) e⟩, st⟩
theorem HOk.lt (x : HOk P w H h) (e : H a = some o) : a < h.objs.size := (x a o e).lt
theorem HOk.fresh (x : HOk P w H h) (e : h.objs.size ≤ a) : H a = none := by
  cases q : H a with
  | none => rfl
  | some u => exact absurd (Nat.lt_of_lt_of_le (x.lt q) e) (Nat.lt_irrefl _)
theorem HOk.kept (x : HOk P w H h) (k : ∀ b u, h.get? b = some u → h'.get? b = some u) : HOk P w H h' := fun a o e =>
  (x a o e).stay (fun b u _ q => k b u q) (fun _ q => q) fun _ _ q => q
theorem HOk.laid (x : HOk P w H h) (k : ∀ b u, h.get? b = some u → h'.get? b = some u) (hp : h.objs.size ≤ a) (new : ObjOk P w (upd H a o) h' a o) : HOk P w (upd H a o) h' := fun b u e => by
  have hn := x.fresh hp
  by_cases hb : b = a
  · subst hb; rw [upd_same] at e; cases e; exact new
  · rw [upd_ne hb] at e
    exact (x b u e).stay (fun c v _ q => k c v q) (fun c q => by rw [upd_ne (ne_of_none q hn)]; exact q) fun c xs q => by rw [upd_ne (ne_of_none q hn)]; exact q
end
def Rd (H : Hp) (a : Addr) (u : HO) : Prop := H a = some u ∨ ∃ o, H a = some (.frz o u)
theorem Rd.of {H : Hp} {a : Addr} {u : HO} (h : H a = some u) : Rd H a u := .inl h
theorem Rd.ok {P : Program} {w : World} {H : Hp} {h : Heap} {a : Addr} {u : HO} (r : Rd H a u) (x : HOk P w H h) : ObjOk P w H h a u := by
  rcases r with r | ⟨o, r⟩
  · exact x a u r
  · obtain ⟨_, q⟩ := x a _ r
    exact q
def Mut : Option HO → Prop
  | some (.lst _) => True
  | some (.dK _) => True
  | some (.dT _) => True
  | some (.set _ _) => True
  | some (.ins _ _ _) => True
  | some (.ext _) => True
  | _ => False
section
variable {P : Program} {w : World} {H : Hp} {h h' : Heap} {x e : Addr} {o' : HO}
theorem HOk.write (ok : HOk P w H h) (mu : Mut (H x)) (he : e = x ∨ H e = some (.own x)) (k : ∀ b u, b ≠ e → h.get? b = some u → h'.get? b = some u) (heo : ∃ u, h'.get? e = some u)
    (new : ObjOk P w (upd H x o') h' x o') : HOk P w (upd H x o') h' := fun b u q => by
  have nown : ∀ c y, H c = some (.own y) → c ≠ x := fun c y r z => by subst z; rw [r] at mu; exact mu
  have ntup : ∀ c xs, H c = some (.tup xs) → c ≠ x := fun c xs r z => by subst z; rw [r] at mu; exact mu
  by_cases hb : b = x
  · subst hb; rw [upd_same] at q; cases q; exact new
  · rw [upd_ne hb] at q
    by_cases hbe : b = e
    · have q' : H b = some (.own x) := by
        rcases he with z | z
        · exact absurd (hbe.trans z) hb
        · rw [hbe]; exact z
      rw [q] at q'; cases q'
      obtain ⟨v, hv⟩ := heo
      exact ⟨v, by rw [hbe]; exact hv⟩
    · refine (ok b u q).stay (fun c v hc r => k c v ?_ r) (fun c r => by rw [upd_ne (nown c b r)]; exact r) fun c xs r => by rw [upd_ne (ntup c xs r)]; exact r
      rcases hc with rfl | hc
      · exact hbe
      · rintro rfl
        rcases he with z | z
        · exact nown c b hc z
        · rw [hc] at z; cases z; exact hb rfl
end
structure Un (fs ex : List Addr) (H H' : Hp) (h h' : Heap) : Prop where
  keep : ∀ b o, h.get? b = some o → H b = none → b ∉ fs → b ∉ ex → h'.get? b = some o
  slot : ∀ b o, h.get? b = some o → H b = none → b ∈ fs → b ∉ ex → ∃ sl, h'.get? b = some { o with slots := sl }
  free : ∀ b o, h.get? b = some o → H b = none → b ∉ ex → H' b = none
  there : ∀ b o, h.get? b = some o → b ∉ ex → ∃ o', h'.get? b = some o'
  tups : ∀ b xs, H b = some (.tup xs) → H' b = some (.tup xs)
  frzs : ∀ b o u, H b = some (.frz o u) → H' b = some (.frz o u)
  tbls : ∀ b ps, H b = some (.tbl ps) → ∃ more, H' b = some (.tbl (ps ++ more))
section
variable {fs fs' ex ex' : List Addr} {H H1 H2 : Hp} {h h1 h2 h' : Heap} {a x e : Addr} {o : HO}
theorem Un.any (u : Un fs ex H H1 h h1) {b : Addr} {ob : Obj} (q : h.get? b = some ob) (n : H b = none) (hx : b ∉ ex) : ∃ sl, h1.get? b = some { ob with slots := sl } := by
  by_cases hb : b ∈ fs
  · exact u.slot b ob q n hb hx
  · exact ⟨ob.slots, u.keep b ob q n hb hx⟩
theorem Un.trans (a : Un fs ex H H1 h h1) (b : Un fs ex H1 H2 h1 h2) : Un fs ex H H2 h h2 where
  keep := fun c ob q n hc hx => b.keep c ob (a.keep c ob q n hc hx) (a.free c ob q n hx) hc hx
  slot := fun c ob q n hc hx => by
    obtain ⟨sl, e1⟩ := a.slot c ob q n hc hx
    obtain ⟨sl', e2⟩ := b.slot c _ e1 (a.free c ob q n hx) hc hx
    exact ⟨sl', e2⟩
  free := fun c ob q n hx => by
    obtain ⟨o', e1⟩ := a.there c ob q hx
    exact b.free c o' e1 (a.free c ob q n hx) hx
  there := fun c ob q hx => by
    obtain ⟨o', e1⟩ := a.there c ob q hx
    exact b.there c o' e1 hx
  tups := fun c xs q => b.tups c xs (a.tups c xs q)
  frzs := fun c ob xs q => b.frzs c ob xs (a.frzs c ob xs q)
  tbls := fun c ps q => by
    obtain ⟨m1, e1⟩ := a.tbls c ps q
    obtain ⟨m2, e2⟩ := b.tbls c _ e1
    exact ⟨m1 ++ m2, by rw [e2, Array.append_assoc]⟩
theorem Un.kept (k : ∀ b u, h.get? b = some u → h'.get? b = some u) : Un fs ex H H h h' :=
  ⟨fun b ob q _ _ _ => k b ob q, fun b ob q _ _ _ => ⟨ob.slots, k b ob q⟩, fun _ _ _ n _ => n, fun b ob q _ => ⟨ob, k b ob q⟩, fun _ _ q => q, fun _ _ _ q => q, fun _ ps q => ⟨#[], by rw [q]; simp⟩⟩
theorem Un.refl : Un fs ex H H h h := Un.kept fun _ _ q => q
theorem Un.laid (k : ∀ b u, h.get? b = some u → h'.get? b = some u) (hp : h.objs.size ≤ a) (hn : H a = none) : Un fs ex H (upd H a o) h h' where
  keep := fun b u q _ _ _ => k b u q
  slot := fun b u q _ _ _ => ⟨u.slots, k b u q⟩
  free := fun b u q n _ => by rw [upd_ne (Nat.ne_of_lt (Nat.lt_of_lt_of_le (Heap.lt_size q) hp))]; exact n
  there := fun b u q _ => ⟨u, k b u q⟩
  tups := fun b xs q => by rw [upd_ne (ne_of_none q hn)]; exact q
  frzs := fun b u xs q => by rw [upd_ne (ne_of_none q hn)]; exact q
  tbls := fun b ps q => ⟨#[], by rw [upd_ne (ne_of_none q hn), q]; simp⟩
theorem Un.write (mu : Mut (H x)) (he : e = x ∨ H e = some (.own x)) (k : ∀ b u, b ≠ e → h.get? b = some u → h'.get? b = some u) (heo : ∃ u, h'.get? e = some u) : Un fs ex H (upd H x o) h h' := by
  have hx : ∀ b, H b = none → b ≠ x := fun b n z => by subst z; rw [n] at mu; exact mu
  have hb : ∀ b, H b = none → b ≠ e := fun b n z => by
    subst z
    rcases he with r | r
    · exact hx b n r
    · rw [n] at r; cases r
  have hm : ∀ b u, H b = some u → ¬ Mut (some u) → b ≠ x := fun b u q nm z => by subst z; rw [q] at mu; exact nm mu
  refine ⟨fun b u q n _ _ => k b u (hb b n) q, fun b u q n _ _ => ⟨u.slots, k b u (hb b n) q⟩, fun b u q n _ => by rw [upd_ne (hx b n)]; exact n, fun b u q _ => ?_,
    fun b xs q => by rw [upd_ne (hm b _ q fun z => z)]; exact q, fun b u xs q => by rw [upd_ne (hm b _ q fun z => z)]; exact q, fun b ps q => ⟨#[], by rw [upd_ne (hm b _ q fun z => z), q]; simp⟩⟩
  by_cases hbe : b = e
  · subst hbe; exact heo
  · exact ⟨u, k b u hbe q⟩
theorem Un.mono (u : Un fs ex H H1 h h1) (hs : ∀ b ∈ fs, b ∈ fs') (hx : ∀ b ∈ ex, b ∈ ex') : Un fs' ex' H H1 h h1 :=
  ⟨fun b ob q n hb he => u.keep b ob q n (fun z => hb (hs b z)) fun z => he (hx b z), fun _ _ q n _ he => u.any q n fun z => he (hx _ z), fun b ob q n he => u.free b ob q n fun z => he (hx b z), fun b ob q he => u.there b ob q fun z => he (hx b z), u.tups, u.frzs, u.tbls⟩
end
def trk (h : Heap) (H : Hp) : List Addr := (List.range h.objs.size).filter fun a => (H a).isSome
def hidT (h : Heap) (H : Hp) : Heap := PySem.W.hideAll h (trk h H)
theorem hidT_size (h : Heap) (H : Hp) : (hidT h H).objs.size = h.objs.size := PySem.W.hideAll_size _ _
theorem hidT_get {h : Heap} {H : Hp} {b : Addr} {o : Obj} (e : h.get? b = some o) (n : H b = none) : (hidT h H).get? b = some o :=
  PySem.W.hideAll_get _ e fun hm => by
    have q : (H b).isSome = true := (List.mem_filter.mp hm).2
    rw [n] at q; simp at q
theorem of_hidT {h : Heap} {H : Hp} {b : Addr} {o : Obj} (e : (hidT h H).get? b = some o) : h.get? b = some o ∧ H b = none := by
  have e' : h.get? b = some o := PySem.W.of_hideAll (trk h H) e
  refine ⟨e', ?_⟩
  cases q : H b with
  | none => rfl
  | some x =>
    have hm : b ∈ trk h H := List.mem_filter.mpr ⟨List.mem_range.mpr (Heap.lt_size e'), by simp [q]⟩
    have z : (hidT h H).get? b = none := PySem.W.hideAll_none (trk h H) hm
    rw [z] at e; cases e
def allNews (g h : Heap) (L : Addr) : List (Addr × Obj) := (List.range h.objs.size).filterMap fun a => if a = L ∨ (g.get? a).isSome = true then none else (h.get? a).map fun o => (a, o)
def rest (g h : Heap) (L d : Addr) : List (Addr × Obj) := (allNews g h L).filter fun p => decide (p.1 ≠ d)
end L2
namespace L2
open PySem PySem.Spec PyProof.Rows
structure Mod (K : PySem.W.Frag) (mg : Str → Option Value) (base : Heap) : Prop where
  kin : K.In base
  glob : base.Ns mainGlobals mg
  blt : ∃ mb, base.Ns builtinsNs mb ∧ ∀ x : Str, x ≠ "__name__" → mb x = bootBuiltins x
  nolimit : base.NoLimit
structure Cx where
  prog : Program
  w : World
  K : PySem.W.Frag
  mg : Str → Option Value
  base : Heap
  A : Around
  N : List Str
  s_0 : Shared
  H_0 : Hp
  env : Env
  outer : List Env
  stack : List Env
  ex : List Addr
  fn : Str → Bool
  calm : Bool
  pn : List (Addr × Obj)
  xe : Value → Shared → Prop
def frs (l : List Env) : List Addr := l.filterMap (·.frame)
abbrev Cx.fs (X : Cx) : List Addr := frs X.outer
def Vis (sc : Scope) (x : Str) : Prop := sc.names.lookup x = some .local ∨ sc.names.lookup x = some .cell ∨ sc.names.lookup x = some .free
def Loc (sc : Scope) (x : Str) : Prop := sc.names.lookup x = some .local ∨ sc.names.lookup x = some .cell
def Look (env : Env) (h : Heap) (m : Str → Option Value) (x : Str) (u : Value) : Prop :=
  (env.kindOf x = some .local ∧ m x = some u) ∨ ((env.kindOf x = some .cell ∨ env.kindOf x = some .free) ∧ ∃ c, env.cells.lookup x = some c ∧ h.IsCell c (some u))
structure Cx.Ok (X : Cx) : Prop where
  mod : Mod X.K X.mg X.base
  kind : X.env.scope.kind = .function
  glob : X.env.globals = mainGlobals
  blt : X.env.builtins = builtinsNs
  above : X.s_0.heap.objs.size ≤ X.env.locals
  inj : ∀ x y c, X.env.cells.lookup x = some c → X.env.cells.lookup y = some c → x = y
  has : ∀ x, (X.env.kindOf x = some .cell ∨ X.env.kindOf x = some .free) → ∃ c, X.env.cells.lookup x = some c
  cab : ∀ x c, X.fn x = true → X.env.cells.lookup x = some c → X.s_0.heap.objs.size ≤ c
  hd : X.calm = true → X.A.handled = none
  frames : X.A.frames = some X.stack
  stk : X.stack = X.outer ∨ (X.stack = X.env :: X.outer ∧ X.env.frame = some X.env.locals)
  exf : ∀ b ∈ X.ex, b ≠ X.env.locals ∧ ∀ x c, X.env.cells.lookup x = some c → c ≠ b
  bs : ∀ b o, X.base.get? b = some o → X.s_0.heap.get? b = some o ∧ X.H_0 b = none
  bsz : X.base.objs.size ≤ X.s_0.heap.objs.size
  noex : ∀ b o, X.base.get? b = some o → b ∉ X.ex
  exfs : ∀ b ∈ X.ex, b ∉ X.fs
  funs : X.s_0.heap.FunFrames X.base X.outer
  frf : ∀ b ∈ X.fs, X.H_0 b = none
structure Inv (X : Cx) (pins : List (Addr × Obj)) (σ : List (Option V)) (H : Hp) (s : Shared) : Prop where
  ok : X.Ok
  os : s.os = X.s_0.os
  bare : AllBare s.gens
  base : Un X.fs X.ex X.H_0 H X.s_0.heap s.heap
  loc : ∃ m, s.heap.Ns X.env.locals m ∧ ∀ (i : Nat) (x : Str) (v : V), X.N[i]? = some x → σ[i]? = some (some v) → Vis X.env.scope x → ∃ u, RelV v u ∧ Look X.env s.heap m x u
  cell : ∀ x c, X.env.cells.lookup x = some c → ∃ v, s.heap.IsCell c v
  free : H X.env.locals = none
  freeC : ∀ x c, X.env.cells.lookup x = some c → H c = none
  pin : ∀ p ∈ X.pn ++ pins, s.heap.get? p.1 = some p.2 ∧ H p.1 = none ∧ p.1 ≠ X.env.locals ∧ p.1 ∉ X.fs ∧ ∀ v, p.2.data ≠ .cell v
  hok : HOk X.prog X.w H s.heap
  len : σ.length = X.N.length
section
variable {X : Cx} {pins : List (Addr × Obj)} {σ : List (Option V)} {H H' : Hp} {s : Shared} {h' : Heap}
theorem Cx.Ok.nofr (ok : X.Ok) {b : Addr} {o : Obj} (e : X.base.get? b = some o) : b ∉ X.fs := fun hb => by
  have := (ok.funs.mem hb).1
  rw [e] at this; cases this
theorem Inv.bs (I : Inv X pins σ H s) : ∀ b o, X.base.get? b = some o → s.heap.get? b = some o ∧ H b = none := fun b o e =>
  ⟨I.base.keep b o (I.ok.bs b o e).1 (I.ok.bs b o e).2 (I.ok.nofr e) (I.ok.noex b o e), I.base.free b o (I.ok.bs b o e).1 (I.ok.bs b o e).2 (I.ok.noex b o e)⟩
theorem Inv.bk (I : Inv X pins σ H s) : ∀ b o, X.base.get? b = some o → s.heap.get? b = some o := fun b o e => (I.bs b o e).1
theorem Inv.mod (I : Inv X pins σ H s) : Mod X.K X.mg X.base := I.ok.mod
theorem Inv.kIn (I : Inv X pins σ H s) : X.K.In s.heap := I.ok.mod.kin.keeps I.bk
theorem Inv.nolimit (I : Inv X pins σ H s) : s.heap.NoLimit := I.ok.mod.nolimit.keeps I.bk
theorem Inv.fr (I : Inv X pins σ H s) : ∃ m, Fr X.base X.env.locals s.heap m :=
  let ⟨m, hn, _⟩ := I.loc
  ⟨m, hn, I.bk, Nat.le_trans I.ok.bsz I.ok.above⟩
theorem Inv.lt (I : Inv X pins σ H s) : X.env.locals < s.heap.objs.size := let ⟨_, hn, _⟩ := I.loc; hn.lt
theorem Inv.sz (I : Inv X pins σ H s) : X.s_0.heap.objs.size ≤ s.heap.objs.size := Nat.le_trans I.ok.above (Nat.le_of_lt I.lt)
theorem Inv.nofs (I : Inv X pins σ H s) {a : Addr} (h : s.heap.objs.size ≤ a) : a ∉ X.fs := fun hb => by
  obtain ⟨_, o, ho, _⟩ := I.ok.funs.mem hb
  exact absurd (Nat.lt_of_lt_of_le (Heap.lt_size ho) (Nat.le_trans I.sz h)) (Nat.lt_irrefl _)
theorem Inv.cne (I : Inv X pins σ H s) : ∀ x c, X.env.cells.lookup x = some c → c ≠ X.env.locals := fun x c e z => by
  obtain ⟨v, o, ho, hd⟩ := I.cell x c e
  obtain ⟨m, ⟨o', es, ep, ho', hd', _⟩, _⟩ := I.loc
  rw [z, ho'] at ho; cases ho; rw [hd'] at hd; cases hd
theorem Inv.funs (I : Inv X pins σ H s) : s.heap.FunFrames X.base X.outer := by
  have all : ∀ (l : List Env), (∀ b ∈ frs l, b ∈ X.fs) → X.s_0.heap.FunFrames X.base l → s.heap.FunFrames X.base l := by
    intro l
    induction l with
    | nil => intro _ _; trivial
    | cons env r ih =>
      intro hs hl
      obtain ⟨hk, ⟨L, o, hf, hn, ho, hd⟩, hr⟩ := hl
      have hL : L ∈ X.fs := hs L (by unfold frs; rw [List.filterMap_cons, hf]; exact List.mem_cons_self)
      obtain ⟨sl, e⟩ := I.base.slot L o ho (I.ok.frf L hL) hL fun z => I.ok.exfs L z hL
      exact ⟨hk, ⟨L, _, hf, hn, e, hd⟩, ih (fun b hb => hs b (by unfold frs; rw [List.filterMap_cons, hf]; exact List.mem_cons_of_mem _ hb)) hr⟩
  exact all X.outer (fun _ hb => hb) I.ok.funs
theorem Inv.stack (I : Inv X pins σ H s) : s.heap.FunFrames X.base X.stack := by
  rcases I.ok.stk with e | ⟨e, hf⟩
  · rw [e]; exact I.funs
  · rw [e]
    obtain ⟨m, hn, _⟩ := I.loc
    refine .cons (by rw [I.ok.kind]; decide) hf hn ?_ I.funs
    exact Heap.get?_none_of_le (Nat.le_trans I.ok.bsz I.ok.above)
theorem Inv.stkSub (I : Inv X pins σ H s) : ∀ b ∈ frs X.stack, b ∈ X.env.locals :: X.fs := fun b hb => by
  rcases I.ok.stk with e | ⟨e, hf⟩
  · rw [e] at hb; exact List.mem_cons_of_mem _ hb
  · rw [e] at hb
    unfold frs at hb
    rw [List.filterMap_cons, hf] at hb
    exact hb
theorem Inv.stkFree (I : Inv X pins σ H s) : ∀ b ∈ frs X.stack, H b = none := fun b hb => by
  rcases List.mem_cons.mp (I.stkSub b hb) with e | hb
  · rw [e]; exact I.free
  · obtain ⟨_, o, ho, _⟩ := I.ok.funs.mem hb
    exact I.base.free b o ho (I.ok.frf b hb) fun z => I.ok.exfs b z hb
theorem Inv.step {g' : Array GenState} {t' : Nat} {d' : Drawn} {ch : List Addr} (I : Inv X pins σ H s)
    (hch : ∀ b ∈ ch, (b ∈ X.ex ∨ X.s_0.heap.objs.size ≤ b) ∧ b ≠ X.env.locals ∧ (∀ x c, X.env.cells.lookup x = some c → c ≠ b) ∧ ∀ p ∈ X.pn ++ pins, p.1 ≠ b)
    (keep : ∀ b o, b ≠ X.env.locals → b ∉ X.fs → b ∉ ch → s.heap.get? b = some o → H b = none → h'.get? b = some o)
    (slot : ∀ b o, b ≠ X.env.locals → b ∈ X.fs → b ∉ ch → s.heap.get? b = some o → H b = none → ∃ sl, h'.get? b = some { o with slots := sl }) (free : ∀ b o, b ∉ ch → s.heap.get? b = some o → H b = none → H' b = none)
    (there : ∀ b o, b ∉ ch → s.heap.get? b = some o → ∃ o', h'.get? b = some o')
    (tups : ∀ b xs, H b = some (.tup xs) → H' b = some (.tup xs)) (frzs : ∀ b o u, H b = some (.frz o u) → H' b = some (.frz o u)) (tbls : ∀ b ps, H b = some (.tbl ps) → ∃ more, H' b = some (.tbl (ps ++ more)))
    (ns : ∀ m, s.heap.Ns X.env.locals m → h'.Ns X.env.locals m) (hok : HOk X.prog X.w H' h') (hg : AllBare g') :
    Inv X pins σ H' { s with heap := h', gens := g', drawn := d', toks := t' } := by
  have neL : ∀ b o, X.s_0.heap.get? b = some o → b ≠ X.env.locals := fun b o e => Nat.ne_of_lt (Nat.lt_of_lt_of_le (Heap.lt_size e) I.ok.above)
  have neC : ∀ b o, X.s_0.heap.get? b = some o → b ∉ X.ex → b ∉ ch := fun b o e hx hb => by
    rcases (hch b hb).1 with z | z
    · exact hx z
    · exact absurd (Nat.lt_of_lt_of_le (Heap.lt_size e) z) (Nat.lt_irrefl _)
  have cellK : ∀ x c, X.env.cells.lookup x = some c → ∀ v, s.heap.IsCell c v → h'.IsCell c v := fun x c e v ⟨o, ho, hd⟩ => by
    have nch : c ∉ ch := fun z => (hch c z).2.2.1 x c e rfl
    by_cases hc : c ∈ X.fs
    · obtain ⟨sl, q⟩ := slot c o (I.cne x c e) hc nch ho (I.freeC x c e)
      exact ⟨_, q, hd⟩
    · exact ⟨o, keep c o (I.cne x c e) hc nch ho (I.freeC x c e), hd⟩
  refine ⟨I.ok, I.os, hg, ⟨fun b o e n hb hx => ?_, fun b o e n hb hx => ?_, fun b o e n hx => ?_, fun b o e hx => ?_, fun b xs e => tups b xs (I.base.tups b xs e), fun b o xs e => frzs b o xs (I.base.frzs b o xs e), fun b ps e => ?_⟩, ?_, fun x c e => ?_, ?_, fun x c e => ?_, fun p hp => ?_, hok, I.len⟩
  · exact keep b o (neL b o e) hb (neC b o e hx) (I.base.keep b o e n hb hx) (I.base.free b o e n hx)
  · obtain ⟨sl, e1⟩ := I.base.slot b o e n hb hx
    obtain ⟨sl', e2⟩ := slot b _ (neL b o e) hb (neC b o e hx) e1 (I.base.free b o e n hx)
    exact ⟨sl', e2⟩
  · obtain ⟨o', e1⟩ := I.base.there b o e hx
    exact free b o' (neC b o e hx) e1 (I.base.free b o e n hx)
  · obtain ⟨o', e1⟩ := I.base.there b o e hx
    exact there b o' (neC b o e hx) e1
  · obtain ⟨m1, e1⟩ := I.base.tbls b ps e
    obtain ⟨m2, e2⟩ := tbls b _ e1
    exact ⟨m1 ++ m2, by rw [e2, Array.append_assoc]⟩
  · obtain ⟨m, hn, hl⟩ := I.loc
    refine ⟨m, ns m hn, fun i x v e1 e2 e3 => ?_⟩
    obtain ⟨u, r, l⟩ := hl i x v e1 e2 e3
    refine ⟨u, r, ?_⟩
    rcases l with l | ⟨k, c, e, z⟩
    · exact .inl l
    · exact .inr ⟨k, c, e, cellK x c e _ z⟩
  · obtain ⟨v, z⟩ := I.cell x c e
    exact ⟨v, cellK x c e v z⟩
  · obtain ⟨m, ⟨o, _, _, ho, _⟩, _⟩ := I.loc
    exact free _ o (fun z => (hch _ z).2.1 rfl) ho I.free
  · obtain ⟨v, o, ho, hd⟩ := I.cell x c e
    exact free c o (fun z => (hch c z).2.2.1 x c e rfl) ho (I.freeC x c e)
  · obtain ⟨e, n, ne, nf, d⟩ := I.pin p hp
    have nch : p.1 ∉ ch := fun z => (hch p.1 z).2.2.2 p hp rfl
    exact ⟨keep p.1 p.2 ne nf nch e n, free p.1 p.2 nch e n, ne, nf, d⟩
theorem Inv.un {t' : Nat} (I : Inv X pins σ H s) (u : Un X.fs [] H H' s.heap h') (hok : HOk X.prog X.w H' h') : Inv X pins σ H' { s with heap := h', toks := t' } := by
  obtain ⟨m, ⟨o, es, ep, ho, r⟩, _⟩ := id I.loc
  obtain ⟨sl, hL⟩ := u.any ho I.free (by simp)
  exact I.step (g' := s.gens) (d' := s.drawn) (ch := []) (fun _ z => nomatch z) (fun b o _ hb _ e n => u.keep b o e n hb (by simp)) (fun b o _ hb _ e n => u.slot b o e n hb (by simp)) (fun b o _ e n => u.free b o e n (by simp)) (fun b o _ e => u.there b o e (by simp)) u.tups u.frzs u.tbls (fun m' hm => by
    obtain ⟨o', es', ep', ho', r'⟩ := hm
    rw [ho] at ho'; cases ho'
    exact ⟨_, es', ep', hL, r'⟩) hok I.bare
theorem Inv.call {g' : Array GenState} {t' : Nat} {d' : Drawn} {ch : List Addr} (I : Inv X pins σ H s) (u : Un (frs X.stack) ch H H' s.heap h') (hok : HOk X.prog X.w H' h') (hg : AllBare g')
    (hch : ∀ b ∈ ch, (b ∈ X.ex ∨ X.s_0.heap.objs.size ≤ b) ∧ b ≠ X.env.locals ∧ (∀ x c, X.env.cells.lookup x = some c → c ≠ b) ∧ ∀ p ∈ X.pn ++ pins, p.1 ≠ b) :
    Inv X pins σ H' { s with heap := h', gens := g', drawn := d', toks := t' } := by
  obtain ⟨m, ⟨o, es, ep, ho, r⟩, _⟩ := id I.loc
  obtain ⟨sl, hL⟩ := u.any ho I.free fun z => (hch _ z).2.1 rfl
  exact I.step (ch := ch) hch (fun b o hL hb hc e n => u.keep b o e n (fun z => (List.mem_cons.mp (I.stkSub b z)).elim hL hb) hc) (fun b o _ _ hc e n => u.any e n hc) (fun b o hc e n => u.free b o e n hc) (fun b o hc e => u.there b o e hc) u.tups u.frzs u.tbls (fun m' hm => by
    obtain ⟨o', es', ep', ho', r'⟩ := hm
    rw [ho] at ho'; cases ho'
    exact ⟨_, es', ep', hL, r'⟩) hok hg
theorem Inv.turned {t' : Nat} {it : Addr} (I : Inv X pins σ H s) (k : ∀ b o, b ≠ it → s.heap.get? b = some o → h'.get? b = some o) (hn : H it = none) (hL : it ≠ X.env.locals)
    (h1 : it ∈ X.ex ∨ X.s_0.heap.objs.size ≤ it) (h2 : ∀ x c, X.env.cells.lookup x = some c → c ≠ it) (h3 : ∀ p ∈ X.pn ++ pins, p.1 ≠ it) : Inv X pins σ H { s with heap := h', toks := t' } := by
  have nit : ∀ b u, H b = some u → b ≠ it := fun b u e z => by rw [z, hn] at e; cases e
  refine I.step (g' := s.gens) (d' := s.drawn) (ch := [it]) (fun b hb => ?_) (fun b o _ _ hc e _ => k b o (fun z => hc (by simp [z])) e) (fun b o _ _ hc e _ => ⟨o.slots, k b o (fun z => hc (by simp [z])) e⟩) (fun _ _ _ _ n => n)
    (fun b o hc e => ⟨o, k b o (fun z => hc (by simp [z])) e⟩) (fun _ _ e => e) (fun _ _ _ e => e) (fun b ps e => ⟨#[], by rw [e]; simp⟩) (fun m hm => ?_) (fun b u e => ?_) I.bare
  · have e : b = it := by simpa using hb
    subst e
    exact ⟨h1, hL, h2, h3⟩
  · obtain ⟨o, es, ep, ho, r⟩ := hm
    exact ⟨o, es, ep, k _ o (Ne.symm hL) ho, r⟩
  · refine (I.hok b u e).stay (fun c v hc q => k c v ?_ q) (fun _ q => q) fun _ _ q => q
    rcases hc with z | z
    · rw [z]; exact nit b u e
    · exact nit c _ z
theorem Inv.tok (I : Inv X pins σ H s) (t : Nat) : Inv X pins σ H { s with toks := t } := I.un (h' := s.heap) (t' := t) Un.refl I.hok
theorem Inv.kept {t' : Nat} (I : Inv X pins σ H s) (k : ∀ b u, s.heap.get? b = some u → h'.get? b = some u) : Inv X pins σ H { s with heap := h', toks := t' } := I.un (Un.kept k) (I.hok.kept k)
theorem Inv.laid {a : Addr} {o : HO} {t' : Nat} (I : Inv X pins σ H s) (k : ∀ b u, s.heap.get? b = some u → h'.get? b = some u) (hp : s.heap.objs.size ≤ a) (new : ObjOk X.prog X.w (upd H a o) h' a o) :
    Inv X pins σ (upd H a o) { s with heap := h', toks := t' } := I.un (Un.laid k hp (I.hok.fresh hp)) (I.hok.laid k hp new)
theorem Inv.write {x e : Addr} {o : HO} {t' : Nat} (I : Inv X pins σ H s) (mu : Mut (H x)) (he : e = x ∨ H e = some (.own x)) (k : ∀ b u, b ≠ e → s.heap.get? b = some u → h'.get? b = some u) (heo : ∃ u, h'.get? e = some u)
    (new : ObjOk X.prog X.w (upd H x o) h' x o) : Inv X pins σ (upd H x o) { s with heap := h', toks := t' } := I.un (Un.write mu he k heo) (I.hok.write mu he k heo new)
theorem Inv.weak {σ' : List (Option V)} (I : Inv X pins σ H s) (hl : σ'.length = σ.length) (w : ∀ (i : Nat) v, σ'[i]? = some (some v) → σ[i]? = some (some v)) : Inv X pins σ' H s :=
  ⟨I.ok, I.os, I.bare, I.base, let ⟨m, hn, hl'⟩ := I.loc; ⟨m, hn, fun i x v e1 e2 e3 => hl' i x v e1 (w i v e2) e3⟩, I.cell, I.free, I.freeC, I.pin, I.hok, hl.trans I.len⟩
theorem Inv.pins_of {pins' : List (Addr × Obj)} (I : Inv X pins σ H s) (h : ∀ p ∈ pins', s.heap.get? p.1 = some p.2 ∧ H p.1 = none ∧ p.1 ≠ X.env.locals ∧ p.1 ∉ X.fs ∧ ∀ v, p.2.data ≠ .cell v) : Inv X pins' σ H s :=
  ⟨I.ok, I.os, I.bare, I.base, I.loc, I.cell, I.free, I.freeC, fun p hp => (List.mem_append.mp hp).elim (fun z => I.pin p (List.mem_append_left _ z)) (h p), I.hok, I.len⟩
theorem nodup_ix {N : List Str} (hN : N.Nodup) {i j : Nat} {x : Str} (a : N[i]? = some x) (b : N[j]? = some x) : i = j := by
  obtain ⟨h1, e1⟩ := List.getElem?_eq_some_iff.mp a
  obtain ⟨h2, e2⟩ := List.getElem?_eq_some_iff.mp b
  exact (List.getElem_inj hN).mp (e1.trans e2.symm)
theorem store_ok2 {M : Model} {A : Around} {E : Value → Shared → Prop} {i : Nat} {x : Str} {v : V} {u : Value} {Q : Unit → Shared → Prop} (I : Inv X pins σ H s) (hN : X.N.Nodup) (hi : X.N[i]? = some x) (hx : Loc X.env.scope x) (r : RelV v u)
    (h : ∀ s', Inv X pins (σ.set i (some v)) H s' → (∃ a, Heap.SameBut a s.heap s'.heap ∧ (a = X.env.locals ∨ X.env.cells.lookup x = some a)) → Q () s') (hf : X.fn x = true ∨ X.env.scope.names.lookup x = some .local := by first | exact .inl rfl | exact .inr rfl | assumption) : wpAny M A (storeName X.env x u) Q E s := by
  obtain ⟨m, hn, hl⟩ := id I.loc
  have hcls : (X.env.scope.kind == .class || (X.env.scope.kind == .module && X.env.locals != X.env.globals)) = false := by rw [I.ok.kind]; rfl
  have hiσ : i < σ.length := by rw [I.len]; exact (List.getElem?_eq_some_iff.mp hi).1
  have cne := I.cne
  have tracked : ∀ {a : Addr} {h' : Heap}, (∃ o, s.heap.get? a = some o ∧ H a = none) → Heap.SameBut a s.heap h' → HOk X.prog X.w H h' := fun {a h'} ha hs b ob e => by
    obtain ⟨_, _, hfree⟩ := ha
    refine (I.hok b ob e).stay (fun c w' hc q => (hs.2 c ?_).trans q) (fun _ q => q) fun _ _ q => q
    rintro rfl
    rcases hc with rfl | hc
    · rw [hfree] at e; cases e
    · rw [hfree] at hc; cases hc
  rcases hx with hk | hk
  · refine wpAny_storeName_local hk hn (fun h' hn' hs => ?_) hcls
    obtain ⟨oL, _, _, hoL, _⟩ := id hn
    refine h _ ⟨I.ok, I.os, I.bare, ⟨fun b o e n hb hx => ?_, fun b o e n hb hx => ?_, I.base.free, fun b o e hx => ?_, I.base.tups, I.base.frzs, I.base.tbls⟩, ⟨_, hn', fun j y v' e1 e2 e3 => ?_⟩, fun y c e => ?_, I.free, I.freeC, fun p hp => ?_, tracked ⟨oL, hoL, I.free⟩ hs, by simpa using I.len⟩ ⟨_, hs, .inl rfl⟩
    · exact (hs.2 b (Nat.ne_of_lt (Nat.lt_of_lt_of_le (Heap.lt_size e) I.ok.above))).trans (I.base.keep b o e n hb hx)
    · obtain ⟨sl, e1⟩ := I.base.slot b o e n hb hx
      exact ⟨sl, (hs.2 b (Nat.ne_of_lt (Nat.lt_of_lt_of_le (Heap.lt_size e) I.ok.above))).trans e1⟩
    · obtain ⟨o', e1⟩ := I.base.there b o e hx
      exact ⟨o', (hs.2 b (Nat.ne_of_lt (Nat.lt_of_lt_of_le (Heap.lt_size e) I.ok.above))).trans e1⟩
    · by_cases hj : j = i
      · subst hj
        rw [hi] at e1; cases e1
        rw [List.getElem?_set_self hiσ] at e2
        cases e2
        exact ⟨u, r, .inl ⟨hk, by simp⟩⟩
      · rw [List.getElem?_set_ne (Ne.symm hj)] at e2
        obtain ⟨u', r', q⟩ := hl j y v' e1 e2 e3
        refine ⟨u', r', ?_⟩
        rcases q with ⟨k, e⟩ | ⟨k, c, e, z⟩
        · refine .inl ⟨k, ?_⟩
          have : y ≠ x := fun e => hj (nodup_ix hN e1 (e ▸ hi))
          simp [this, e]
        · exact .inr ⟨k, c, e, z.sameBut hs (cne y c e)⟩
    · obtain ⟨w', z⟩ := I.cell y c e
      exact ⟨w', z.sameBut hs (cne y c e)⟩
    · obtain ⟨e, n, ne, nf, d⟩ := I.pin p hp
      exact ⟨(hs.2 p.1 ne).trans e, n, ne, nf, d⟩
  · have hfn : X.fn x = true := by
      rcases hf with z | z
      · exact z
      · rw [z] at hk; cases hk
    obtain ⟨c, hc⟩ := I.ok.has x (.inl hk)
    obtain ⟨w', z⟩ := I.cell x c hc
    refine wpAny_storeName_cell I.ok.kind hk hc z (fun h' hc' hs => ?_)
    obtain ⟨oc, hoc, hocd⟩ := id z
    refine h { s with heap := h' } ⟨I.ok, I.os, I.bare, ⟨fun b o e n hb hx => ?_, fun b o e n hb hx => ?_, I.base.free, fun b o e hx => ?_, I.base.tups, I.base.frzs, I.base.tbls⟩, ⟨m, hn.sameBut hs (Ne.symm (cne x c hc)), fun j y v' e1 e2 e3 => ?_⟩, fun y c' e => ?_, I.free, I.freeC, fun p hp => ?_, tracked ⟨oc, hoc, I.freeC x c hc⟩ hs, by simpa using I.len⟩ ⟨c, hs, .inr hc⟩
    · exact (hs.2 b (Nat.ne_of_lt (Nat.lt_of_lt_of_le (Heap.lt_size e) (I.ok.cab x c hfn hc)))).trans (I.base.keep b o e n hb hx)
    · obtain ⟨sl, e1⟩ := I.base.slot b o e n hb hx
      exact ⟨sl, (hs.2 b (Nat.ne_of_lt (Nat.lt_of_lt_of_le (Heap.lt_size e) (I.ok.cab x c hfn hc)))).trans e1⟩
    · obtain ⟨o', e1⟩ := I.base.there b o e hx
      exact ⟨o', (hs.2 b (Nat.ne_of_lt (Nat.lt_of_lt_of_le (Heap.lt_size e) (I.ok.cab x c hfn hc)))).trans e1⟩
    · by_cases hj : j = i
      · subst hj
        rw [hi] at e1; cases e1
        rw [List.getElem?_set_self hiσ] at e2
        cases e2
        exact ⟨u, r, .inr ⟨.inl hk, c, hc, hc'⟩⟩
      · rw [List.getElem?_set_ne (Ne.symm hj)] at e2
        obtain ⟨u', r', q⟩ := hl j y v' e1 e2 e3
        refine ⟨u', r', ?_⟩
        rcases q with q | ⟨k, c', e, z'⟩
        · exact .inl q
        · refine .inr ⟨k, c', e, z'.sameBut hs ?_⟩
          rintro rfl
          exact hj (nodup_ix hN e1 (I.ok.inj _ _ _ e hc ▸ hi))
    · by_cases hcc : c' = c
      · subst hcc; exact ⟨_, hc'⟩
      · obtain ⟨w2, z2⟩ := I.cell y c' e
        exact ⟨w2, z2.sameBut hs hcc⟩
    · obtain ⟨e, n, ne, nf, d⟩ := I.pin p hp
      refine ⟨(hs.2 p.1 ?_).trans e, n, ne, nf, d⟩
      intro q
      rw [q, hoc] at e
      have q' : oc = p.2 := Option.some.inj e
      exact d w' (by rw [← q']; exact hocd)
theorem store_ok {M : Model} {A : Around} {E : Value → Shared → Prop} {i : Nat} {x : Str} {v : V} {u : Value} {Q : Unit → Shared → Prop} (I : Inv X pins σ H s) (hN : X.N.Nodup) (hi : X.N[i]? = some x) (hx : Loc X.env.scope x) (r : RelV v u)
    (h : ∀ s', Inv X pins (σ.set i (some v)) H s' → Q () s') (hf : X.fn x = true ∨ X.env.scope.names.lookup x = some .local := by first | exact .inl rfl | exact .inr rfl | assumption) : wpAny M A (storeName X.env x u) Q E s :=
  store_ok2 I hN hi hx r (fun s' I' _ => h s' I') hf
theorem Inv.call' {s' : Shared} {ch : List Addr} (I : Inv X pins σ H s) (ho : s'.os = s.os) (u : Un (frs X.stack) ch H H' s.heap s'.heap) (hok : HOk X.prog X.w H' s'.heap) (hg : AllBare s'.gens)
    (hch : ∀ b ∈ ch, (b ∈ X.ex ∨ X.s_0.heap.objs.size ≤ b) ∧ b ≠ X.env.locals ∧ (∀ x c, X.env.cells.lookup x = some c → c ≠ b) ∧ ∀ p ∈ X.pn ++ pins, p.1 ≠ b) : Inv X pins σ H' s' := by
  obtain ⟨h', g', d', t', o'⟩ := s'
  have e : o' = s.os := ho
  subst e
  exact I.call (g' := g') (t' := t') (d' := d') u hok hg hch
end
abbrev XK := Value → Option Addr → Hp → Prop
abbrev St := List (Option V)
abbrev VK := V → Hp → Prop
abbrev TE := St → Hp → VK → Prop
abbrev TT := St → Hp → (Bool → Hp → Prop) → Prop
abbrev TA := St → Hp → (List V → Hp → Prop) → Prop
structure Ends where
  nx : St → Hp → Prop
  rt : VK
  bk : St → Hp → Prop := fun _ _ => False
  ct : St → Hp → Prop := fun _ _ => False
abbrev TS := Ends → St → Hp → Prop
def EP (X : Cx) (pins : List (Addr × Obj)) (σ : St) (Q : VK) (u : Value) (s' : Shared) : Prop := ∃ v H', Inv X pins σ H' s' ∧ RelV v u ∧ Q v H'
def TP (X : Cx) (pins : List (Addr × Obj)) (σ : St) (Q : Bool → Hp → Prop) (b : Bool) (s' : Shared) : Prop := ∃ H', Inv X pins σ H' s' ∧ Q b H'
def AP (X : Cx) (pins : List (Addr × Obj)) (σ : St) (Q : List V → Hp → Prop) (us : List Value) (s' : Shared) : Prop := ∃ vs H', Inv X pins σ H' s' ∧ Vals vs us ∧ Q vs H'
def SP (X : Cx) (pins : List (Addr × Obj)) (D : Ends) (f : Flow) (s' : Shared) : Prop :=
  match f with
  | .next => ∃ σ' H', Inv X pins σ' H' s' ∧ D.nx σ' H'
  | .brk => ∃ σ' H', Inv X pins σ' H' s' ∧ D.bk σ' H'
  | .cont => ∃ σ' H', Inv X pins σ' H' s' ∧ D.ct σ' H'
  | .ret u => ∃ v σ' H', Inv X pins σ' H' s' ∧ RelV v u ∧ D.rt v H'
def PE (X : Cx) (e : Expr) (t : TE) : Prop :=
  ∀ (pins : List (Addr × Obj)) (s : Shared) (σ : St) (H : Hp) (Q : VK), Inv X pins σ H s → t σ H Q → wpAny (model X.prog X.w) X.A (eval e X.env) (EP X pins σ Q) X.xe s
def PT (X : Cx) (e : Expr) (t : TT) : Prop :=
  ∀ (pins : List (Addr × Obj)) (s : Shared) (σ : St) (H : Hp) (Q : Bool → Hp → Prop), Inv X pins σ H s → t σ H Q → wpAny (model X.prog X.w) X.A (isTrue e X.env (eval e X.env)) (TP X pins σ Q) X.xe s
def PW (X : Cx) (e : Expr) (t : TT) : Prop :=
  ∀ (whole : Sem Value) (pins : List (Addr × Obj)) (s : Shared) (σ : St) (H : Hp) (Q : Bool → Hp → Prop), Inv X pins σ H s → t σ H Q → wpAny (model X.prog X.w) X.A (isTrue e X.env whole) (TP X pins σ Q) X.xe s
theorem PW.pt {X : Cx} {e : Expr} {t : TT} (h : PW X e t) : PT X e t := h _
def PA (X : Cx) (es : List Expr) (t : TA) : Prop :=
  ∀ (pos : Pos) (pins : List (Addr × Obj)) (s : Shared) (σ : St) (H : Hp) (Q : List V → Hp → Prop), Inv X pins σ H s → t σ H Q → wpAny (model X.prog X.w) X.A (spliced (backTo pos (starEach es X.env))) (AP X pins σ Q) X.xe s
def PS (X : Cx) (st : Stmt) (t : TS) : Prop :=
  ∀ (pins : List (Addr × Obj)) (s : Shared) (σ : St) (H : Hp) (D : Ends), Inv X pins σ H s → t D σ H → wpAny (model X.prog X.w) X.A (exec st X.env) (SP X pins D) X.xe s
def PSs (X : Cx) (st : List Stmt) (t : TS) : Prop :=
  ∀ (pins : List (Addr × Obj)) (s : Shared) (σ : St) (H : Hp) (D : Ends), Inv X pins σ H s → t D σ H → wpAny (model X.prog X.w) X.A (execs st X.env) (SP X pins D) X.xe s
theorem thn {α : Type} {t : Sem α} {Q Q' : α → Shared → Prop} {M : Model} {A : Around} {E : Value → Shared → Prop} {s : Shared} (h : wpAny M A t Q E s) (hQ : ∀ a s, Q a s → Q' a s) : wpAny M A t Q' E s := wpAny_mono h hQ fun _ _ x => x
end L2
namespace L2
open PySem PySem.Spec PyProof.Rows
section
variable {X : Cx}
def tVar (i : Nat) : TE := fun σ H Q => ∃ v, σ[i]? = some (some v) ∧ Q v H
def tC (v : V) : TE := fun _ H Q => Q v H
theorem pe_var {i : Nat} {x : Str} {pos : Pos} (hN : X.N[i]? = some x) (hv : Vis X.env.scope x) (hd : (x == ("__debug__" : Str)) = false := by decide) (hcd : (x == ("__classdict__" : Str)) = false := by decide) : PE X (.Name x pos) (tVar i) := by
  intro pins s σ H Q I h
  obtain ⟨v, e, h⟩ := h
  obtain ⟨m, hn, hl⟩ := I.loc
  obtain ⟨u, r, l⟩ := hl i x v hN e hv
  have fin : EP X pins σ Q u s := ⟨v, H, I, r, h⟩
  rcases l with ⟨hk, hm⟩ | ⟨hk, c, hc, hcell⟩
  · exact wpAny_Name (wpAny_loadName_local I.ok.kind hk hn hm fin) hd
  · rcases hk with hk | hk
    · exact wpAny_Name (wpAny_loadName_cell I.ok.kind hk hc hcell fin) hd
    · exact wpAny_Name (wpAny_loadName_free I.ok.kind hk hc hcell fin hcd) hd
theorem pe_int {i j pos} : PE X (.Constant (.int i) j pos) (tC (.int i)) := fun _ _ _ H _ I h => wpAny_Constant_int ⟨.int i, H, I.tok _, ⟨_, rfl⟩, h⟩
theorem pe_bl {b j pos} : PE X (.Constant (.bool b) j pos) (tC (.bl b)) := fun _ _ _ H _ I h => Constant_bool ⟨.bl b, H, I, rfl, h⟩
theorem pe_non {j pos} : PE X (.Constant .none j pos) (tC .non) := fun _ _ _ H _ I h => Constant_none ⟨.non, H, I, rfl, h⟩
theorem pe_str {x j pos} : PE X (.Constant (.str x) j pos) (tC (.str x)) := fun _ _ _ H _ I h => Calls.Constant_str ⟨.str x, H, I.tok _, ⟨_, rfl⟩, h⟩
def Gl (X : Cx) (x : Str) : Prop := X.env.kindOf x = some .globalImplicit
theorem ld_glob {E : Value → Shared → Prop} {pins : List (Addr × Obj)} {s : Shared} {σ : St} {H : Hp} {x : Str} {u : Value} {pos : Pos} {Q : Value → Shared → Prop} (I : Inv X pins σ H s) (hg : Gl X x) (hm : X.mg x = some u) (h : Q u s)
    (hd : (x == ("__debug__" : Str)) = false := by decide) : wpAny (model X.prog X.w) X.A (eval (.Name x pos) X.env) Q E s :=
  Calls.Name_function_global I.ok.kind hg (Calls.loadGlobal_global (by rw [I.ok.glob]; exact I.mod.glob.keeps I.bk) hm h) hd
theorem ld_blt {E : Value → Shared → Prop} {pins : List (Addr × Obj)} {s : Shared} {σ : St} {H : Hp} {x : Str} {u : Value} {pos : Pos} {Q : Value → Shared → Prop} (I : Inv X pins σ H s) (hg : Gl X x) (hm : X.mg x = none) (hv : bootBuiltins x = some u) (h : Q u s)
    (hn : x ≠ "__name__" := by decide) (hd : (x == ("__debug__" : Str)) = false := by decide) : wpAny (model X.prog X.w) X.A (eval (.Name x pos) X.env) Q E s := by
  obtain ⟨mb, h1, h2⟩ := I.mod.blt
  exact Calls.Name_function_global I.ok.kind hg (Calls.loadGlobal_builtin (by rw [I.ok.glob]; exact I.mod.glob.keeps I.bk) hm (by rw [I.ok.blt]; exact h1.keeps I.bk) ((h2 x hn).trans hv) h) hd
theorem pe_glob {x : Str} {v : V} {u : Value} {pos : Pos} (hg : Gl X x) (hm : X.mg x = some u) (r : RelV v u) (hd : (x == ("__debug__" : Str)) = false := by decide) : PE X (.Name x pos) (tC v) :=
  fun _ _ _ H _ I h => ld_glob I hg hm ⟨v, H, I, r, h⟩ hd
theorem pe_bltn {x : Str} {v : V} {u : Value} {pos : Pos} (hg : Gl X x) (hm : X.mg x = none) (hv : bootBuiltins x = some u) (r : RelV v u) (hn : x ≠ "__name__" := by decide) (hd : (x == ("__debug__" : Str)) = false := by decide) : PE X (.Name x pos) (tC v) :=
  fun _ _ _ H _ I h => ld_blt I hg hm hv ⟨v, H, I, r, h⟩ hn hd
variable {a b : Expr} {ta tb : TE} {pos : Pos}
variable {tA tB' : TT} {rest : List Expr}
def tOr (t u : TT) : TT := fun σ H Q => t σ H fun c H1 => if c = true then Q true H1 else u σ H1 Q
def tNot (t : TT) : TT := fun σ H Q => t σ H fun c H1 => Q (!c) H1
theorem pw_or1 (ha : PT X a tA) : PW X (.BoolOp .Or [a] pos) tA := by
  intro wh pins s σ H Q I h
  refine isTrue_or (thn (ha pins s σ H Q I h) fun c s1 e => ?_)
  cases c with
  | false => exact isTrue_or_nil e
  | true => exact e
theorem pw_or (ha : PT X a tA) (hb : PW X (.BoolOp .Or (b :: rest) pos) tB') : PW X (.BoolOp .Or (a :: b :: rest) pos) (tOr tA tB') := by
  intro wh pins s σ H Q I h
  refine isTrue_or (thn (ha pins s σ H _ I h) fun c s1 ⟨H1, I1, q1⟩ => ?_)
  cases c with
  | true => exact ⟨H1, I1, q1⟩
  | false => exact hb wh pins s1 σ H1 Q I1 q1
theorem pt_not (ha : PT X a tA) : PT X (.UnaryOp .Not a pos) (tNot tA) := by
  intro pins s σ H Q I h
  exact isTrue_not (ha pins s σ H (fun c H1 => Q (!c) H1) I h)
def tAndV (ta tb : TE) : TE := fun σ H Q => ta σ H fun x H1 => ∃ c, x = .bl c ∧ if c = true then tb σ H1 Q else Q (.bl false) H1
def tNotV (ta : TE) : TE := fun σ H Q => ta σ H fun x H1 => ∃ c, x = .bl c ∧ Q (.bl (!c)) H1
theorem pe_one {op} {t : TE} (h : PE X a t) : PE X (.BoolOp op [a] pos) t := fun pins s σ H Q I hw => BoolOp_one (h pins s σ H Q I hw)
theorem pe_and (ha : PE X a ta) (hb : PE X (.BoolOp .And (b :: rest) pos) tb) : PE X (.BoolOp .And (a :: b :: rest) pos) (tAndV ta tb) := by
  intro pins s σ H Q I h
  refine BoolOp_and (thn (ha pins s σ H _ I h) fun v s1 ⟨x, H1, I1, r1, q1⟩ => ?_)
  obtain ⟨c, rfl, q1⟩ := q1
  cases r1
  refine wpAny_truthy_bool ?_
  cases c with
  | true => exact hb pins s1 σ H1 Q I1 q1
  | false => exact ⟨.bl false, H1, I1, rfl, q1⟩
theorem pe_not (ha : PE X a ta) : PE X (.UnaryOp .Not a pos) (tNotV ta) := by
  intro pins s σ H Q I h
  refine UnaryOp_ (thn (ha pins s σ H _ I h) fun v s1 ⟨x, H1, I1, r1, q1⟩ => ?_)
  obtain ⟨c, rfl, q1⟩ := q1
  cases r1
  exact not_of (wpAny_truthy_bool ⟨.bl (!c), H1, I1, rfl, q1⟩)
def tIf (t : TT) (ta tb : TE) : TE := fun σ H Q => t σ H fun c H1 => if c = true then ta σ H1 Q else tb σ H1 Q
theorem pe_ifExp {c : Expr} (hc : PT X c tA) (ha : PE X a ta) (hb : PE X b tb) : PE X (.IfExp c a b pos) (tIf tA ta tb) := by
  intro pins s σ H Q I h
  refine wpAny_IfExp (thn (hc pins s σ H _ I h) fun d s1 ⟨H1, I1, q1⟩ => ?_)
  cases d with
  | true => exact ha pins s1 σ H1 Q I1 q1
  | false => exact hb pins s1 σ H1 Q I1 q1
end
end L2
namespace L2
open PySem PySem.Spec PyProof.Rows
def SqL (K : PySem.W.Frag) (H : Hp) (a : Addr) (xs : List V) : Prop :=
  Rd H a (.lst xs) ∨
    ∃ (o : Obj) (its : Array Value) (n : Nat), K.lookup a = some o ∧ o.cls = .type "list" ∧ o.dict = none ∧ o.data = .seq its n ∧ its.size ≤ sizeLine ∧ Vals xs its.toList
def SqT (K : PySem.W.Frag) (H : Hp) (a : Addr) (xs : List V) : Prop :=
  H a = some (.tup xs) ∨
    ∃ (o : Obj) (its : Array Value) (n : Nat), K.lookup a = some o ∧ o.cls = .type "tuple" ∧ o.dict = none ∧ o.data = .seq its n ∧ its.size ≤ sizeLine ∧ Vals xs its.toList
def absV : Value → Option V
  | .none => some .non
  | .bool b => some (.bl b)
  | .int i _ => some (.int i)
  | .str x _ => some (.str x)
  | .bytes b _ => some (.byt b)
  | .float b _ => some (.flt b)
  | .ref a => some (.ref a)
  | .type n => some (.ty n)
  | _ => none
theorem RelV.abs {x : V} {u : Value} (r : RelV x u) : absV u = some x := by
  cases x with
  | non => cases r; rfl
  | bl _ => cases r; rfl
  | int _ => obtain ⟨t, rfl⟩ := r; rfl
  | str _ => obtain ⟨t, rfl⟩ := r; rfl
  | byt _ => obtain ⟨t, rfl⟩ := r; rfl
  | flt _ => obtain ⟨t, rfl⟩ := r; rfl
  | ref _ => cases r; rfl
  | ty _ => cases r; rfl
theorem RelV.inj {x y : V} {u : Value} (r : RelV x u) (q : RelV y u) : x = y := Option.some.inj (r.abs.symm.trans q.abs)
theorem Vals.inj : ∀ {xs ys : List V} {us : List Value}, Vals xs us → Vals ys us → xs = ys
  | _, _, _, .nil, .nil => rfl
  | _, _, _, .cons r t, .cons r' t' => by rw [r.inj r', Vals.inj t t']
section
variable {X : Cx} {pins : List (Addr × Obj)} {σ : St} {H : Hp} {s : Shared} {a : Addr} {xs ys : List V}
theorem SqL.of {K : PySem.W.Frag} (h : H a = some (.lst xs)) : SqL K H a xs := .inl (.inl h)
theorem SqT.of {K : PySem.W.Frag} (h : H a = some (.tup xs)) : SqT K H a xs := .inl h
theorem Inv.list (I : Inv X pins σ H s) (h : SqL X.K H a xs) : ∃ its : List Value, Vals xs its ∧ PlainL s.heap a its.toArray ∧ xs.length ≤ sizeLine := by
  rcases h with h | ⟨o, its, n, hk, hc, hd, hs, hz, r⟩
  · obtain ⟨z, its, n, r, e⟩ := h.ok I.hok
    exact ⟨its, r, ⟨_, n, e, rfl, rfl, rfl⟩, z⟩
  · refine ⟨its.toList, r, ⟨o, n, I.kIn a o hk, hc, hd, by simpa using hs⟩, ?_⟩
    have e := r.length
    simp only [Array.length_toList] at e
    omega
theorem Inv.tuple (I : Inv X pins σ H s) (h : SqT X.K H a xs) : ∃ its : List Value, Vals xs its ∧ IsTup s.heap a its.toArray ∧ xs.length ≤ sizeLine := by
  rcases h with h | ⟨o, its, n, hk, hc, _, hs, hz, r⟩
  · obtain ⟨z, its, r, p⟩ := Rd.ok (.inl h) I.hok
    exact ⟨its, r, p.tup, z⟩
  · refine ⟨its.toList, r, ⟨o, I.kIn a o hk, hc, n, by simpa using hs⟩, ?_⟩
    have e := r.length
    simp only [Array.length_toList] at e
    omega
theorem Inv.list_inj (I : Inv X pins σ H s) (h : SqL X.K H a xs) (h' : SqL X.K H a ys) : xs = ys := by
  obtain ⟨its, r, ⟨o, n, e, _, _, d⟩, _⟩ := I.list h
  obtain ⟨its', r', ⟨o', n', e', _, _, d'⟩, _⟩ := I.list h'
  rw [e] at e'; cases e'
  rw [d] at d'
  injection d' with d1 _
  have : its = its' := by simpa using congrArg Array.toList d1
  subst this
  exact r.inj r'
theorem Inv.tuple_inj (I : Inv X pins σ H s) (h : SqT X.K H a xs) (h' : SqT X.K H a ys) : xs = ys := by
  obtain ⟨its, r, ⟨o, e, _, n, d⟩, _⟩ := I.tuple h
  obtain ⟨its', r', ⟨o', e', _, n', d'⟩, _⟩ := I.tuple h'
  rw [e] at e'; cases e'
  rw [d] at d'
  injection d' with d1 _
  have : its = its' := by simpa using congrArg Array.toList d1
  subst this
  exact r.inj r'
end
abbrev Cx.wish (X : Cx) (E : Value → Shared → Prop) : Cx := { X with xe := E }
abbrev Cx.nox (X : Cx) : Cx := X.wish fun _ _ => False
theorem Cx.Ok.wish {X : Cx} (ok : X.Ok) (E : Value → Shared → Prop) : (X.wish E).Ok :=
  ⟨ok.mod, ok.kind, ok.glob, ok.blt, ok.above, ok.inj, ok.has, ok.cab, ok.hd, ok.frames, ok.stk, ok.exf, ok.bs, ok.bsz, ok.noex, ok.exfs, ok.funs, ok.frf⟩
theorem Cx.Ok.unwish {X : Cx} {E : Value → Shared → Prop} (ok : (X.wish E).Ok) : X.Ok :=
  ⟨ok.mod, ok.kind, ok.glob, ok.blt, ok.above, ok.inj, ok.has, ok.cab, ok.hd, ok.frames, ok.stk, ok.exf, ok.bs, ok.bsz, ok.noex, ok.exfs, ok.funs, ok.frf⟩
section
variable {X : Cx} {pins : List (Addr × Obj)} {σ : St} {H : Hp} {s : Shared} {E : Value → Shared → Prop}
theorem Inv.wish (I : Inv X pins σ H s) (E : Value → Shared → Prop) : Inv (X.wish E) pins σ H s := ⟨I.ok.wish E, I.os, I.bare, I.base, I.loc, I.cell, I.free, I.freeC, I.pin, I.hok, I.len⟩
theorem Inv.unwish (I : Inv (X.wish E) pins σ H s) : Inv X pins σ H s := ⟨I.ok.unwish, I.os, I.bare, I.base, I.loc, I.cell, I.free, I.freeC, I.pin, I.hok, I.len⟩
theorem SP.unwish {D : Ends} {f : Flow} {s' : Shared} (h : SP (X.wish E) pins D f s') : SP X pins D f s' := by
  cases f with
  | next => obtain ⟨σ', H', I, q⟩ := h; exact ⟨σ', H', I.unwish, q⟩
  | brk => obtain ⟨σ', H', I, q⟩ := h; exact ⟨σ', H', I.unwish, q⟩
  | cont => obtain ⟨σ', H', I, q⟩ := h; exact ⟨σ', H', I.unwish, q⟩
  | ret u => obtain ⟨v, σ', H', I, r, q⟩ := h; exact ⟨v, σ', H', I.unwish, r, q⟩
theorem PE.nox {e : Expr} {t : TE} (h : PE X.nox e t) : PE X e t := fun pins s σ H Q I hw =>
  wpAny_mono (h pins s σ H Q (I.wish _) hw) (fun _ _ ⟨v, H', I', r, q⟩ => ⟨v, H', I'.unwish, r, q⟩) fun _ _ z => False.elim z
theorem PT.nox {e : Expr} {t : TT} (h : PT X.nox e t) : PT X e t := fun pins s σ H Q I hw =>
  wpAny_mono (h pins s σ H Q (I.wish _) hw) (fun _ _ ⟨H', I', q⟩ => ⟨H', I'.unwish, q⟩) fun _ _ z => False.elim z
theorem PSs.nox {st : List Stmt} {t : TS} (h : PSs X.nox st t) : PSs X st t := fun pins s σ H D I hw =>
  wpAny_mono (h pins s σ H D (I.wish _) hw) (fun _ _ q => q.unwish) fun _ _ z => False.elim z
end
section
variable {X : Cx} {st : Stmt} {rest : List Stmt} {t u : TS} {e : Expr} {te : TE} {pos : Pos}
def tNext : TS := fun D σ H => D.nx σ H
def tSeq (t u : TS) : TS := fun D σ H => t { D with nx := u D } σ H
theorem pss_nil : PSs X [] tNext := fun _ _ σ H _ I h => wpAny_execs_nil ⟨σ, H, I, h⟩
theorem pss_cons (h1 : PS X st t) (h2 : PSs X rest u) : PSs X (st :: rest) (tSeq t u) := by
  intro pins s σ H D I h
  refine wpAny_execs_cons (thn (h1 pins s σ H { D with nx := u D } I h) fun f s1 q => ?_)
  cases f with
  | next =>
    obtain ⟨σ', H', I', q⟩ := q
    exact h2 pins s1 σ' H' D I' q
  | ret v => exact q
  | brk => exact q
  | cont => exact q
theorem pss_one (h1 : PS X st t) : PSs X [st] t := by
  intro pins s σ H D I h
  refine wpAny_execs_cons (thn (h1 pins s σ H D I h) fun f s1 q => ?_)
  cases f with
  | next => exact wpAny_execs_nil q
  | ret v => exact q
  | brk => exact q
  | cont => exact q
theorem Inv.quiet {pins : List (Addr × Obj)} {σ : St} {H : Hp} {s : Shared} (I : Inv X pins σ H s) : interactive X.env = false := by simp [interactive, I.ok.kind]
def tDrop (te : TE) : TS := fun D σ H => te σ H fun _ H1 => D.nx σ H1
theorem ps_expr (he : PE X e te) (hs : swapsWith e none pos.line X.env = pure false := by rfl) : PS X (.Expr e pos) (tDrop te) := by
  intro pins s σ H D I h
  exact wpAny_Expr_any (thn (he pins s σ H _ I h) fun v s1 ⟨x, H1, I1, r1, q1⟩ => ⟨σ, H1, I1, q1⟩) I.quiet hs
def tRet (te : TE) : TS := fun D σ H => te σ H D.rt
theorem ps_ret (he : PE X e te) : PS X (.Return (some e) pos) (tRet te) := by
  intro pins s σ H D I h
  exact wpAny_Return_some (thn (he pins s σ H _ I h) fun v s1 ⟨x, H1, I1, r1, q1⟩ => ⟨x, σ, H1, I1, r1, q1⟩)
def tIfS (c : TT) (t u : TS) : TS := fun D σ H => c σ H fun b H1 => if b = true then t D σ H1 else u D σ H1
theorem ps_if {c : Expr} {a b : List Stmt} {tc : TT} (hc : PT X c tc) (ha : PSs X a t) (hb : PSs X b u) : PS X (.If c a b pos) (tIfS tc t u) := by
  intro pins s σ H D I h
  refine wpAny_If (thn (hc pins s σ H _ I h) fun d s1 ⟨H1, I1, q1⟩ => ?_)
  cases d with
  | true => exact ha pins s1 σ H1 D I1 q1
  | false => exact hb pins s1 σ H1 D I1 q1
end
abbrev TG := V → St → Hp → (St → Hp → Prop) → Prop
abbrev TGs := List V → St → Hp → (St → Hp → Prop) → Prop
def PG (X : Cx) (target : Expr) (t : TG) : Prop :=
  ∀ (pins : List (Addr × Obj)) (s : Shared) (σ : St) (H : Hp) (v : V) (u : Value) (Q : St → Hp → Prop), Inv X pins σ H s → RelV v u → t v σ H Q →
    wpAny (model X.prog X.w) X.A (assign target X.env u) (fun _ s' => ∃ σ' H', Inv X pins σ' H' s' ∧ Q σ' H') X.xe s
def PGs (X : Cx) (ts : List Expr) (t : TGs) : Prop :=
  ∀ (pins : List (Addr × Obj)) (s : Shared) (σ : St) (H : Hp) (vs : List V) (us : List Value) (Q : St → Hp → Prop), Inv X pins σ H s → Vals vs us → t vs σ H Q →
    wpAny (model X.prog X.w) X.A (assignInOrder ((assignEach ts X.env).map (·.2)) us) (fun _ s' => ∃ σ' H', Inv X pins σ' H' s' ∧ Q σ' H') X.xe s
section
variable {X : Cx} {pos : Pos}
def gName (i : Nat) : TG := fun v σ H Q => Q (σ.set i (some v)) H
theorem pg_name {i : Nat} {x : Str} (hN : X.N.Nodup) (hi : X.N[i]? = some x) (hx : Loc X.env.scope x) (hf : X.fn x = true ∨ X.env.scope.names.lookup x = some .local := by first | exact .inl rfl | exact .inr rfl | assumption) : PG X (.Name x pos) (gName i) := by
  intro pins s σ H v u Q I r h
  exact wpAny_assign_Name (store_ok I hN hi hx r (fun s' I' => ⟨_, H, I', h⟩) hf)
def gNil : TGs := fun vs σ H Q => vs = [] ∧ Q σ H
def gCons (t : TG) (u : TGs) : TGs := fun vs σ H Q => ∃ v r, vs = v :: r ∧ t v σ H fun σ' H' => u r σ' H' Q
theorem pgs_nil : PGs X [] gNil := by
  intro pins s σ H vs us Q I r h
  obtain ⟨e, h⟩ := h
  subst e
  cases r
  exact assignInOrder_nil ⟨σ, H, I, h⟩
theorem pgs_cons {e : Expr} {es : List Expr} {t : TG} {u : TGs} (h1 : PG X e t) (h2 : PGs X es u)
    (hs : (assignEach (e :: es) X.env).map (·.2) = assign e X.env :: (assignEach es X.env).map (·.2) := by rfl) : PGs X (e :: es) (gCons t u) := by
  intro pins s σ H vs us Q I r h
  obtain ⟨v, vr, e1, h⟩ := h
  subst e1
  cases r with
  | cons r rr =>
    rw [hs]
    refine assignInOrder_cons (thn (h1 pins s σ H _ _ _ I r h) fun _ s1 ⟨σ1, H1, I1, q1⟩ => ?_)
    exact h2 pins s1 σ1 H1 _ _ Q I1 rr q1
def gTup (K : PySem.W.Frag) (n : Nat) (t : TGs) : TG := fun v σ H Q => ∃ a xs, v = .ref a ∧ SqT K H a xs ∧ xs.length = n ∧ t xs σ H Q
theorem pg_tup {es : List Expr} {k : Nat} {t : TGs} {n : Nat} (hc : X.calm = true) (h : PGs X es t)
    (hn : (assignEach es X.env).length = n := by rfl) (hst : (assignEach es X.env).findIdx? (·.1) = none := by rfl) : PG X (.Tuple es k pos) (gTup X.K n t) := by
  intro pins s σ H v u Q I r hw
  obtain ⟨a, xs, e1, hq, hl, hw⟩ := hw
  subst e1
  cases r
  obtain ⟨its, rv, ht, hz⟩ := I.tuple hq
  refine assign_Tuple_tuple (I.ok.hd hc) ht (by simp [hn, ← hl, rv.length]) hst fun h' hx => ?_
  have I1 : Inv X pins σ H { s with heap := h' } := I.kept (t' := s.toks) fun b o e => hx b o (Nat.ne_of_lt (Heap.lt_size e)) e
  exact h pins _ σ H xs _ Q I1 (by simpa using rv) hw
def tAsg (te : TE) (g : TG) : TS := fun D σ H => te σ H fun x H1 => g x σ H1 D.nx
theorem ps_asg {tg e : Expr} {te : TE} {g : TG} (he : PE X e te) (hg : PG X tg g) (hs : swapsWithSole [tg] e pos.line X.env = pure false := by rfl) (hw : swappedStores [tg] e X.env = pure none := by rfl)
    (h1 : (assignEach [tg] X.env).map (·.2) = [assign tg X.env] := by rfl) : PS X (.Assign [tg] e pos) (tAsg te g) := by
  intro pins s σ H D I h
  refine wpAny_Assign_stores (thn (he pins s σ H _ I h) fun v s1 ⟨x, H1, I1, r1, q1⟩ => ?_) hs hw
  rw [h1]
  exact thn (hg pins s1 σ H1 x v _ I1 r1 q1) fun _ s2 q => q
theorem ps_set {i : Nat} {x : Str} {e : Expr} {te : TE} {pos' : Pos} (hN : X.N.Nodup) (hi : X.N[i]? = some x) (hx : Loc X.env.scope x) (he : PE X e te) (hs : swapsWith e (some (.Name x pos')) pos.line X.env = pure false := by rfl) (hf : X.fn x = true ∨ X.env.scope.names.lookup x = some .local := by first | exact .inl rfl | exact .inr rfl | assumption) :
    PS X (.Assign [.Name x pos'] e pos) (tAsg te (gName i)) := by
  intro pins s σ H D I h
  refine wpAny_Assign_Name (thn (he pins s σ H _ I h) fun v s1 ⟨y, H1, I1, r1, q1⟩ => ?_) hs
  exact store_ok I1 hN hi hx r1 (fun s2 I2 => ⟨_, H1, I2, q1⟩) hf
end
section
variable {X : Cx} {pos : Pos}
end
structure It where
  go : Nat → Hp → Prop
  yld : Nat → Hp → V → Hp → Prop
  stop : Nat → Hp → Prop
def FpOk (X : Cx) (pins : List (Addr × Obj)) (H : Hp) (b : Addr) : Prop :=
  H b = none ∧ b ≠ X.env.locals ∧ b ∉ X.fs ∧ (b ∈ X.ex ∨ X.s_0.heap.objs.size ≤ b) ∧ (∀ x c, X.env.cells.lookup x = some c → c ≠ b) ∧ ∀ p ∈ X.pn ++ pins, p.1 ≠ b
theorem Inv.fpOk {X : Cx} {pins : List (Addr × Obj)} {σ : St} {H H' : Hp} {s : Shared} {b : Addr} (I : Inv X pins σ H s) (hb : s.heap.objs.size ≤ b) (hn : H' b = none) : FpOk X pins H' b := by
  refine ⟨hn, Nat.ne_of_gt (Nat.lt_of_lt_of_le I.lt hb), I.nofs hb, .inr (Nat.le_trans I.sz hb), fun x c e z => ?_, fun p hp z => ?_⟩
  · obtain ⟨v, q⟩ := I.cell x c e
    exact absurd (Nat.lt_of_lt_of_le q.lt (by rw [z]; exact hb)) (Nat.lt_irrefl _)
  · exact absurd (Nat.lt_of_lt_of_le (Heap.lt_size (I.pin p hp).1) (by rw [z]; exact hb)) (Nat.lt_irrefl _)
structure Turn (P : Program) (w : World) (K : PySem.W.Frag) (tg : Expr) (J : It) (fp : List Addr) (it : Addr) (tn : Nat → Heap → Prop) : Prop where
  mem : it ∈ fp
  obj : ∀ i h, tn i h → ∀ b ∈ fp, ∃ o, h.get? b = some o ∧ ∀ v, o.data ≠ .cell v
  keep : ∀ i h h', tn i h → (∀ b ∈ fp, ∀ o, h.get? b = some o → h'.get? b = some o) → tn i h'
  item : ∀ (X : Cx), X.prog = P → X.w = w → X.K = K → X.calm = true → ∀ (i : Nat) (pins : List (Addr × Obj)) (s : Shared) (σ : St) (H : Hp) (E : Value → Shared → Prop), Inv X pins σ H s → (∀ b ∈ fp, FpOk X pins H b) → tn i s.heap → J.go i H →
    wpAny (model P w) X.A (pyNext (.ref it)) (fun r s1 => ∃ u, r = some u ∧
      wpAny (model P w) X.A (letOwnedTupleGo tg (.ref it) u) (fun _ s2 => ∃ x H', Inv X pins σ H' s2 ∧ RelV x u ∧ J.yld i H x H' ∧ tn (i + 1) s2.heap ∧ ∀ b ∈ fp, H' b = none) E s1) E s
  done : ∀ (X : Cx), X.prog = P → X.w = w → X.K = K → X.calm = true → ∀ (i : Nat) (pins : List (Addr × Obj)) (s : Shared) (σ : St) (H : Hp) (E : Value → Shared → Prop), Inv X pins σ H s → (∀ b ∈ fp, FpOk X pins H b) → tn i s.heap → J.stop i H →
    wpAny (model P w) X.A (pyNext (.ref it)) (fun r s1 => r = none ∧ Inv X pins σ H s1) E s
  self : ∀ (A : Around) (i : Nat) (s : Shared) (Q : Value → Shared → Prop) (E : Value → Shared → Prop), tn i s.heap → Q (.ref it) s → wpAny (model P w) A (pyIter (.ref it)) Q E s
abbrev TI := St → Hp → (It → Hp → Prop) → Prop
def PIE (X : Cx) (pins : List (Addr × Obj)) (σ : St) (tg : Expr) (R : It → Hp → Prop) (itv : Value) (s2 : Shared) : Prop :=
  ∃ (it : Addr) (fp : List Addr) (tn : Nat → Heap → Prop) (J : It) (H' : Hp), itv = .ref it ∧ Inv X pins σ H' s2 ∧ Turn X.prog X.w X.K tg J fp it tn ∧ tn 0 s2.heap ∧ (∀ b ∈ fp, FpOk X pins H' b) ∧ R J H'
def PI (X : Cx) (tg iter : Expr) (wi : TI) : Prop :=
  ∀ (pins : List (Addr × Obj)) (s : Shared) (σ : St) (H : Hp) (R : It → Hp → Prop), Inv X pins σ H s → wi σ H R →
    wpAny (model X.prog X.w) X.A (eval iter X.env) (fun v s1 => wpAny (model X.prog X.w) X.A (pyIter v) (PIE X pins σ tg R) X.xe s1) X.xe s
theorem go_of {M : Model} {A : Around} {E : Value → Shared → Prop} {s : Shared} {tg : Expr} {it : Addr} {u : Value} {o : Obj} {n : String} {vs : Array Value} {Q : Unit → Shared → Prop} (ho : s.heap.get? it = some o) (hc : o.cls = .type n) (hd : o.data = .fields vs)
    (hn : ["enumerate", "zip", "dict_itemiterator", "dict_reverseitemiterator", "odict_iterator", "itertools.zip_longest", "itertools.pairwise"].contains n = false) (hQ : Q () s) : wpAny M A (letOwnedTupleGo tg (.ref it) u) Q E s := by
  unfold letOwnedTupleGo
  cases tg <;> first
    | exact wpAny_pure hQ
    | (cases u <;> first
        | exact wpAny_pure hQ
        | (refine wpAny_bind (wpAny_load ho ?_)
           rw [hc, hd]
           show wpAny M A (if (["enumerate", "zip", "dict_itemiterator", "dict_reverseitemiterator", "odict_iterator", "itertools.zip_longest", "itertools.pairwise"].contains n && vs[0]? == some (rawInt _)) = true then _ else _) Q E s
           rw [if_neg (by intro h; rw [hn, Bool.false_and] at h; cases h)]
           exact wpAny_pure hQ))
def Itl (K : PySem.W.Frag) (a : Addr) : It :=
  ⟨fun i H => ∃ xs x, SqL K H a xs ∧ xs[i]? = some x, fun i H x H' => H' = H ∧ ∀ xs, SqL K H a xs → xs[i]? = some x, fun i H => ∃ xs, SqL K H a xs ∧ xs.length ≤ i⟩
def Itt (K : PySem.W.Frag) (a : Addr) : It :=
  ⟨fun i H => ∃ xs x, SqT K H a xs ∧ xs[i]? = some x, fun i H x H' => H' = H ∧ ∀ xs, SqT K H a xs → xs[i]? = some x, fun i H => ∃ xs, SqT K H a xs ∧ xs.length ≤ i⟩
def Itr (lo : Int) (n : Nat) : It := ⟨fun i _ => i < n, fun i H x H' => H' = H ∧ x = .int (lo + i), fun i _ => n ≤ i⟩
theorem turn_list {P : Program} {w : World} {K : PySem.W.Frag} {tg : Expr} (a it : Addr) : Turn P w K tg (Itl K a) [it] it (fun i h => h.IsListIter it a i) where
  mem := by simp
  obj := fun i h st b hb => by
    have e : b = it := by simpa using hb
    subst e
    obtain ⟨o, e, c, d⟩ := st
    exact ⟨o, e, fun v z => by rw [d] at z; cases z⟩
  keep := fun i h h' st k => st.at fun o e => k it (by simp) o e
  item := by
    intro X hP hw hK hc i pins s σ H E I hf st hg
    subst hP hw hK
    obtain ⟨xs, x, hq, hx⟩ := hg
    obtain ⟨its, rv, p, hz⟩ := I.list hq
    obtain ⟨u, hu, ru⟩ := rv.get hx
    obtain ⟨f0, f1, f2, f3, f4, f5⟩ := hf it (by simp)
    refine wpAny_pyNext_list_item st p.isList (x := u) (by simpa using hu) fun h' st' sb => ?_
    have I1 : Inv X pins σ H { s with heap := h' } := I.turned (t' := s.toks) (fun b o hb e => (sb.2 b hb).trans e) f0 f1 f3 f4 f5
    obtain ⟨o, e, c, d⟩ := id st'
    exact ⟨u, rfl, go_of (s := { s with heap := h' }) e c d (by decide) ⟨x, H, I1, ru, ⟨rfl, fun ys hy => by rw [I.list_inj hy hq]; exact hx⟩, st', fun b hb => (hf b hb).1⟩⟩
  done := by
    intro X hP hw hK hc i pins s σ H E I hf st hg
    subst hP hw hK
    obtain ⟨xs, hq, hx⟩ := hg
    obtain ⟨its, rv, p, hz⟩ := I.list hq
    obtain ⟨f0, f1, f2, f3, f4, f5⟩ := hf it (by simp)
    have hl := rv.length
    exact wpAny_pyNext_list_end (I.ok.hd hc) st p.isList (by simp; omega) fun h' eb => ⟨rfl, I.turned (t' := s.toks) (fun b o hb e => eb b o hb e) f0 f1 f3 f4 f5⟩
  self := fun _ _ _ _ _ st h => wpAny_pyIter_listiter st h
theorem turn_tuple {P : Program} {w : World} {K : PySem.W.Frag} {tg : Expr} (a it : Addr) : Turn P w K tg (Itt K a) [it] it (fun i h => h.IsTupleIter it a i) where
  mem := by simp
  obj := fun i h st b hb => by
    have e : b = it := by simpa using hb
    subst e
    obtain ⟨o, e, c, d⟩ := st
    exact ⟨o, e, fun v z => by rw [d] at z; cases z⟩
  keep := fun i h h' st k => st.at fun o e => k it (by simp) o e
  item := by
    intro X hP hw hK hc i pins s σ H E I hf st hg
    subst hP hw hK
    obtain ⟨xs, x, hq, hx⟩ := hg
    obtain ⟨its, rv, p, hz⟩ := I.tuple hq
    obtain ⟨u, hu, ru⟩ := rv.get hx
    obtain ⟨f0, f1, f2, f3, f4, f5⟩ := hf it (by simp)
    refine wpAny_pyNext_tuple_item st (show s.heap.IsTuple a its.toArray from p) (x := u) (by simpa using hu) fun h' st' sb => ?_
    have I1 : Inv X pins σ H { s with heap := h' } := I.turned (t' := s.toks) (fun b o hb e => (sb.2 b hb).trans e) f0 f1 f3 f4 f5
    obtain ⟨o, e, c, d⟩ := id st'
    exact ⟨u, rfl, go_of (s := { s with heap := h' }) e c d (by decide) ⟨x, H, I1, ru, ⟨rfl, fun ys hy => by rw [I.tuple_inj hy hq]; exact hx⟩, st', fun b hb => (hf b hb).1⟩⟩
  done := by
    intro X hP hw hK hc i pins s σ H E I hf st hg
    subst hP hw hK
    obtain ⟨xs, hq, hx⟩ := hg
    obtain ⟨its, rv, p, hz⟩ := I.tuple hq
    obtain ⟨f0, f1, f2, f3, f4, f5⟩ := hf it (by simp)
    have hl := rv.length
    exact wpAny_pyNext_tuple_end (I.ok.hd hc) st (show s.heap.IsTuple a its.toArray from p) (by simp; omega) fun h' eb => ⟨rfl, I.turned (t' := s.toks) (fun b o hb e => eb b o hb e) f0 f1 f3 f4 f5⟩
  self := fun _ _ _ _ _ st h => wpAny_pyIter_tupleiter st h
theorem turn_range {P : Program} {w : World} {K : PySem.W.Frag} {tg : Expr} (it : Addr) (lo : Int) (n : Nat) : Turn P w K tg (Itr lo n) [it] it (fun i h => IsRangeIter h it (lo + (i : Nat) * 1) ((n : Int) - (i : Nat)) 1) where
  mem := by simp
  obj := fun i h st b hb => by
    have e : b = it := by simpa using hb
    subst e
    exact ⟨_, st, fun v z => by
      have z' : Data.fields _ = Data.cell v := z
      cases z'⟩
  keep := fun i h h' st k => k it (by simp) _ st
  item := by
    intro X hP hw hK hc i pins s σ H E I hf st hg
    subst hP hw hK
    obtain ⟨f0, f1, f2, f3, f4, f5⟩ := hf it (by simp)
    have W := Walks.range (prog := X.prog) (w := X.w) (I.ok.hd hc) it lo 1 n
    refine W.item i s _ _ hg st fun v h' tk hv st' kk => ?_
    obtain ⟨t, rfl⟩ := hv
    have I1 : Inv X pins σ H { s with heap := h', toks := tk } := I.turned (fun b o hb e => kk b o (by simpa using hb) e) f0 f1 f3 f4 f5
    refine ⟨_, rfl, go_of (s := { s with heap := h', toks := tk }) (n := "range_iterator") st' rfl rfl (by decide) ⟨.int (lo + i), H, I1, ⟨t, ?_⟩, ⟨rfl, rfl⟩, st', fun b hb => (hf b hb).1⟩⟩
    rw [Int.mul_one]
  done := by
    intro X hP hw hK hc i pins s σ H E I hf st hg
    subst hP hw hK
    obtain ⟨f0, f1, f2, f3, f4, f5⟩ := hf it (by simp)
    exact wpAny_pyNext_range_end (I.ok.hd hc) st (by have : n ≤ i := hg; omega) fun h' eb => ⟨rfl, I.turned (t' := s.toks) (fun b o hb e => eb b o hb e) f0 f1 f3 f4 f5⟩
  self := fun _ _ _ _ _ st h => wpAny_pyIter_rangeiter st h
end L2
namespace L2
open PySem PySem.Spec PyProof.Rows
section
variable {X : Cx} {tg : Expr}
theorem range_it {pins : List (Addr × Obj)} {σ : St} {H : Hp} {s : Shared} {R : It → Hp → Prop} {E : Value → Shared → Prop} {lo hi : Int} {t u v : Tok} {tk : Nat} (I : Inv X pins σ H s) (h1 : -(2 ^ 62) ≤ lo) (h2 : lo < 2 ^ 62) (h3 : -(2 ^ 62) ≤ hi) (h4 : hi < 2 ^ 62)
    (q : R (Itr lo (hi - lo).toNat) H) : wpAny (model X.prog X.w) X.A (pyIter (.ref s.heap.objs.size)) (PIE X pins σ tg R) E { s with heap := s.heap.push { cls := .type "range", data := .fields #[.int lo t, .int hi u, .int 1 v] }, toks := tk } := by
  refine wpAny_pyIter_range (IsRange.new ..) (small_one h1 h2 h3 h4) ?_
  have I1 : Inv X pins σ H { s with heap := s.heap.push { cls := .type "range", data := .fields #[.int lo t, .int hi u, .int 1 v] }, toks := tk } := I.kept fun b o e => Heap.get?_push_of_some _ e
  refine ⟨(s.heap.push { cls := .type "range", data := .fields #[.int lo t, .int hi u, .int 1 v] }).objs.size, [(s.heap.push { cls := .type "range", data := .fields #[.int lo t, .int hi u, .int 1 v] }).objs.size], _, _, H, rfl,
    I1.kept (t' := tk) fun b o e => Heap.get?_push_of_some _ e, turn_range _ lo (hi - lo).toNat, ?_, fun b hb => ?_, q⟩
  · have e1 : lo + ((0 : Nat) : Int) * 1 = lo := by simp
    have e2 : (((hi - lo).toNat : Nat) : Int) - ((0 : Nat) : Int) = Builtin.Range.rangeSize lo hi 1 := by rw [rangeSize_one]; split <;> omega
    show IsRangeIter _ _ (lo + ((0 : Nat) : Int) * 1) ((((hi - lo).toNat : Nat) : Int) - ((0 : Nat) : Int)) 1
    rw [e1, e2]
    exact Heap.get?_push_size _ rfl
  · have e : b = (s.heap.push { cls := .type "range", data := .fields #[.int lo t, .int hi u, .int 1 v] }).objs.size := by simpa using hb
    subst e
    exact I1.fpOk (Nat.le_refl _) (I1.hok.fresh (Nat.le_refl _))
def iRng1 (ta : TA) : TI := fun σ H R => ta σ H fun vs H1 => ∃ j : Int, vs = [.int j] ∧ -(2 ^ 62) ≤ j ∧ j < 2 ^ 62 ∧ R (Itr 0 j.toNat) H1
theorem pi_range1 {a : Expr} {ta : TA} {p pos : Pos} (hg : Gl X "range") (hm : X.mg "range" = none) (ha : PA X [a] ta) (hs : starEach [a] X.env = [(false, eval a X.env)] := by rfl) : PI X tg (.Call (.Name "range" p) [a] [] pos) (iRng1 ta) := by
  intro pins s σ H R I h
  refine Call_ (ld_blt I hg hm boot_range (PyProof.Rows.callWith_type1 (thn (ha pos pins s σ H _ I h) fun us s1 ⟨vs, H1, I1, r1, q1⟩ => ?_) hs rfl))
  obtain ⟨j, e, q1, q2, q⟩ := q1
  subst e
  cases r1 with
  | cons r rr =>
    cases rr
    obtain ⟨t, rfl⟩ := r
    exact call_range_1 (range_it I1 (by omega) (by omega) q1 q2 (by simpa using q))
def tFor (wi : TI) (g : TG) (tb : TS) : TS := fun D σ H => wi σ H fun J H1 => ∃ W : Nat → Nat → St → Hp → Prop, (∃ m, W 0 m σ H1) ∧ ∀ i m σ H, W i m σ H →
  (J.stop i H ∧ D.nx σ H) ∨ (J.go i H ∧ ∃ N : St → Hp → Prop, (∀ σ' H', N σ' H' → ∃ m', m' < m ∧ W (i + 1) m' σ' H') ∧ ∀ x H', J.yld i H x H' → g x σ H' fun σ2 H2 => tb { D with nx := N, ct := N, bk := D.nx } σ2 H2)
def pinsAt (fp : List Addr) (h : Heap) : List (Addr × Obj) := fp.filterMap fun b => (h.get? b).map fun o => (b, o)
theorem mem_pinsAt {fp : List Addr} {h : Heap} {b : Addr} {o : Obj} (hb : b ∈ fp) (e : h.get? b = some o) : (b, o) ∈ pinsAt fp h := List.mem_filterMap.mpr ⟨b, hb, by rw [e]; rfl⟩
theorem of_pinsAt {fp : List Addr} {h : Heap} {p : Addr × Obj} (hp : p ∈ pinsAt fp h) : p.1 ∈ fp ∧ h.get? p.1 = some p.2 := by
  obtain ⟨b, hb, e⟩ := List.mem_filterMap.mp hp
  cases q : h.get? b with
  | none => rw [q] at e; cases e
  | some o =>
    rw [q] at e
    have e' : (b, o) = p := Option.some.inj e
    subst e'
    exact ⟨hb, q⟩
theorem Inv.pinned {pins : List (Addr × Obj)} {σ : St} {H : Hp} {s : Shared} {fp : List Addr} (I : Inv X pins σ H s) (hf : ∀ b ∈ fp, FpOk X pins H b) (ho : ∀ b ∈ fp, ∃ o, s.heap.get? b = some o ∧ ∀ v, o.data ≠ .cell v) : Inv X (pins ++ pinsAt fp s.heap) σ H s :=
  I.pins_of fun p hp => (List.mem_append.mp hp).elim (fun z => I.pin p (List.mem_append_right _ z)) fun z => by
    obtain ⟨hb, e⟩ := of_pinsAt z
    obtain ⟨f0, f1, f2, _⟩ := hf p.1 hb
    obtain ⟨o, e', d⟩ := ho p.1 hb
    rw [e] at e'; cases e'
    exact ⟨e, f0, f1, f2, d⟩
theorem Inv.unpinned {pins pl : List (Addr × Obj)} {σ : St} {H : Hp} {s : Shared} (I : Inv X (pins ++ pl) σ H s) : Inv X pins σ H s := I.pins_of fun p hp => I.pin p (List.mem_append_right _ (List.mem_append_left _ hp))
theorem ps_for {iter : Expr} {body : List Stmt} {wi : TI} {g : TG} {tb : TS} {pos : Pos} (hp : PassesOwn (model X.prog X.w) X.A X.env X.xe) (hc : X.calm = true) (hi : PI X tg iter wi) (hg : PG X tg g) (hb : PSs X body tb)
    (hs : ∀ x, foldedSetIterable iter X.env x = pure x := by intro _; rfl) : PS X (.For tg iter body [] pos) (tFor wi g tb) := by
  intro pins s σ H D I h
  refine wpAny_For (thn (hi pins s σ H _ I h) fun v s1 h1 => thn h1 fun itv s2 h2 => ?_) hs
  obtain ⟨it, fp, tn, J, H2, e, I2, T, st2, f2, W, ⟨m0, w0⟩, turn⟩ := h2
  subst e
  -- what stays true of the iterator's objects through the loop
  have stat : ∀ {H' : Hp}, (∀ b ∈ fp, H' b = none) → ∀ b ∈ fp, FpOk X pins H' b := fun hn b hb => ⟨hn b hb, (f2 b hb).2⟩
  refine codeAny_forLoop_any (fun n s' => ∃ i σ' H', Inv X pins σ' H' s' ∧ tn i s'.heap ∧ (∀ b ∈ fp, H' b = none) ∧ W i n σ' H') ?_ m0 ⟨0, σ, H2, I2, st2, fun b hb => (f2 b hb).1, w0⟩
  rintro n s3 ⟨i, σ3, H3, I3, st3, fr3, w3⟩
  rcases turn i n σ3 H3 w3 with ⟨stop, qn⟩ | ⟨go, N, hN, step⟩
  · refine wpAny_passesOwn hp (thn (T.done X rfl rfl rfl hc i pins s3 σ3 H3 X.xe I3 (stat fr3) st3 stop) fun r s4 ⟨hr, I4⟩ => ?_)
    subst hr
    exact wpAny_execs_nil ⟨σ3, H3, I4, qn⟩
  · refine wpAny_passesOwn hp (thn (T.item X rfl rfl rfl hc i pins s3 σ3 H3 X.xe I3 (stat fr3) st3 go) fun r s4 ⟨u, hr, h4⟩ => ?_)
    subst hr
    refine wpAny_passesOwn hp (thn h4 fun _ s5 ⟨x, H5, I5, r5, y5, st5, fr5⟩ => ?_)
    have I5' := I5.pinned (stat fr5) (T.obj _ _ st5)
    refine wpAny_passesOwn hp (thn (hg _ s5 σ3 H5 x u _ I5' r5 (step x H5 y5)) fun _ s6 ⟨σ6, H6, I6, q6⟩ => ?_)
    refine wpAny_passesOwn hp (thn (hb _ s6 σ6 H6 _ I6 q6) fun f s7 q7 => ?_)
    have again : ∀ {σ7 : St} {H7 : Hp}, Inv X (pins ++ pinsAt fp s5.heap) σ7 H7 s7 → N σ7 H7 → ∃ m, m < n ∧ ∃ i σ' H', Inv X pins σ' H' s7 ∧ tn i s7.heap ∧ (∀ b ∈ fp, H' b = none) ∧ W i m σ' H' := fun {σ7 H7} I7 n7 => by
      obtain ⟨m', hm, w7⟩ := hN σ7 H7 n7
      refine ⟨m', hm, i + 1, σ7, H7, I7.unpinned, T.keep _ _ _ st5 fun b hb o e => (I7.pin (b, o) (List.mem_append_right _ (List.mem_append_right _ (mem_pinsAt hb e)))).1, fun b hb => ?_, w7⟩
      obtain ⟨o, e, d⟩ := T.obj _ _ st5 b hb
      exact (I7.pin (b, o) (List.mem_append_right _ (List.mem_append_right _ (mem_pinsAt hb e)))).2.1
    cases f with
    | next => obtain ⟨σ7, H7, I7, n7⟩ := q7; exact again I7 n7
    | cont => obtain ⟨σ7, H7, I7, n7⟩ := q7; exact again I7 n7
    | brk => obtain ⟨σ7, H7, I7, q7⟩ := q7; exact ⟨σ7, H7, I7.unpinned, q7⟩
    | ret v => obtain ⟨x7, σ7, H7, I7, r7, q7⟩ := q7; exact ⟨x7, σ7, H7, I7.unpinned, r7, q7⟩
end
end L2
namespace L2
open PySem PySem.Spec PyProof.Rows
abbrev R2 := V → V → Hp → VK → Prop
def OpR (X : Cx) (f : Value → Value → Sem Value) (r : R2) : Prop :=
  ∀ (pins : List (Addr × Obj)) (s : Shared) (σ : St) (H : Hp) (x y : V) (v u : Value) (Q : VK), Inv X pins σ H s → RelV x v → RelV y u → r x y H Q →
    wpAny (model X.prog X.w) X.A (f v u) (EP X pins σ Q) X.xe s
def CallR (X : Cx) (f : Value) (r : List V → Hp → VK → Prop) : Prop :=
  ∀ (pins : List (Addr × Obj)) (s : Shared) (σ : St) (H : Hp) (xs : List V) (us : List Value) (Q : VK), Inv X pins σ H s → Vals xs us → r xs H Q →
    wpAny (model X.prog X.w) X.A (call f us) (EP X pins σ Q) X.xe s
def TruR (X : Cx) (r : V → Hp → (Bool → Hp → Prop) → Prop) : Prop :=
  ∀ (pins : List (Addr × Obj)) (s : Shared) (σ : St) (H : Hp) (x : V) (v : Value) (Q : Bool → Hp → Prop), Inv X pins σ H s → RelV x v → r x H Q →
    wpAny (model X.prog X.w) X.A (truthy v) (TP X pins σ Q) X.xe s
def tOp (r : R2) (ta tb : TE) : TE := fun σ H Q => ta σ H fun x H1 => tb σ H1 fun y H2 => r x y H2 Q
def rI (C : Int → Int → Prop) (g : Int → Int → V) : R2 := fun x y H Q => ∃ i j, x = .int i ∧ y = .int j ∧ C i j ∧ Q (g i j) H
def rI0 (g : Int → Int → V) : R2 := fun x y H Q => ∃ i j, x = .int i ∧ y = .int j ∧ Q (g i j) H
section
variable {X : Cx} {a b c : Expr} {ta tb tc : TE} {pos : Pos}
theorem binT (ha : PE X a ta) (hb : PE X b tb) {pins : List (Addr × Obj)} {s : Shared} {σ : St} {H : Hp} {R : V → V → Hp → Prop} (I : Inv X pins σ H s)
    (h : ta σ H fun x H1 => tb σ H1 fun y H2 => R x y H2) {Q : Value → Shared → Prop} {f : Value → Value → Sem Value}
    (hf : ∀ v u s2 x y H2, Inv X pins σ H2 s2 → RelV x v → RelV y u → R x y H2 → wpAny (model X.prog X.w) X.A (f v u) Q X.xe s2) :
    wpAny (model X.prog X.w) X.A (eval a X.env) (fun v s₁ => wpAny (model X.prog X.w) X.A (eval b X.env) (fun u s₂ => wpAny (model X.prog X.w) X.A (f v u) Q X.xe s₂) X.xe s₁) X.xe s := by
  refine thn (ha pins s σ H _ I h) fun v s1 ⟨x, H1, I1, r1, q1⟩ => ?_
  refine thn (hb pins s1 σ H1 _ I1 q1) fun u s2 ⟨y, H2, I2, r2, q2⟩ => ?_
  exact hf v u s2 x y H2 I2 r1 r2 q2
theorem pe_op {op : Operator} {r : R2} (ho : OpR X (binaryOp op) r) (ha : PE X a ta) (hb : PE X b tb) : PE X (.BinOp a op b pos) (tOp r ta tb) := by
  intro pins s σ H Q I h
  exact wpAny_BinOp (binT ha hb I h fun v u s2 x y H2 I2 rx ry q => ho pins s2 σ H2 x y v u Q I2 rx ry q)
theorem opI {f : Value → Value → Sem Value} {C : Int → Int → Prop} {g : Int → Int → Int}
    (rule : ∀ (i j : Int) (t u : Tok) (s : Shared) (Q : Value → Shared → Prop) (E : Value → Shared → Prop), C i j → Q (.int (g i j) s.toks) { s with toks := s.toks + 1 } → wpAny (model X.prog X.w) X.A (f (.int i t) (.int j u)) Q E s) :
    OpR X f (rI C fun i j => .int (g i j)) := by
  intro pins s σ H x y v u Q I rx ry h
  obtain ⟨i, j, rfl, rfl, hc, q⟩ := h
  obtain ⟨t, rfl⟩ := rx
  obtain ⟨t', rfl⟩ := ry
  exact rule i j t t' s _ _ hc ⟨.int (g i j), H, I.tok _, ⟨_, rfl⟩, q⟩
theorem opI0 {f : Value → Value → Sem Value} {g : Int → Int → Int}
    (rule : ∀ (i j : Int) (t u : Tok) (s : Shared) (Q : Value → Shared → Prop) (E : Value → Shared → Prop), Q (.int (g i j) s.toks) { s with toks := s.toks + 1 } → wpAny (model X.prog X.w) X.A (f (.int i t) (.int j u)) Q E s) :
    OpR X f (rI0 fun i j => .int (g i j)) := by
  intro pins s σ H x y v u Q I rx ry h
  obtain ⟨i, j, rfl, rfl, q⟩ := h
  obtain ⟨t, rfl⟩ := rx
  obtain ⟨t', rfl⟩ := ry
  exact rule i j t t' s _ _ ⟨.int (g i j), H, I.tok _, ⟨_, rfl⟩, q⟩
theorem opB0 {f : Value → Value → Sem Value} {g : Int → Int → Bool}
    (rule : ∀ (i j : Int) (t u : Tok) (s : Shared) (Q : Value → Shared → Prop) (E : Value → Shared → Prop), Q (.bool (g i j)) s → wpAny (model X.prog X.w) X.A (f (.int i t) (.int j u)) Q E s) :
    OpR X f (rI0 fun i j => .bl (g i j)) := by
  intro pins s σ H x y v u Q I rx ry h
  obtain ⟨i, j, rfl, rfl, q⟩ := h
  obtain ⟨t, rfl⟩ := rx
  obtain ⟨t', rfl⟩ := ry
  exact rule i j t t' s _ _ ⟨.bl (g i j), H, I, rfl, q⟩
def CDiv (i j : Int) : Prop := 0 < j ∧ j < 1073741824
def CMul (i j : Int) : Prop := (-(2 ^ 64) < i ∧ i < 2 ^ 64) ∨ (-(2 ^ 64) < j ∧ j < 2 ^ 64)
theorem CMul.ok {i j : Int} (h : CMul i j) : IntMulOk i j := by
  rcases h with ⟨h1, h2⟩ | ⟨h1, h2⟩
  · exact .of_left (intBits_le_64 h1 h2)
  · exact .of_right (intBits_le_64 h1 h2)
theorem op_add : OpR X (binaryOp .Add) (rI0 fun i j => .int (i + j)) := opI0 fun _ _ _ _ _ _ _ q => add_int q
theorem op_sub : OpR X (binaryOp .Sub) (rI0 fun i j => .int (i - j)) := opI0 fun _ _ _ _ _ _ _ q => sub_int q
theorem op_mul : OpR X (binaryOp .Mult) (rI CMul fun i j => .int (i * j)) := opI fun _ _ _ _ _ _ _ hc q => mul_int q hc.ok
theorem op_fdiv : OpR X (binaryOp .FloorDiv) (rI CDiv fun i j => .int (i / j)) := opI fun i j _ _ _ _ _ hc q => by
  have h1 : (0 : Int) < j := hc.1
  have h2 : j < 1073741824 := hc.2
  exact floordiv_int (by omega) (by rw [Int.fdiv_eq_ediv_of_nonneg i (by omega)]; exact q) (.inl (PyProof.noPylong_small (by omega)))
theorem op_mod : OpR X (binaryOp .Mod) (rI (fun _ j => 0 < j) fun i j => .int (i % j)) := opI fun i j _ _ _ _ _ hc q => by
  have h1 : (0 : Int) < j := hc
  exact mod_int' (by omega) (by rw [Int.fmod_eq_emod_of_nonneg i (by omega)]; exact q)
end
section
variable {X : Cx} {a b c : Expr} {ta tb tc : TE} {pos : Pos}
theorem fin_bl {pins : List (Addr × Obj)} {σ : St} {H : Hp} {s : Shared} {Q : VK} {k k' : Bool} (I : Inv X pins σ H s) (q : Q (.bl k) H) (e : k = k') : EP X pins σ Q (.bool k') s := by
  subst e
  exact ⟨.bl k, H, I, rfl, q⟩
theorem op_lt : OpR X (compareOp .Lt) (rI0 fun i j => .bl (decide (i < j))) := opB0 fun _ _ _ _ _ _ _ q => lt_int q
theorem op_le : OpR X (compareOp .LtE) (rI0 fun i j => .bl (decide (i ≤ j))) := opB0 fun _ _ _ _ _ _ _ q => le_int q
theorem OpR.or {f : Value → Value → Sem Value} {r r' : R2} (h : OpR X f r) (h' : OpR X f r') : OpR X f (fun x y H Q => r x y H Q ∨ r' x y H Q) := by
  intro pins s σ H x y v u Q I rx ry q
  rcases q with q | q
  · exact h pins s σ H x y v u Q I rx ry q
  · exact h' pins s σ H x y v u Q I rx ry q
theorem nomark (b : Expr) {op : CmpOp} (h : op ≠ .In := by decide) (h2 : op ≠ .NotIn := by decide) : behindInMarks op b = false := by
  have e1 : (op == CmpOp.In) = false := by cases op <;> first | rfl | exact absurd rfl h
  have e2 : (op == CmpOp.NotIn) = false := by cases op <;> first | rfl | exact absurd rfl h2
  cases b <;> simp [behindInMarks, e1, e2]
theorem pe_cmpR {op : CmpOp} {r : R2} (ho : OpR X (compareOp op) r) (ha : PE X a ta) (hb : PE X b tb) (hm : behindInMarks op b = false) : PE X (.Compare a [op] [b] pos) (tOp r ta tb) := by
  intro pins s σ H Q I h
  exact wpAny_Compare1 (binT ha hb I h fun v u s2 x y H2 I2 rx ry q => ho pins s2 σ H2 x y v u Q I2 rx ry q) hm
def tTest (t : TE) : TT := fun σ H Q => t σ H fun x H' => ∃ k, x = .bl k ∧ Q k H'
theorem pt_cmpR {op : CmpOp} {r : R2} (ho : OpR X (compareOp op) r) (ha : PE X a ta) (hb : PE X b tb) (hm : behindInMarks op b = false) : PT X (.Compare a [op] [b] pos) (tTest (tOp r ta tb)) := by
  intro pins s σ H Q I h
  refine wpAny_isTrue_Compare1 (thn (ha pins s σ H _ I h) fun v s1 ⟨x, H1, I1, r1, q1⟩ => thn (hb pins s1 σ H1 _ I1 q1) fun u s2 ⟨y, H2, I2, r2, q2⟩ =>
    thn (ho pins s2 σ H2 x y v u _ I2 r1 r2 q2) fun c s3 ⟨z, H3, I3, r3, k, e, q3⟩ => ?_) hm
  subst e
  cases r3
  exact wpAny_truthy_bool ⟨H3, I3, q3⟩
def tChain (r r' : R2) (ta tb tc : TE) : TE := fun σ H Q => ta σ H fun x H1 => tb σ H1 fun y H2 => r x y H2 fun z H3 => ∃ k, z = .bl k ∧
  (if k = true then tc σ H3 fun w' H4 => r' y w' H4 Q else Q (.bl false) H3)
theorem pe_chain {op op' : CmpOp} {r r' : R2} (ho : OpR X (compareOp op) r) (ho' : OpR X (compareOp op') r') (ha : PE X a ta) (hb : PE X b tb) (hc : PE X c tc)
    (hm : lastMarks [op, op'] [b, c] = false := by with_unfolding_all rfl) : PE X (.Compare a [op, op'] [b, c] pos) (tChain r r' ta tb tc) := by
  intro pins s σ H Q I h
  refine Compare_chain (thn (ha pins s σ H _ I h) fun v s1 ⟨x, H1, I1, r1, q1⟩ => chain_link (thn (hb pins s1 σ H1 _ I1 q1) fun u s2 ⟨y, H2, I2, r2, q2⟩ =>
    thn (ho pins s2 σ H2 x y v u _ I2 r1 r2 q2) fun d s3 ⟨z, H3, I3, r3, k, e, q3⟩ => ?_)) hm
  subst e
  cases r3
  refine wpAny_truthy_bool ?_
  cases k with
  | false => exact ite_ff ⟨.bl false, H3, I3, rfl, q3⟩
  | true => exact ite_tt (chain_last (thn (hc pins s3 σ H3 _ I3 q3) fun w' s4 ⟨z', H4, I4, r4, q4⟩ => ho' pins s4 σ H4 y z' u w' Q I4 r2 r4 q4))
theorem pt_chain {op op' : CmpOp} {r r' : R2} (ho : OpR X (compareOp op) r) (ho' : OpR X (compareOp op') r') (ha : PE X a ta) (hb : PE X b tb) (hc : PE X c tc)
    (hm : lastMarks [op, op'] [b, c] = false := by with_unfolding_all rfl) : PT X (.Compare a [op, op'] [b, c] pos) (tTest (tChain r r' ta tb tc)) := by
  intro pins s σ H Q I h
  refine isTrue_chain (thn (ha pins s σ H _ I h) fun v s1 ⟨x, H1, I1, r1, q1⟩ => test_link (thn (hb pins s1 σ H1 _ I1 q1) fun u s2 ⟨y, H2, I2, r2, q2⟩ =>
    thn (ho pins s2 σ H2 x y v u _ I2 r1 r2 q2) fun d s3 ⟨z, H3, I3, r3, k, e, q3⟩ => ?_)) hm
  subst e
  cases r3
  refine wpAny_truthy_bool ?_
  cases k with
  | false =>
    obtain ⟨k', e', q'⟩ := q3
    cases e'
    exact ite_ff ⟨H3, I3, q'⟩
  | true =>
    refine ite_tt (test_last (thn (hc pins s3 σ H3 _ I3 q3) fun w' s4 ⟨z', H4, I4, r4, q4⟩ => thn (ho' pins s4 σ H4 y z' u w' _ I4 r2 r4 q4) fun d' s5 ⟨z2, H5, I5, r5, k2, e2, q5⟩ => ?_))
    subst e2
    cases r5
    exact wpAny_truthy_bool ⟨H5, I5, q5⟩
def TruV (K : PySem.W.Frag) (x : V) (H : Hp) (k : Bool) : Prop :=
  match x with
  | .non => k = false
  | .bl b => k = b
  | .int i => k = (i != 0)
  | .str y => y.length ≤ sizeLine ∧ k = ((y.length : Int) != 0)
  | .byt y => y.size ≤ sizeLine ∧ k = ((y.size : Int) != 0)
  | .ref p => (∃ xs, SqL K H p xs ∧ k = !xs.isEmpty) ∨ (∃ xs, SqT K H p xs ∧ k = !xs.isEmpty) ∨ ∃ kvs, H p = some (.dK kvs) ∧ k = !kvs.isEmpty
  | _ => False
theorem isEmpty_kv {κ : Type} {kvs : List (κ × V)} {vs : List (κ × Value)} (r : KV kvs vs) : (!vs.isEmpty) = !kvs.isEmpty := by
  cases r <;> rfl
theorem isEmpty_of {xs : List V} {its : List Value} (r : Vals xs its) : (!its.toArray.isEmpty) = !xs.isEmpty := by
  cases r <;> simp
theorem line63 : (sizeLine : Nat) < 2 ^ 63 := by rw [sizeLine_eq]; decide
theorem tru_ok : TruR X (fun x H Q => ∃ k, TruV X.K x H k ∧ Q k H) := by
  intro pins s σ H x v Q I rx h
  obtain ⟨k, e, q⟩ := h
  have hl := line63
  have hs : sizeLine = 16777216 := sizeLine_eq
  cases x with
  | non =>
    cases rx
    have e' : k = false := e
    subst e'
    exact truthy_none ⟨H, I, q⟩
  | bl b =>
    cases rx
    have e' : k = b := e
    subst e'
    exact wpAny_truthy_bool ⟨H, I, q⟩
  | int i =>
    obtain ⟨t, rfl⟩ := rx
    have e' : k = (i != 0) := e
    subst e'
    exact PySem.P.truthy_int ⟨H, I, q⟩
  | str y =>
    obtain ⟨t, rfl⟩ := rx
    obtain ⟨hy, e'⟩ : y.length ≤ sizeLine ∧ k = ((y.length : Int) != 0) := e
    subst e'
    exact PySem.P.truthy_str (by omega) ⟨H, I.tok _, q⟩
  | byt y =>
    obtain ⟨t, rfl⟩ := rx
    obtain ⟨hy, e'⟩ : y.size ≤ sizeLine ∧ k = ((y.size : Int) != 0) := e
    subst e'
    exact PySem.W.truthy_bytes (by omega) ⟨H, I.tok _, q⟩
  | ref p =>
    cases rx
    have e' : (∃ xs, SqL X.K H p xs ∧ k = !xs.isEmpty) ∨ (∃ xs, SqT X.K H p xs ∧ k = !xs.isEmpty) ∨ ∃ kvs, H p = some (.dK kvs) ∧ k = !kvs.isEmpty := e
    rcases e' with ⟨xs, hx, e'⟩ | ⟨xs, hx, e'⟩ | ⟨kvs, hx, e'⟩
    · subst e'
      obtain ⟨its, r, pl, hz⟩ := I.list hx
      have hlen := r.length
      exact wpAny_truthy_list pl.isList (by simp only [List.size_toArray]; omega) ⟨H, I.tok _, by rw [isEmpty_of r]; exact q⟩
    · subst e'
      obtain ⟨its, r, pl, hz⟩ := I.tuple hx
      have hlen := r.length
      exact truthy_tuple pl (by simp only [List.size_toArray]; omega) ⟨H, I.tok _, by rw [isEmpty_of r]; exact q⟩
    · subst e'
      obtain ⟨hz, hS, vs, r, m⟩ : kvs.length ≤ sizeLine ∧ (p == sysModules) = false ∧ ∃ vs, KV kvs vs ∧ s.heap.DictOf (mixKind X.prog X.w) p vs := I.hok p _ hx
      have hlen : kvs.length = vs.length := Paired.length r
      exact wpAny_truthy_dict hS m (by omega) ⟨H, I.tok _, by rw [isEmpty_kv r]; exact q⟩
  | _ => exact (show False from e).elim
theorem pt_truth (ha : PE X a ta) (he : ∀ whole, isTrue a X.env whole = (do let v ← whole; standAt a.pos; holding [v] (truthy v))) :
    PT X a (fun σ H Q => ta σ H fun x H' => ∃ k, TruV X.K x H' k ∧ Q k H') := by
  intro pins s σ H Q I h
  exact isTrue_plain (thn (ha pins s σ H _ I h) fun v s1 ⟨x, H1, I1, r1, q1⟩ => tru_ok pins s1 σ H1 x v Q I1 r1 q1) (he _)
theorem vals1 {x : V} {us : List Value} (r : Vals [x] us) : ∃ u, us = [u] ∧ RelV x u := by
  cases r with
  | cons r1 r2 => cases r2; exact ⟨_, rfl, r1⟩
theorem vals2 {x y : V} {us : List Value} (r : Vals [x, y] us) : ∃ u w', us = [u, w'] ∧ RelV x u ∧ RelV y w' := by
  cases r with
  | cons r1 r2 =>
    cases r2 with
    | cons r3 r4 => cases r4; exact ⟨_, _, rfl, r1, r3⟩
theorem call_int1 : CallR X (.type "int") (fun xs H Q => (∃ i, xs = [.int i] ∧ Q (.int i) H) ∨ ∃ k, xs = [.bl k] ∧ Q (.int (if k then 1 else 0)) H) := by
  intro pins s σ H xs us Q I r h
  rcases h with ⟨i, rfl, q⟩ | ⟨k, rfl, q⟩
  · obtain ⟨u, rfl, t, rfl⟩ := vals1 r
    exact call_int_int ⟨.int i, H, I, ⟨_, rfl⟩, q⟩
  · obtain ⟨u, rfl, r1⟩ := vals1 r
    cases r1
    exact call_int_bool ⟨.int (if k then 1 else 0), H, I.tok _, ⟨_, rfl⟩, q⟩
end
end L2
namespace L2
open PySem PySem.Spec PyProof.Rows
structure ObjM (h : Heap) (x dx C : Addr) (mA : Str → Option Value) : Prop where
  obj : h.get? x = some (PySem.W.instObj C dx)
  ns : h.Ns1 dx mA
  ne : dx ≠ x
theorem lookIn_ns {h : Heap} {dx : Addr} {mA : Str → Option Value} (n : h.Ns1 dx mA) : ∃ od, h.get? dx = some od ∧ ∀ name, PySem.W.lookIn name od = some (mA name) := by
  obtain ⟨o, es, ep, ho, hd, hk, _, hm⟩ := n
  refine ⟨o, ho, fun name => ?_⟩
  have e := hm name
  unfold nsFind findBy at e
  rw [← Array.find?_toList] at e
  unfold PySem.W.lookIn
  rw [hd]
  dsimp only
  split
  · rename_i y q
    rw [q] at e
    exact congrArg some e
  · rename_i q
    rw [q] at e
    have a : es.toList.any (·.refKey) = false := by
      rw [List.any_eq_false]
      intro y hy
      obtain ⟨z, t, hkey⟩ := hk y (Array.mem_toList_iff.mp hy)
      simp [DictEntry.refKey, hkey]
    have a' : ¬ es.toList.any (·.refKey) = true := by rw [a]; exact Bool.false_ne_true
    rw [if_neg a']
    exact congrArg some e
theorem ObjM.look {h : Heap} {x dx C : Addr} {mA : Str → Option Value} (I : ObjM h x dx C mA) : ∃ od, PySem.W.InstAt h x (PySem.W.instObj C dx) C (some od) ∧ ∀ name, PySem.W.lookIn name od = some (mA name) :=
  let ⟨od, ho, hl⟩ := lookIn_ns I.ns
  ⟨od, ⟨I.obj, rfl, rfl, ho⟩, hl⟩
section
variable {prog : Program} {w : World} {A : Around} {E : Value → Shared → Prop} {s : Shared} {K : PySem.W.Frag} {x dx C f : Addr} {mA : Str → Option Value} {name : Str} {v : Value}
end
theorem RelO.none_of {o : Option Value} (r : RelO none o) : o = none := by
  cases o with
  | none => rfl
  | some u => exact (show False from r).elim
section
variable {P : Program} {w : World} {H H' : Hp} {h h' : Heap} {a C dx : Addr} {fs fs' : List (Str × V)}
end
structure Cls (K : PySem.W.Frag) (C : Addr) : Prop where
  pg : PySem.W.plainGet K C Str.empty = true
  hd : PySem.W.hasDictIn K C = true
  po : PySem.W.plainOver K C = true
  sa : PySem.W.findIn K (.ref C) "__setattr__" = some (some (.builtin "object.__setattr__"))
theorem Cls.get {K : PySem.W.Frag} {C : Addr} (c : Cls K C) (f : Str) : PySem.W.plainGet K C f = true := c.pg
structure Con (K : PySem.W.Frag) (C : Addr) (f : Str) (v : V) (u : Value) : Prop where
  at_ : PySem.W.findIn K (.ref C) f = some (some u)
  rel : RelV v u
  get : PySem.W.specialIn K u "__get__" = some none
  cp : PySem.W.copiedNames.contains f = false
structure Meth (K : PySem.W.Frag) (C : Addr) (m : Str) (f : Addr) : Prop where
  at_ : PySem.W.findIn K (.ref C) m = some (some (.ref f))
  fn : PySem.W.isFn K (.ref f) = true
  kp : PySem.W.keepIn K (.ref f) = true
section
variable {X : Cx} {pins : List (Addr × Obj)} {σ : St} {H : Hp} {s : Shared} {a C dx : Addr} {fs : List (Str × V)} {f : Str} {v : V} {A : Around} {E : Value → Shared → Prop}
end
section
variable {X : Cx} {o e value : Expr} {f : Str} {pos pos' tpos : Pos} {ta tv : TE}
end
section
variable {X : Cx} {pins : List (Addr × Obj)} {σ : St} {H : Hp} {s : Shared} {A : Around} {E : Value → Shared → Prop} {Q : Value → Shared → Prop} {c : Value} {b : Bool}
inductive TyOf (K : PySem.W.Frag) (H : Hp) : V → Value → Prop where
  | non : TyOf K H .non (.type "NoneType")
  | bl (x : Bool) : TyOf K H (.bl x) (.type "bool")
  | int (i : Int) : TyOf K H (.int i) (.type "int")
  | str (x : Str) : TyOf K H (.str x) (.type "str")
  | flt (x : UInt64) : TyOf K H (.flt x) (.type "float")
  | lst {a : Addr} {xs : List V} (e : H a = some (.lst xs)) : TyOf K H (.ref a) (.type "list")
  | frz {a : Addr} {o : Obj} {xs : List V} (e : H a = some (.frz o (.lst xs))) : TyOf K H (.ref a) (.type "list")
  | tup {a : Addr} {xs : List V} (e : H a = some (.tup xs)) : TyOf K H (.ref a) (.type "tuple")
  | dK {a : Addr} {kvs : List (Key × V)} (e : H a = some (.dK kvs)) : TyOf K H (.ref a) (.type "dict")
  | dT {a : Addr} {kvs : List (List Key × V)} (e : H a = some (.dT kvs)) : TyOf K H (.ref a) (.type "dict")
  | ins {a C dx : Addr} {fs : List (Str × V)} (e : H a = some (.ins C dx fs)) (cl : Cls K C) (ha : PySem.W.findIn K (.ref C) "__class__" = some (some (.builtin "object.__class__")))
      (hn : PySem.W.specialIn K (.builtin "object.__class__") "__get__" = some (some (.builtin "getset_descriptor.__get__"))) (htk : PySem.W.takesIn K (.builtin "object.__class__") = some true)
      (hm : PySem.W.mroIn K C (.type "object") = some true) : TyOf K H (.ref a) (.ref C)
end
end L2
namespace L2
open PySem PySem.Spec PyProof.Rows
structure Room (k : Nat) (A : Around) : Prop where
  hd : A.handled = none
  dp : A.depth + 3 * k + 5 < recursionLimit
  un : A.units + 16 * k + 200 < cLine
  gd : A.guards = some []
theorem Room.mono {j k : Nat} {A : Around} (r : Room k A) (h : j ≤ k) : Room j A := ⟨r.hd, by have := r.dp; omega, by have := r.un; omega, r.gd⟩
theorem Room.deeper {k : Nat} {A : Around} (r : Room (k + 1) A) (env : Env) : Room k (A.deeper env) :=
  ⟨r.hd, by have := r.dp; show A.depth + 1 + 3 * k + 5 < _; omega, by have := r.un; show A.units + 3 + 16 * k + 200 < _; omega, r.gd⟩
theorem Room.in1 {k : Nat} {A : Around} (r : Room (k + 1) A) : Room k A.in1 :=
  ⟨r.hd, by have := r.dp; show A.depth + 3 * k + 5 < _; omega, by have := r.un; show A.units + 1 + 16 * k + 200 < _; omega, r.gd⟩
theorem Room.depth {k : Nat} {A : Around} (r : Room k A) : A.depth < recursionLimit := by have := r.dp; omega
theorem Room.units {k : Nat} {A : Around} (r : Room k A) : A.units + 64 < cLine := by have := r.un; omega
def tNil : TA := fun _ H Q => Q [] H
def tCons (ta : TE) (tr : TA) : TA := fun σ H Q => ta σ H fun x H1 => tr σ H1 fun xs H2 => Q (x :: xs) H2
section
variable {X : Cx} {e : Expr} {es : List Expr} {te : TE} {t : TA} {pos : Pos}
theorem pa_nil : PA X [] tNil := fun _ _ _ _ H Q I h => Calls.spliced_nil ⟨[], H, I, .nil, h⟩
theorem pa_cons (ha : PE X e te) (hr : PA X es t) (hs : starEach (e :: es) X.env = (false, eval e X.env) :: starEach es X.env := by rfl) : PA X (e :: es) (tCons te t) := by
  intro pos pins s σ H Q I h
  rw [hs]
  show wpAny _ _ (spliced ((false, eval e X.env) :: backTo pos (starEach es X.env))) _ _ s
  refine Calls.spliced_cons (thn (ha pins s σ H _ I h) fun u s1 ⟨x, H1, I1, r1, q1⟩ => ?_)
  exact thn (hr pos pins s1 σ H1 _ I1 q1) fun us s2 ⟨xs, H2, I2, r2, q2⟩ => ⟨x :: xs, H2, I2, .cons r1 r2, q2⟩
def tTup (t : TA) : TE := fun σ H Q => t σ H fun xs H1 => xs.length ≤ sizeLine ∧ ∀ p, H1 p = none → Q (.ref p) (upd H1 p (.tup xs))
def tLst (t : TA) : TE := fun σ H Q => t σ H fun xs H1 => xs.length ≤ sizeLine ∧ ∀ p, H1 p = none → Q (.ref p) (upd H1 p (.lst xs))
theorem pe_tup {x1} (h : PA X es t) : PE X (.Tuple es x1 pos) (tTup t) := by
  intro pins s σ H Q I hq
  refine wpAny_Tuple_spliced (thn (h pos pins s σ H _ I hq) fun us s1 ⟨xs, H1, I1, r, z, q⟩ => ⟨by rw [← r.length]; exact z, ?_⟩)
  have hf : H1 s1.heap.objs.size = none := I1.hok.fresh (Nat.le_refl _)
  refine ⟨.ref s1.heap.objs.size, upd H1 s1.heap.objs.size (.tup xs), I1.laid (t' := s1.toks) (fun b u e => Heap.get?_push_of_some _ e) (Nat.le_refl _) ?_, rfl, q _ hf⟩
  exact ⟨z, us, r, ⟨_, Heap.get?_push_size _ rfl, ⟨rfl, _, rfl⟩, rfl⟩⟩
theorem pe_lst (h : PA X es t) : PE X (.List es pos) (tLst t) := by
  intro pins s σ H Q I hq
  refine wpAny_List_spliced (thn (h pos pins s σ H _ I hq) fun us s1 ⟨xs, H1, I1, r, z, q⟩ => ⟨by rw [← r.length]; exact z, ?_⟩)
  have hf : H1 s1.heap.objs.size = none := I1.hok.fresh (Nat.le_refl _)
  refine ⟨.ref s1.heap.objs.size, upd H1 s1.heap.objs.size (.lst xs), I1.laid (t' := s1.toks) (fun b u e => Heap.get?_push_of_some _ e) (Nat.le_refl _) ?_, rfl, q _ hf⟩
  exact ⟨z, us, 0, r, Heap.get?_push_size _ rfl⟩
end
abbrev Sp := List V → Hp → VK → XK → Prop
abbrev CXT := List Env → Hp → Shared → XK → Value → Shared → Prop
structure Env0 (P : Program) (w : World) (K : PySem.W.Frag) (mg : Str → Option Value) (base : Heap) (A : Around) (outer : List Env) (s : Shared) (H : Hp) : Prop where
  frames : A.frames = some outer
  mod : Mod K mg base
  bs : ∀ b o, base.get? b = some o → s.heap.get? b = some o ∧ H b = none
  bsz : base.objs.size ≤ s.heap.objs.size
  funs : s.heap.FunFrames base outer
  frf : ∀ b ∈ frs outer, H b = none
  hok : HOk P w H s.heap
  bare : AllBare s.gens
def CE (outer : List Env) (P : Program) (w : World) (H : Hp) (s : Shared) (Q : VK) (u : Value) (s' : Shared) : Prop :=
  ∃ v H', s'.os = s.os ∧ AllBare s'.gens ∧ Un (frs outer) [] H H' s.heap s'.heap ∧ HOk P w H' s'.heap ∧ RelV v u ∧ Q v H'
def CR (CX : CXT) (outer : List Env) (P : Program) (w : World) (H : Hp) (s : Shared) (Q : VK) (E : XK) (r : Result) (s' : Shared) : Prop :=
  match r with
  | .ok (.ret u) => CE outer P w H s Q u s'
  | .ok _ => False
  | .error e => CX outer H s E e s'
structure FnOk (P : Program) (w : World) (K : PySem.W.Frag) (mg : Str → Option Value) (base : Heap) (CX : CXT) (k : Nat) (f : Addr) (fd : FuncData) (ps : List Str) (sp : Sp) : Prop where
  len : ∀ vs H Q E, sp vs H Q E → vs.length = ps.length
  run : ∀ (A : Around) (outer : List Env) (s : Shared) (H : Hp) (args : Args) (us : List Value) (vs : List V) (Q : VK) (E : XK), Room k A → Env0 P w K mg base A outer s H → BindsTo s fd args (ps.zip us) → Vals vs us → sp vs H Q E →
    codeAny (model P w) A (.call (.ref f) args) (CR CX outer P w H s Q E) s
theorem FnOk.mono {P : Program} {w : World} {K : PySem.W.Frag} {mg : Str → Option Value} {base : Heap} {CX : CXT} {j k : Nat} {f : Addr} {fd : FuncData} {ps : List Str} {sp : Sp} (F : FnOk P w K mg base CX j f fd ps sp) (h : j ≤ k) :
    FnOk P w K mg base CX k f fd ps sp := ⟨F.len, fun A outer s H args us vs Q E hr => F.run A outer s H args us vs Q E (hr.mono h)⟩
theorem FnOk.imp {P : Program} {w : World} {K : PySem.W.Frag} {mg : Str → Option Value} {base : Heap} {CX : CXT} {k : Nat} {f : Addr} {fd : FuncData} {ps : List Str} {sp sp' : Sp} (F : FnOk P w K mg base CX k f fd ps sp)
    (h : ∀ vs H Q E, sp' vs H Q E → sp vs H Q E) : FnOk P w K mg base CX k f fd ps sp' :=
  ⟨fun vs H Q E q => F.len vs H Q E (h _ _ _ _ q), fun A outer s H args us vs Q E hr he hb hv hs => F.run A outer s H args us vs Q E hr he hb hv (h _ _ _ _ hs)⟩
theorem Env0.in1 {P : Program} {w : World} {K : PySem.W.Frag} {mg : Str → Option Value} {base : Heap} {A : Around} {outer : List Env} {s : Shared} {H : Hp} (e : Env0 P w K mg base A outer s H) :
    Env0 P w K mg base A.in1 outer s H := ⟨e.frames, e.mod, e.bs, e.bsz, e.funs, e.frf, e.hok, e.bare⟩
section
variable {X : Cx} {pins : List (Addr × Obj)} {σ : St} {H : Hp} {s s' : Shared}
theorem Inv.env0 (I : Inv X pins σ H s) : Env0 X.prog X.w X.K X.mg X.base X.A X.stack s H :=
  ⟨I.ok.frames, I.ok.mod, I.bs, Nat.le_trans I.ok.bsz I.sz, I.stack, I.stkFree, I.hok, I.bare⟩
theorem Inv.after {Q : VK} {u : Value} (I : Inv X pins σ H s) (h : CE X.stack X.prog X.w H s Q u s') : EP X pins σ Q u s' := by
  obtain ⟨v, H', os, bare, un, hok, r, q⟩ := h
  obtain ⟨hh, g, d, t, os'⟩ := s'
  obtain rfl : os' = s.os := os
  exact ⟨v, H', I.call (h' := hh) (g' := g) (d' := d) (t' := t) (ch := []) un hok bare (fun b z => absurd z (by simp)), r, q⟩
end
def tCall (sp : Sp) (dvs : List V) (E : XK) (t : TA) : TE := fun σ H Q => t σ H fun vs H1 => sp (vs ++ dvs) H1 Q E
def Binds (K : PySem.W.Frag) (fd : FuncData) (ps : List Str) (ds : List Value) : Prop :=
  ∀ (s : Shared) (us : List Value), K.In s.heap → (us ++ ds).length = ps.length → BindsTo s fd ⟨us, []⟩ (ps.zip (us ++ ds))
theorem Binds.all {K : PySem.W.Frag} {fd : FuncData} {ps : List Str} (h : ∀ us : List Value, us.length = ps.length → bindArgs fd ⟨us, []⟩ = pure (ps.zip us)) : Binds K fd ps [] := fun s us _ hl => by
  rw [List.append_nil] at hl ⊢
  exact .of_eq (h us hl)
def Passes (CX : CXT) (X : Cx) (E : XK) : Prop := ∀ (pins : List (Addr × Obj)) (σ : St) (H : Hp) (s : Shared) (e : Value) (s' : Shared), Inv X pins σ H s → CX X.stack H s E e s' → X.xe e s'
section
variable {X : Cx} {CX : CXT} {k : Nat} {f C : Addr} {fd : FuncData} {ps : List Str} {sp : Sp} {dvs : List V} {ds : List Value} {E : XK} {x m : Str} {p pos apos : Pos} {e o : Expr} {es : List Expr} {ta : TE} {t : TA}
theorem run_fn {pins : List (Addr × Obj)} {σ : St} {H : Hp} {s : Shared} {Q : VK} {us : List Value} {vs : List V} (F : FnOk X.prog X.w X.K X.mg X.base CX k f fd ps sp) (hr : Room k X.A) (hb : Binds X.K fd ps ds) (hd : Vals dvs ds) (hx : Passes CX X E)
    (I : Inv X pins σ H s) (r : Vals vs us) (h : sp (vs ++ dvs) H Q E) : wpAny (model X.prog X.w) X.A (call (.ref f) us) (EP X pins σ Q) X.xe s := by
  have r2 : Vals (vs ++ dvs) (us ++ ds) := r.append hd
  have hl : (us ++ ds).length = ps.length := by rw [← r2.length]; exact F.len _ _ _ _ h
  refine wpAny_call (codeAny_mono (F.run X.A X.stack s H ⟨us, []⟩ (us ++ ds) (vs ++ dvs) Q E hr I.env0 (hb s us I.kIn hl) r2 h) fun r s' hq => ?_)
  cases r with
  | error e => exact hx pins σ H s e s' I hq
  | ok fl =>
    cases fl with
    | ret u => exact I.after hq
    | next => exact False.elim hq
    | brk => exact False.elim hq
    | cont => exact False.elim hq
theorem pe_call (F : FnOk X.prog X.w X.K X.mg X.base CX k f fd ps sp) (hr : Room k X.A) (hg : Gl X x) (hm : X.mg x = some (.ref f)) (hk : PySem.W.keepIn X.K (.ref f) = true) (hb : Binds X.K fd ps ds) (hd : Vals dvs ds) (hx : Passes CX X E)
    (ha : PA X (e :: es) t) (hdb : (x == ("__debug__" : Str)) = false := by decide) (he : starEach (e :: es) X.env = (false, eval e X.env) :: starEach es X.env := by rfl) (hpl : (backTo pos (starEach es X.env)).any (·.1) = false := by rfl) :
    PE X (.Call (.Name x p) (e :: es) [] pos) (tCall sp dvs E t) := by
  intro pins s σ H Q I h
  refine wpAny_Call_Name_kw (ld_glob I hg hm ?_ hdb)
  refine PySem.W.callWith_K (h₀ := X.base) I.ok.mod.kin hk (thn (ha pos pins s σ H _ I h) fun us s1 ⟨vs, H1, I1, r, q⟩ => ⟨I1.kIn, ?_⟩) he hpl
  exact run_fn F hr hb hd hx I1 r q
structure Mk (K : PySem.W.Frag) (C f : Addr) : Prop where
  makes : PySem.W.makesIn K C = true
  init : PySem.W.findIn K (.ref C) "__init__" = some (some (.ref f))
  fn : PySem.W.isFn K (.ref f) = true
  kp : PySem.W.keepIn K (.ref C) = true
end
section
variable {X : Cx} {CX : CXT} {k : Nat} {f C : Addr} {fd : FuncData} {ps ks : List Str} {sp : Sp} {E : XK} {x m : Str} {p pos apos kpos : Pos} {e o : Expr} {es : List Expr} {kws : List Keyword} {te ta : TE} {t tk : TA} {nm : Option Str}
structure KBinds (K : PySem.W.Frag) (fd : FuncData) (ps ks : List Str) (g : List Value → List Value → List Value) (gV : List V → List V → List V) : Prop where
  to : ∀ (s : Shared) (us ws : List Value), K.In s.heap → (g us ws).length = ps.length → BindsTo s fd ⟨us, ks.zip ws⟩ (ps.zip (g us ws))
  rel : ∀ {vs : List V} {us : List Value} {zs : List V} {ws : List Value}, Vals vs us → Vals zs ws → Vals (gV vs zs) (g us ws)
variable {g : List Value → List Value → List Value} {gV : List V → List V → List V}
end
structure FnScope (N P : List Str) (sc : Scope) : Prop where
  kind : sc.kind = .function
  co : sc.isCoroutine = false
  gen : sc.isGenerator = false
  nd : N.Nodup
  pre : N.take P.length = P
  par : ∀ x ∈ P, sc.names.lookup x = some .local ∨ sc.names.lookup x = some .cell
  nofree : ∀ y ∈ sc.names, y.2 ≠ .free
structure FnSc (N P : List Str) (sc : Scope) : Prop where
  kind : sc.kind = .function
  nd : N.Nodup
  pre : N.take P.length = P
  par : ∀ x ∈ P, sc.names.lookup x = some .local ∨ sc.names.lookup x = some .cell
  nofree : ∀ y ∈ sc.names, y.2 ≠ .free
theorem FnScope.sc {N P : List Str} {sc : Scope} (S : FnScope N P sc) : FnSc N P sc := ⟨S.kind, S.nd, S.pre, S.par, S.nofree⟩
theorem bindL_out {kindOf : Str → Option NameKind} {x : Str} : ∀ {binds : List (Str × Value)} {m : Str → Option Value}, (∀ v, (x, v) ∉ binds) → bindL kindOf binds m x = m x
  | [], _, _ => rfl
  | (n, v) :: r, m, h => by
    unfold bindL
    rw [bindL_out fun w hw => h w (List.mem_cons_of_mem _ hw)]
    split
    · have : x ≠ n := by rintro rfl; exact h v List.mem_cons_self
      simp [this]
    · rfl
theorem bindC_out {kindOf : Str → Option NameKind} {x : Str} : ∀ {binds : List (Str × Value)} {m : Str → Option Value}, (∀ v, (x, v) ∉ binds) → bindC kindOf binds m x = m x
  | [], _, _ => rfl
  | (n, v) :: r, m, h => by
    unfold bindC
    rw [bindC_out fun w hw => h w (List.mem_cons_of_mem _ hw)]
    split
    · rfl
    · have : x ≠ n := by rintro rfl; exact h v List.mem_cons_self
      simp [this]
theorem bindL_get {kindOf : Str → Option NameKind} {x : Str} {v : Value} : ∀ {P : List Str} {vs : List Value} {i : Nat} {m : Str → Option Value}, P.Nodup → P[i]? = some x → vs[i]? = some v → kindOf x = some .local →
    bindL kindOf (P.zip vs) m x = some v
  | [], _, _, _, _, h, _, _ => by simp at h
  | _ :: _, [], _, _, _, _, h, _ => by simp at h
  | p :: P, w :: vs, 0, m, nd, h1, h2, hk => by
    simp at h1 h2; subst h1; subst h2
    show bindL kindOf ((p, w) :: P.zip vs) m p = _
    unfold bindL
    rw [bindL_out fun v hv => (List.nodup_cons.mp nd).1 (List.of_mem_zip hv).1, if_pos hk]
    simp
  | p :: P, w :: vs, i + 1, m, nd, h1, h2, hk => by
    show bindL kindOf ((p, w) :: P.zip vs) m x = _
    unfold bindL
    exact bindL_get (i := i) (List.nodup_cons.mp nd).2 (by simpa using h1) (by simpa using h2) hk
theorem bindC_get {kindOf : Str → Option NameKind} {x : Str} {v : Value} : ∀ {P : List Str} {vs : List Value} {i : Nat} {m : Str → Option Value}, P.Nodup → P[i]? = some x → vs[i]? = some v → kindOf x ≠ some .local →
    bindC kindOf (P.zip vs) m x = some v
  | [], _, _, _, _, h, _, _ => by simp at h
  | _ :: _, [], _, _, _, _, h, _ => by simp at h
  | p :: P, w :: vs, 0, m, nd, h1, h2, hk => by
    simp at h1 h2; subst h1; subst h2
    show bindC kindOf ((p, w) :: P.zip vs) m p = _
    unfold bindC
    rw [bindC_out fun v hv => (List.nodup_cons.mp nd).1 (List.of_mem_zip hv).1, if_neg hk]
    simp
  | p :: P, w :: vs, i + 1, m, nd, h1, h2, hk => by
    show bindC kindOf ((p, w) :: P.zip vs) m x = _
    unfold bindC
    exact bindC_get (i := i) (List.nodup_cons.mp nd).2 (by simpa using h1) (by simpa using h2) hk
def start (N : List Str) (vs : List V) : St := vs.map some ++ List.replicate (N.length - vs.length) none
def cxOf (CX : CXT) (P : Program) (w : World) (K : PySem.W.Frag) (mg : Str → Option Value) (base : Heap) (N : List Str) (qual : Str) (scope : Scope) (f : Addr) (cd : Value) (A : Around) (outer : List Env) (s : Shared) (H : Hp) (E : XK) : Cx where
  prog := P
  w := w
  K := K
  mg := mg
  base := base
  A := A.deeper (envOfC qual scope s.heap.objs.size f cd)
  N := N
  s_0 := s
  H_0 := H
  env := envOfC qual scope s.heap.objs.size f cd
  outer := outer
  stack := envOfC qual scope s.heap.objs.size f cd :: outer
  ex := []
  calm := true
  fn := fun _ => true
  pn := []
  xe := fun e s' => wpAny (model P w) (A.deeper (envOfC qual scope s.heap.objs.size f cd)) (leaving (envOfC qual scope s.heap.objs.size f cd) e) (fun _ s'' => CX outer H s E e s'') (fun e' s'' => CX outer H s E e' s'') s'
theorem cell_has {sc : Scope} {n : Nat} {x : Str} (h : sc.names.lookup x = some .cell) : ∃ c, (cellsFrom n sc.names []).lookup x = some c := by
  have q := PySem.W.cellsFrom_some sc.names n [] (.inl h)
  exact Option.isSome_iff_exists.mp q
theorem inv_start {CX : CXT} {P : Program} {w : World} {K : PySem.W.Frag} {mg : Str → Option Value} {base : Heap} {N ps : List Str} {qual : Str} {scope : Scope} {f : Addr} {cd : Value} {A : Around} {outer : List Env} {s s1 : Shared} {H : Hp} {E : XK} {us : List Value} {vs : List V}
    (S : FnSc N ps scope) (hd : A.handled = none) (e0 : Env0 P w K mg base A outer s H) (hl : vs.length = ps.length) (r : Vals vs us)
    (x : InCallC s s.heap.objs.size (bindL (envOfC qual scope s.heap.objs.size f cd).kindOf (ps.zip us) fun _ => none) (cellsFrom (s.heap.objs.size + 1) scope.names []) (bindC (envOfC qual scope s.heap.objs.size f cd).kindOf (ps.zip us) fun _ => none) s1) :
    Inv (cxOf CX P w K mg base N qual scope f cd A outer s H E) [] (start N vs) H s1 := by
  have hpl : ps.length ≤ N.length := by have := congrArg List.length S.pre; rw [List.length_take] at this; omega
  obtain ⟨h1, tk, rfl, hk⟩ := x.done
  have noA : ∀ b : Addr, b ∉ (cxOf CX P w K mg base N qual scope f cd A outer s H E).ex := fun b z => absurd (show b ∈ ([] : List Addr) from z) (by simp)
  refine ⟨⟨e0.mod, S.kind, rfl, rfl, Nat.le_refl _, fun y z c h1 h2 => ?_, fun y hy => ?_, fun y c _ h => ?_, fun _ => hd, Around.frames_deeper e0.frames, .inr ⟨rfl, rfl⟩, fun b z => absurd z (noA b), e0.bs, e0.bsz, fun b _ _ => noA b, fun b z => absurd z (noA b), e0.funs, e0.frf⟩,
    rfl, e0.bare, Un.kept hk, ⟨_, x.toInCall.ns, fun i y v h1 h2 h3 => ?_⟩, fun y c h => ⟨_, x.cell y c h⟩, e0.hok.fresh (Nat.le_refl _), fun y c h => ?_, fun p hp => absurd (show p ∈ ([] : List (Addr × Obj)) from hp) (by simp), e0.hok.kept hk, ?_⟩
  · exact name_of_addr x.apart (PySem.mem_of_lookup h1) (PySem.mem_of_lookup h2)
  · have hy : scope.names.lookup y = some .cell ∨ scope.names.lookup y = some .free := hy
    rcases hy with hy | hy
    · exact cell_has hy
    · exact absurd rfl (S.nofree _ (PySem.mem_of_lookup hy))
  · exact Nat.le_of_lt (x.above y c (PySem.mem_of_lookup h))
  · have hi : i < vs.length := by
      unfold start at h2
      by_cases hi : i < vs.length
      · exact hi
      · rw [List.getElem?_append_right (by simpa using hi)] at h2
        rw [List.getElem?_replicate] at h2
        split at h2 <;> cases h2
    have ha : vs[i]? = some v := by
      unfold start at h2
      rw [List.getElem?_append_left (by simpa using hi), List.getElem?_map] at h2
      cases e : vs[i]? with
      | none => rw [e] at h2; cases h2
      | some a => rw [e] at h2; cases h2; rfl
    obtain ⟨u, hu, rv⟩ := r.get ha
    have hp : ps[i]? = some y := by
      rw [← S.pre, List.getElem?_take_of_lt (by omega)]; exact h1
    have ndP : ps.Nodup := by rw [← S.pre]; exact S.nd.sublist (List.take_sublist _ _)
    refine ⟨u, rv, ?_⟩
    rcases S.par y (List.mem_of_getElem? hp) with k | k
    · exact .inl ⟨k, bindL_get ndP hp hu k⟩
    · obtain ⟨c, e⟩ := cell_has (n := s.heap.objs.size + 1) k
      refine .inr ⟨.inl k, c, e, ?_⟩
      have q := x.cell y c e
      rw [bindC_get ndP hp hu (by show scope.names.lookup y ≠ _; rw [k]; decide)] at q
      exact q
  · exact e0.hok.fresh (Nat.le_of_lt (x.above y c (PySem.mem_of_lookup h)))
  · unfold start
    show _ = N.length
    rw [List.length_append, List.length_map, List.length_replicate]
    omega
theorem fn_of {CX : CXT} {P : Program} {w : World} {K : PySem.W.Frag} {mg : Str → Option Value} {base : Heap} {k : Nat} {f : Addr} {name qual : Str} {params : Arguments} {body : List Stmt} {scope : Scope} {dV kV doc pm cdv ct oc : Value} {an od : Option Addr}
    {osl : Array (Option Value)} {N ps : List Str} {sp : Sp} (lk : K.lookup f = some ⟨oc, od, .func (PySem.W.fnOf name qual params body scope dV kV doc pm an cdv ct), osl⟩) (hcd : PySem.W.codeIn K cdv qual = true) (S : FnScope N ps scope)
    (len : ∀ vs H Q E, sp vs H Q E → vs.length = ps.length)
    (hbody : ∀ (A : Around) (outer : List Env) (s : Shared) (H : Hp) (vs : List V) (Q : VK) (E : XK), Room k (A.deeper (envOfC qual scope s.heap.objs.size f cdv)) → sp vs H Q E →
      ∃ t, PSs (cxOf CX P w K mg base N qual scope f cdv A outer s H E) body t ∧ t { nx := fun _ H' => Q .non H', rt := Q } (start N vs) H) :
    FnOk P w K mg base CX (k + 1) f (PySem.W.fnOf name qual params body scope dV kV doc pm an cdv ct) ps sp := by
  refine ⟨len, fun A outer s H args us vs Q E hr e0 hb r hsp => ?_⟩
  have hl := len _ _ _ _ hsp
  have KX : K.In s.heap := e0.mod.kin.keeps fun b o e => (e0.bs b o e).1
  have lim : s.heap.NoLimit := e0.mod.nolimit.keeps fun b o e => (e0.bs b o e).1
  have hkind : ∀ y ∈ ps.zip us, scope.names.lookup y.1 = some .local ∨ (scope.names.lookup y.1 = some .cell ∧ ((cellsFrom (s.heap.objs.size + 1) scope.names []).lookup y.1).isSome = true) := fun ⟨n, v⟩ hy => by
    rcases S.par n (List.of_mem_zip hy).1 with q | q
    · exact .inl q
    · exact .inr ⟨q, PySem.W.cellsFrom_some _ _ _ (.inl q)⟩
  refine codeAny_call_function hr.depth (KX _ _ lk) rfl S.co S.gen rfl (PySem.W.codeRec_of KX hcd) (hb _ _ _ _ ?_)
  refine wpAny_newFunctionEnv_cells S.kind hkind fun env he s1 x => ?_
  subst he
  refine ⟨lim.keeps x.toInCall.keep, codeAny_func ?_⟩
  obtain ⟨t, ht, hq⟩ := hbody A outer s H vs Q E (hr.deeper _) hsp
  have I : Inv (cxOf CX P w K mg base N qual scope f cdv A outer s H E) [] (start N vs) H s1 := inv_start S.sc hr.hd e0 hl r x
  refine wpAny_mono (ht [] s1 (start N vs) H _ I hq) (fun fl s' hs => ?_) fun e s' hs => hs
  have fin : ∀ {σ' : St} {H' : Hp} {v : V} {u : Value}, Inv (cxOf CX P w K mg base N qual scope f cdv A outer s H E) [] σ' H' s' → RelV v u → Q v H' → CE outer P w H s Q u s' :=
    fun {σ' H' v u} J rv q => ⟨v, H', J.os, J.bare, J.base, J.hok, rv, q⟩
  cases fl with
  | ret u =>
    obtain ⟨v, σ', H', J, rv, q⟩ := hs
    exact fin J rv q
  | next =>
    obtain ⟨σ', H', J, q⟩ := hs
    exact fin (v := V.non) (u := Value.none) J rfl q
  | brk =>
    obtain ⟨_, _, _, q⟩ := hs
    exact False.elim q
  | cont =>
    obtain ⟨_, _, _, q⟩ := hs
    exact False.elim q
end L2
namespace L2
open PySem PySem.Spec PyProof.Rows
section
variable {X : Cx} {x : Str} {p pos : Pos} {e : Expr} {es : List Expr} {t : TA} {id T : String} {r : List V → Hp → VK → Prop}
def tCB (r : List V → Hp → VK → Prop) (t : TA) : TE := fun σ H Q => t σ H fun vs H1 => r vs H1 Q
theorem pe_callB (hc : CallR X (.builtin id) r) (hg : Gl X x) (hm : X.mg x = none) (hv : bootBuiltins x = some (.builtin id)) (ha : PA X (e :: es) t) (hn : x ≠ "__name__" := by decide) (hdb : (x == ("__debug__" : Str)) = false := by decide)
    (he : starEach (e :: es) X.env = (false, eval e X.env) :: starEach es X.env := by rfl) (hpl : (backTo pos (starEach es X.env)).any (·.1) = false := by rfl) : PE X (.Call (.Name x p) (e :: es) [] pos) (tCB r t) := by
  intro pins s σ H Q I h
  refine wpAny_Call_Name_kw (ld_blt I hg hm hv ?_ hn hdb)
  exact PyProof.Rows.callWith_builtin1 (thn (ha pos pins s σ H _ I h) fun us s1 ⟨vs, H1, I1, r1, q1⟩ => hc pins s1 σ H1 vs us Q I1 r1 q1) he hpl
theorem pe_callTy (hc : CallR X (.type T) r) (hg : Gl X x) (hm : X.mg x = none) (hv : bootBuiltins x = some (.type T)) (ha : PA X (e :: es) t) (hn : x ≠ "__name__" := by decide) (hdb : (x == ("__debug__" : Str)) = false := by decide)
    (he : starEach (e :: es) X.env = (false, eval e X.env) :: starEach es X.env := by rfl) (hpl : (backTo pos (starEach es X.env)).any (·.1) = false := by rfl) : PE X (.Call (.Name x p) (e :: es) [] pos) (tCB r t) := by
  intro pins s σ H Q I h
  refine wpAny_Call_Name_kw (ld_blt I hg hm hv ?_ hn hdb)
  exact PyProof.Rows.callWith_type1 (thn (ha pos pins s σ H _ I h) fun us s1 ⟨vs, H1, I1, r1, q1⟩ => hc pins s1 σ H1 vs us Q I1 r1 q1) he hpl
end
end L2
namespace HT
open PySem PyProof.Rows
def lexLt : List Int → List Int → Bool
  | [], [] => false
  | [], _ :: _ => true
  | _ :: _, [] => false
  | x :: xs, y :: ys => if x = y then lexLt xs ys else decide (x < y)
theorem lexLt_cons (x y : Int) (xs ys : List Int) : lexLt (x :: xs) (y :: ys) = if x = y then lexLt xs ys else decide (x < y) := rfl
theorem lexLt_nil_nil : lexLt [] [] = false := rfl
theorem lexLt_nil_cons (y : Int) (ys : List Int) : lexLt [] (y :: ys) = true := rfl
theorem lexLt_cons_nil (x : Int) (xs : List Int) : lexLt (x :: xs) [] = false := rfl
theorem eqAt_int (A : Around) (s : Shared) (a : Int) (t : Tok) (c : Int) (u : Tok) : ∃ e, SeqAt.EqAt A s (.int a t) (.int c u) e ∧ (e = true ↔ a = c) :=
  ⟨(a == c), SeqAt.EqAt.int_int a t c u, by simp⟩
theorem rcLt_int (A : Around) (s : Shared) (a : Int) (t : Tok) (c : Int) (u : Tok) (prog : Program) (w : World) (E : Value → Shared → Prop) (Q : Value → Shared → Prop) (h : Q (.bool (decide (a < c))) s) :
    wpAny (model prog w) A (richCompare .Lt (.int a t) (.int c u)) Q E s :=
  (PyProof.Rows.lt_int h : wpAny (model prog w) A (compareOp .Lt (.int a t) (.int c u)) Q E s)
section
open PySem.SeqAt
open PySem.AutoSeq1 (wpAny_loadPart')
open PySem.MeetsSeq PySem.MeetsSeq2 PySem.MeetsSeq3
theorem tuple_lt_ints (l b : Addr) (items items2 : Array Value) (n n2 : Nat) (dd dd2 : Option Addr) (sl sl2 : Array (Option Value)) (ns ms : List Int) (hi : IntsAre items.toList ns) (hj : IntsAre items2.toList ms) :
    Meets (Builtin.«tuple.__lt__» ⟨[.ref l, .ref b], []⟩)
      (fun _ R s => s.heap.get? l = some { cls := .type "tuple", dict := dd, data := .seq items n, slots := sl } ∧ s.heap.get? b = some { cls := .type "tuple", dict := dd2, data := .seq items2 n2, slots := sl2 } ∧
        R (.ok (.ret (.bool (lexLt ns ms)))) s) :=
  .of_wp fun prog w A R s h => by
    obtain ⟨hp, g, d, tk, os⟩ := s; obtain ⟨hl, hb, h⟩ := h
    have f2 := AutoSeq1.sub_tuple_tuple
    have z1 : items.size = ns.length := by rw [← hi.length]; simp
    have z2 : items2.size = ms.length := by rw [← hj.length]; simp
    wp_walk using wpAny_loadPart' hl, wpAny_loadPart' hb, wpAny_forIn_list _ (fun rest b s' => b.1 = none ∧ s' = ⟨hp, g, d, tk, os⟩ ∧ ∃ (vs ws : List Value) (ns' ms' : List Int), rest = vs.zip ws ∧
      IntsAre vs ns' ∧ IntsAre ws ms' ∧ ns'.length + items2.size = ms'.length + items.size ∧ R (.ok (.ret (.bool (lexLt ns' ms')))) ⟨hp, g, d, tk, os⟩) _
    case turn =>
      rintro ⟨y, x⟩ rest b s' ⟨hb', rfl, vs, ws, ns', ms', hz, hvi, hwi, hlen, hR⟩
      cases hvi with
      | nil => rw [List.zip_nil_left] at hz; cases hz
      | cons a t hvi' =>
        cases hwi with
        | nil => rw [List.zip_nil_right] at hz; cases hz
        | cons c u hwi' =>
          rw [List.zip_cons_cons] at hz
          injection hz with hyx hrest
          injection hyx with hy hx
          subst hy hx
          rw [lexLt_cons] at hR
          simp only [List.length_cons] at hlen
          obtain ⟨e, he, hiff⟩ := eqAt_int A.in1 ⟨hp, g, d, tk, os⟩ a t c u
          refine wpAny_bind (he prog w _ _ ?_)
          cases e with
          | true =>
            rw [if_pos (hiff.mp rfl)] at hR
            wp_walk
            exact ⟨rfl, rfl, _, _, _, _, hrest, hvi', hwi', by omega, hR⟩
          | false =>
            rw [if_neg (fun q => absurd (hiff.mpr q) Bool.false_ne_true)] at hR
            have hri := rcLt_int A.in1 ⟨hp, g, d, tk, os⟩ a t c u prog w
            wp_walk using hri
            exact ⟨_, rfl, by simpa using hR⟩
    case fin =>
      rintro ⟨b1, b2⟩ s' ⟨hb', rfl, vs, ws, ns', ms', hz, hvi, hwi, hlen, hR⟩
      simp only at hb'
      subst hb'
      have hv : lexLt ns' ms' = decide (items.size < items2.size) := by
        cases hvi with
        | nil =>
          cases hwi with
          | nil =>
            simp only [List.length_nil] at hlen
            rw [lexLt_nil_nil]
            exact (decide_eq_false (by omega)).symm
          | cons c u hw =>
            simp only [List.length_nil, List.length_cons] at hlen
            rw [lexLt_nil_cons]
            exact (decide_eq_true (by omega)).symm
        | cons a t hv =>
          cases hwi with
          | nil =>
            simp only [List.length_nil, List.length_cons] at hlen
            rw [lexLt_cons_nil]
            exact (decide_eq_false (by omega)).symm
          | cons c u hw =>
            rw [List.zip_cons_cons] at hz
            cases hz
      rw [hv] at hR
      wp_walk
      exact ⟨_, rfl, by simpa [Builtin.Tuple.tupleCompareSizes] using hR⟩
    case h =>
      exact ⟨rfl, rfl, items.toList, items2.toList, ns, ms, rfl, hi, hj, by omega, h⟩
end
section
variable {prog : Program} {w : World} {A : Around} {E : Value → Shared → Prop} {s : Shared}
theorem lt_tupInts {l b : Addr} {items items2 : Array Value} {ns ms : List Int} {Q : Value → Shared → Prop} (hl : IsTup s.heap l items) (hb : IsTup s.heap b items2) (hi : IntsAre items.toList ns) (hj : IntsAre items2.toList ms)
    (hu : A.units < cLine) (h : Q (.bool (lexLt ns ms)) s) : wpAny (model prog w) A (compareOp .Lt (.ref l) (.ref b)) Q E s := by
  obtain ⟨⟨cls, dd, data, sl⟩, ho, hc, n, hd⟩ := id hl
  obtain ⟨⟨cls2, dd2, data2, sl2⟩, ho2, hc2, n2, hd2⟩ := id hb
  simp only at hc hd hc2 hd2
  subst hc hd hc2 hd2
  exact richCompare_meets_room (op := .Lt) ⟨_, ho, rfl⟩ ⟨_, ho2, rfl⟩ PySem.F.slot_tuple_lt PySem.F.entry_tuple_lt (PySem.F.args_tuple_lt_2 _ _) (tuple_lt_ints l b items items2 n n2 dd dd2 sl sl2 ns ms hi hj)
    ⟨ho, ho2, show Value.bool (lexLt ns ms) ≠ Value.notImplemented ∧ Q (.bool (lexLt ns ms)) s from ⟨(fun x => nomatch x), h⟩⟩ hu
def sIx (n d : Nat) : Option Int → Nat
  | none => d
  | some v => if v < 0 then (v + (n : Int)).toNat else min v.toNat n
theorem sIx_none (n d : Nat) : sIx n d none = d := rfl
theorem sIx_nat (n d k : Nat) : sIx n d (some (k : Int)) = min k n := by
  show (if (k : Int) < 0 then ((k : Int) + (n : Int)).toNat else min (k : Int).toNat n) = min k n
  rw [if_neg (by omega), Int.toNat_natCast]
end
end HT
namespace L2
open PySem PySem.Spec PyProof.Rows
abbrev TO := St → Hp → (Option Int → Hp → Prop) → Prop
def PO (X : Cx) (e : Option Expr) (t : TO) : Prop :=
  ∀ (pins : List (Addr × Obj)) (s : Shared) (σ : St) (H : Hp) (Q : Option Int → Hp → Prop), Inv X pins σ H s → t σ H Q →
    wpAny (model X.prog X.w) X.A (evalPart e X.env) (fun u s' => ∃ o H', Inv X pins σ H' s' ∧ IsPart u o ∧ Q o H') X.xe s
theorem intsAre_of {ns : List Int} : ∀ {us : List Value}, Vals (ns.map V.int) us → IntsAre us ns := by
  induction ns with
  | nil => intro us r; rw [List.map_nil] at r; cases r; exact .nil
  | cons n ns ih =>
    intro us r
    rw [List.map_cons] at r
    cases r with
    | cons r1 r2 =>
      obtain ⟨t, e⟩ := r1
      subst e
      exact .cons n t (ih r2)
section
variable {X : Cx} {e : Expr} {te : TE} {lo hi : Option Expr} {tl th : TO} {pos p2 : Pos}
def SlR (X : Cx) (r : V → Option Int → Option Int → Hp → VK → Prop) : Prop :=
  ∀ (pins : List (Addr × Obj)) (s : Shared) (σ : St) (H : Hp) (x : V) (v vl vu : Value) (lo hi : Option Int) (sl : Addr) (Q : VK), Inv X pins σ H s → RelV x v → s.heap.IsSliceOf sl vl vu .none → IsPart vl lo → IsPart vu hi → r x lo hi H Q →
    ∃ T id, typeLookup (.type T) "__getitem__" = pure (some (.builtin id)) ∧ s.TypeIs v T ∧ wpAny (model X.prog X.w) X.A (getItem v (.ref sl)) (EP X pins σ Q) X.xe s
theorem SlR.or {r r' : V → Option Int → Option Int → Hp → VK → Prop} (h : SlR X r) (h' : SlR X r') : SlR X (fun x lo hi H Q => r x lo hi H Q ∨ r' x lo hi H Q) := by
  intro pins s σ H x v vl vu lo hi sl Q I rx hs pl pu q
  rcases q with q | q
  · exact h pins s σ H x v vl vu lo hi sl Q I rx hs pl pu q
  · exact h' pins s σ H x v vl vu lo hi sl Q I rx hs pl pu q
def rLtT (K : PySem.W.Frag) : R2 := fun x y H Q => ∃ a b ns ms, x = .ref a ∧ y = .ref b ∧ SqT K H a (ns.map V.int) ∧ SqT K H b (ms.map V.int) ∧ Q (.bl (HT.lexLt ns ms)) H
theorem op_ltT (hu : X.A.units < cLine) : OpR X (compareOp .Lt) (rLtT X.K) := by
  intro pins s σ H x y v u Q I rx ry h
  obtain ⟨a, b, ns, ms, rfl, rfl, ha, hb, q⟩ := h
  cases rx
  cases ry
  obtain ⟨its, r1, p1, _⟩ := I.tuple ha
  obtain ⟨its2, r2, p2, _⟩ := I.tuple hb
  have i1 : IntsAre its.toArray.toList ns := intsAre_of r1
  have i2 : IntsAre its2.toArray.toList ms := intsAre_of r2
  exact HT.lt_tupInts p1 p2 i1 i2 hu ⟨.bl (HT.lexLt ns ms), H, I, rfl, q⟩
theorem Vals.nil_iff {xs : List V} {us : List Value} (r : Vals xs us) : us = [] ↔ xs = [] := by
  cases r with
  | nil => simp
  | cons _ _ => simp
end
end L2
namespace L2
open PySem PySem.Spec PyProof.Rows
def ixN (n : Nat) (i : Int) : Option Nat := if 0 ≤ i then (if i < n then some i.toNat else none) else if -(n : Int) ≤ i then some (i + n).toNat else none
def atI {α : Type} (xs : List α) (i : Int) : Option α := (ixN xs.length i).bind fun j => xs[j]?
theorem ixN_seq {n : Nat} {i : Int} {j : Nat} (h : ixN n i = some j) : seqIndex? i n = some j ∧ j < n ∧ -(n : Int) ≤ i ∧ i < n := by
  unfold ixN at h
  by_cases h0 : 0 ≤ i
  · rw [if_pos h0] at h
    by_cases h1 : i < n
    · rw [if_pos h1] at h
      have e : i.toNat = j := Option.some.inj h
      exact ⟨by rw [seqIndex_of h0 h1, e], by omega, by omega, h1⟩
    · rw [if_neg h1] at h; cases h
  · rw [if_neg h0] at h
    by_cases h1 : -(n : Int) ≤ i
    · rw [if_pos h1] at h
      have e : (i + n).toNat = j := Option.some.inj h
      exact ⟨by rw [seqIndex_neg (by omega) h1, e], by omega, h1, by omega⟩
    · rw [if_neg h1] at h; cases h
theorem atI_get {α : Type} {xs : List α} {i : Int} {v : α} (h : atI xs i = some v) : ∃ j, seqIndex? i xs.length = some j ∧ xs[j]? = some v ∧ j < xs.length ∧ -(xs.length : Int) ≤ i ∧ i < xs.length := by
  unfold atI at h
  cases e : ixN xs.length i with
  | none => rw [e] at h; cases h
  | some j =>
    rw [e] at h
    obtain ⟨h1, h2, h3, h4⟩ := ixN_seq e
    exact ⟨j, h1, h, h2, h3, h4⟩
theorem atI_nat {α : Type} {xs : List α} {j : Nat} {v : α} (h : xs[j]? = some v) : atI xs (j : Int) = some v := by
  have hj : j < xs.length := (List.getElem?_eq_some_iff.mp h).1
  have e : ixN xs.length (j : Int) = some j := by
    unfold ixN
    rw [if_pos (by omega), if_pos (by omega)]; simp
  unfold atI; rw [e]; exact h
def PlainIx (b : Expr) : Prop := ∀ o i, subscripted b false o i = operate [o, i] (getItem o i)
def IxR (X : Cx) (r : R2) : Prop :=
  ∀ (value slice : Expr) (pins : List (Addr × Obj)) (s : Shared) (σ : St) (H : Hp) (x y : V) (v u : Value) (Q : VK), Inv X pins σ H s → RelV x v → RelV y u → r x y H Q →
    subscripted slice false v u = operate [v, u] (getItem v u) → wpAny (model X.prog X.w) X.A (subscriptTail value slice v u) (EP X pins σ Q) X.xe s
def MtR (X : Cx) (id : String) (r : V → List V → Hp → VK → Prop) : Prop :=
  ∀ (pins : List (Addr × Obj)) (s : Shared) (σ : St) (H : Hp) (x : V) (xs : List V) (v : Value) (us : List Value) (Q : VK), Inv X pins σ H s → RelV x v → Vals xs us → r x xs H Q →
    wpAny (model X.prog X.w) X.A (call (.builtin id) (v :: us)) (EP X pins σ Q) X.xe s
section
variable {X : Cx} {a b : Expr} {ta tb : TE} {pos : Pos}
theorem IxR.or {r r' : R2} (h : IxR X r) (h' : IxR X r') : IxR X (fun x y H Q => r x y H Q ∨ r' x y H Q) := by
  intro value slice pins s σ H x y v u Q I rx ry q hs
  rcases q with q | q
  · exact h value slice pins s σ H x y v u Q I rx ry q hs
  · exact h' value slice pins s σ H x y v u Q I rx ry q hs
theorem MtR.or {id : String} {r r' : V → List V → Hp → VK → Prop} (h : MtR X id r) (h' : MtR X id r') : MtR X id (fun x xs H Q => r x xs H Q ∨ r' x xs H Q) := by
  intro pins s σ H x xs v us Q I rx rs q
  rcases q with q | q
  · exact h pins s σ H x xs v us Q I rx rs q
  · exact h' pins s σ H x xs v us Q I rx rs q
theorem pe_ix {r : R2} (hr : IxR X r) (ha : PE X a ta) (hb : PE X b tb) (hs : PlainIx b) : PE X (.Subscript a b pos) (tOp r ta tb) := by
  intro pins s σ H Q I h
  exact Subscript_ (binT ha hb I h fun v u s2 x y H2 I2 rx ry q => hr a b pins s2 σ H2 x y v u Q I2 rx ry q (hs _ _))
def rIxL (K : PySem.W.Frag) : R2 := fun x y H Q => ∃ p xs i v, x = .ref p ∧ y = .int i ∧ SqL K H p xs ∧ atI xs i = some v ∧ Q v H
def rIxT (K : PySem.W.Frag) : R2 := fun x y H Q => ∃ p xs i v, x = .ref p ∧ y = .int i ∧ SqT K H p xs ∧ atI xs i = some v ∧ Q v H
theorem ix_list : IxR X (rIxL X.K) := by
  intro value slice pins s σ H x y v u Q I rx ry h hs
  obtain ⟨p, xs, i, z, rfl, rfl, hq, he, q⟩ := h
  cases rx
  obtain ⟨t, rfl⟩ := ry
  obtain ⟨its, r, pl, hz⟩ := I.list hq
  obtain ⟨j, h1, h2, h3, h4, h5⟩ := atI_get he
  obtain ⟨w, ew, rw'⟩ := r.get h2
  have hl := r.length
  have hn := line63
  have fin : EP X pins σ Q w s := ⟨z, H, I, rw', q⟩
  by_cases h0 : 0 ≤ i
  · have hj : i.toNat = j := by
      rw [seqIndex_of h0 h5] at h1
      exact Option.some.inj h1
    exact item_listR pl.isList h0 (by omega) (by rw [hj]; simpa using ew) fin hs
  · have hj : (i + (its.toArray.size : Int)).toNat = j := by
      rw [seqIndex_neg (by omega) h4] at h1
      rw [List.size_toArray, ← hl]
      exact Option.some.inj h1
    exact subscriptTail_builtinR (x := w) pl.isList.typeIs slot_list_getitem.lookup
      (wpAny_getItem_list_neg (Q := fun r s' => r = w ∧ EP X pins σ Q r s') pl.isList (by omega) (by rw [List.size_toArray] <;> omega) (by omega) (by rw [hj]; simpa using ew) ⟨rfl, fin⟩) hs
theorem ix_tup : IxR X (rIxT X.K) := by
  intro value slice pins s σ H x y v u Q I rx ry h hs
  obtain ⟨p, xs, i, z, rfl, rfl, hq, he, q⟩ := h
  cases rx
  obtain ⟨t, rfl⟩ := ry
  obtain ⟨its, r, pl, hz⟩ := I.tuple hq
  obtain ⟨j, h1, h2, h3, h4, h5⟩ := atI_get he
  obtain ⟨w, ew, rw'⟩ := r.get h2
  have hl := r.length
  have hn := line63
  have fin : EP X pins σ Q w s := ⟨z, H, I, rw', q⟩
  exact subscriptTail_builtinR (x := w) pl.typeIs slot_tuple_getitem.lookup
    (getItem_tuple (j := j) (Q := fun r s' => r = w ∧ EP X pins σ Q r s') pl (by omega) (by omega) (by rw [List.size_toArray, ← hl]; exact h1) (by simpa using ew) ⟨rfl, fin⟩) hs
theorem Inv.lst {pins : List (Addr × Obj)} {σ : St} {H : Hp} {s : Shared} {p : Addr} {xs : List V} (I : Inv X pins σ H s) (h : H p = some (.lst xs)) :
    ∃ (its : List Value) (n : Nat), Vals xs its ∧ s.heap.get? p = some { cls := .type "list", data := .seq its.toArray n } ∧ xs.length ≤ sizeLine := by
  obtain ⟨z, its, n, r, e⟩ := I.hok p _ h
  exact ⟨its, n, r, e, z⟩
theorem call_len_seq : CallR X (.builtin "len") (fun xs H Q => ∃ p ys, xs = [.ref p] ∧ (SqL X.K H p ys ∨ SqT X.K H p ys) ∧ Q (.int ys.length) H) := by
  intro pins s σ H xs us Q I r h
  obtain ⟨p, ys, rfl, hq, q⟩ := h
  obtain ⟨u, rfl, rx⟩ := vals1 r
  cases rx
  have hn := line63
  rcases hq with hq | hq
  · obtain ⟨its, r', pl, hz⟩ := I.list hq
    have hlen := r'.length
    exact Calls.call_len_list pl.isList (by simp only [List.size_toArray] <;> omega) ⟨.int ys.length, H, I.tok _, ⟨s.toks + 1, by rw [List.size_toArray, hlen]⟩, q⟩
  · obtain ⟨its, r', pl, hz⟩ := I.tuple hq
    have hlen := r'.length
    exact len_tuple pl (by simp only [List.size_toArray] <;> omega) ⟨.int ys.length, H, I.tok _, ⟨s.toks + 1, by rw [List.size_toArray, hlen]⟩, q⟩
theorem call_len_str : CallR X (.builtin "len") (fun xs H Q => ∃ z, xs = [.str z] ∧ z.length ≤ sizeLine ∧ Q (.int z.length) H) := by
  intro pins s σ H xs us Q I r h
  obtain ⟨z, rfl, hz, q⟩ := h
  obtain ⟨u, rfl, t, rfl⟩ := vals1 r
  have hn := line63
  exact len_str (by omega) ⟨.int z.length, H, I.tok _, ⟨_, rfl⟩, q⟩
theorem CallR.or {f : Value} {r r' : List V → Hp → VK → Prop} (h : CallR X f r) (h' : CallR X f r') : CallR X f (fun xs H Q => r xs H Q ∨ r' xs H Q) := by
  intro pins s σ H xs us Q I rs q
  rcases q with q | q
  · exact h pins s σ H xs us Q I rs q
  · exact h' pins s σ H xs us Q I rs q
theorem call_tuple_of : CallR X (.type "tuple") (fun xs H Q => ∃ p ys, xs = [.ref p] ∧ ((SqL X.K H p ys ∧ ∀ l, H l = none → Q (.ref l) (upd H l (.tup ys))) ∨ (SqT X.K H p ys ∧ Q (.ref p) H))) := by
  intro pins s σ H xs us Q I r h
  obtain ⟨p, ys, rfl, h⟩ := h
  obtain ⟨u, rfl, rx⟩ := vals1 r
  cases rx
  rcases h with ⟨hq, q⟩ | ⟨hq, q⟩
  · obtain ⟨its, r', pl, hz⟩ := I.list hq
    have hlen := r'.length
    refine call_tuple_list pl.isList (fun h' kp => ?_) (by simp only [List.size_toArray] <;> omega)
    have I1 : Inv X pins σ H { s with heap := h' } := I.kept (t' := s.toks) kp
    have I2 : Inv X pins σ (upd H h'.objs.size (.tup ys)) { s with heap := h'.push { cls := .type "tuple", data := .seq its.toArray } } :=
      I1.laid (t' := s.toks) (fun b o e => Heap.get?_push_of_some _ e) (Nat.le_refl _) (show ObjOk X.prog X.w _ _ _ (.tup ys) from ⟨hz, its, r', IsTupN.new _ _⟩)
    exact ⟨.ref h'.objs.size, _, I2, rfl, q _ (I1.hok.fresh (Nat.le_refl _))⟩
  · obtain ⟨its, r', pl, hz⟩ := I.tuple hq
    exact call_tuple_same pl ⟨.ref p, H, I, rfl, q⟩
def tyV (K : PySem.W.Frag) (T : String) (x : V) (H : Hp) : Prop := match x with
  | .str _ => T = "str"
  | .int _ => T = "int"
  | .ref p => (T = "list" ∧ ∃ xs, SqL K H p xs) ∨ (T = "tuple" ∧ ∃ o, K.lookup p = some o ∧ o.cls = .type "tuple" ∧ o.dict = none) ∨
      (T = "dict" ∧ ((∃ kvs, H p = some (.dK kvs)) ∨ ∃ kvs, H p = some (.dT kvs))) ∨ (T = "set" ∧ ∃ S n, H p = some (.set S n))
  | _ => False
theorem tyV_is {pins : List (Addr × Obj)} {σ : St} {H : Hp} {s : Shared} {T : String} {x : V} {v : Value} (I : Inv X pins σ H s) (r : RelV x v) (ty : tyV X.K T x H) :
    s.TypeIs v T ∧ ∀ a, v = .ref a → ∃ ob, s.heap.get? a = some ob ∧ ob.dict = none := by
  cases x with
  | str z =>
    obtain ⟨t, rfl⟩ := r
    cases (show T = "str" from ty)
    exact ⟨typeIs_str s z t, fun _ e => nomatch e⟩
  | int i =>
    obtain ⟨t, rfl⟩ := r
    cases (show T = "int" from ty)
    exact ⟨typeIs_int s i t, fun _ e => nomatch e⟩
  | ref p =>
    cases r
    rcases ty with ⟨rfl, xs, hq⟩ | ⟨rfl, o, hk, hc, hd⟩ | ⟨rfl, hk⟩ | ⟨rfl, S, n, hk⟩
    · obtain ⟨its, _, pl, _⟩ := I.list hq
      refine ⟨pl.isList.typeIs, fun a e => ?_⟩
      cases e
      obtain ⟨o, n, e, c, hd, _⟩ := pl
      exact ⟨o, e, hd⟩
    · refine ⟨⟨o, I.kIn p o hk, hc⟩, fun a e => ?_⟩
      cases e
      exact ⟨o, I.kIn _ o hk, hd⟩
    · have z : ∃ o, s.heap.get? p = some o ∧ o.ExactDict := by
        rcases hk with ⟨kvs, hk⟩ | ⟨kvs, hk⟩
        · obtain ⟨_, _, _, _, o, _, _, e, ex, _⟩ := I.hok p _ hk
          exact ⟨o, e, ex⟩
        · obtain ⟨_, _, _, _, o, _, _, e, ex, _⟩ := I.hok p _ hk
          exact ⟨o, e, ex⟩
      obtain ⟨o, e, ex⟩ := z
      refine ⟨⟨o, e, ex.1⟩, fun a e2 => ?_⟩
      cases e2
      exact ⟨o, e, ex.2.1⟩
    · obtain ⟨o, _, _, _, e, ex, _⟩ := I.hok p _ hk
      refine ⟨⟨o, e, ex.1⟩, fun a e2 => ?_⟩
      cases e2
      exact ⟨o, e, ex.2.1⟩
  | _ => exact False.elim ty
def tBM (K : PySem.W.Frag) (T : String) (r : V → List V → Hp → VK → Prop) (to : TE) (t : TA) : TE := fun σ H Q => to σ H fun x H1 => tyV K T x H1 ∧ t σ H1 fun xs H2 => r x xs H2 Q
variable {o e : Expr} {es : List Expr} {to : TE} {t : TA} {name : Str} {apos cpos : Pos} {T id : String} {r : V → List V → Hp → VK → Prop}
theorem pe_bm (pa : PlainAttrs T) (slot : Slot T name id) (hty : typeOf (.builtin id) = pure (.type "method_descriptor")) (hm : MtR X id r) (ho : PE X o to) (ha : PA X (e :: es) t)
    (hbase : attributeBase o name X.env (eval o X.env) = eval o X.env := by rfl)
    (hfew : ((backTo cpos (starEach (e :: es) X.env)).all (fun x => !x.1) && (backToKw cpos (keywordEach [] X.env)).all (fun x => x.1.isSome)
      && decide ((e :: es).length + ([] : List Keyword).length + (if ([] : List Keyword).isEmpty then 0 else 1) < 30)) = true := by rfl)
    (hline : (apos.endLine == cpos.line) = true := by rfl) (hs : starEach (e :: es) X.env = (false, eval e X.env) :: starEach es X.env := by rfl) (hplain : (backTo cpos (starEach es X.env)).any (·.1) = false := by rfl) :
    PE X (.Call (.Attribute o name apos) (e :: es) [] cpos) (tBM X.K T r to t) := by
  intro pins s σ H Q I h
  refine wpAny_Call_method_late hbase hfew hline rfl (thn (ho pins s σ H _ I h) fun v s1 ⟨x, H1, I1, r1, ty, q1⟩ => ?_)
  obtain ⟨h1, h2⟩ := tyV_is I1 r1 ty
  refine ⟨T, id, pa, slot, hty, h1, h2, ?_⟩
  have hA := ha cpos pins s1 σ H1 _ I1 q1
  rw [hs] at hA ⊢
  refine Calls.callWith_builtin (by show (false || (backTo cpos (starEach es X.env)).any (·.1)) = false; rw [hplain] <;> rfl) (Calls.evalArgs_plain ?_)
  exact thn hA fun us s2 ⟨vs, H2, I2, r2, q2⟩ => hm pins s2 σ H2 x vs v us Q I2 r1 r2 q2
end
end L2
namespace L2
open PySem PySem.Spec PyProof.Rows
def MtM (X : Cx) (id : String) (r : V → List V → Hp → VK → Prop) : Prop :=
  ∀ (pins : List (Addr × Obj)) (s : Shared) (σ : St) (H : Hp) (x : V) (xs : List V) (v : Value) (us : List Value) (Q : VK), Inv X pins σ H s → RelV x v → Vals xs us → r x xs H Q →
    wpAny (model X.prog X.w) X.A (call (.builtin id) (v :: us)) (EP X pins σ Q) X.xe s
theorem Vals.one : ∀ {x : V} {us : List Value}, Vals [x] us → ∃ u, us = [u] ∧ RelV x u
  | _, _, .cons r .nil => ⟨_, rfl, r⟩
theorem Vals.two : ∀ {x y : V} {us : List Value}, Vals [x, y] us → ∃ u v, us = [u, v] ∧ RelV x u ∧ RelV y v
  | _, _, _, .cons r (.cons q .nil) => ⟨_, _, rfl, r, q⟩
theorem Vals.zero : ∀ {us : List Value}, Vals [] us → us = []
  | _, .nil => rfl
theorem Vals.eraseIdx : ∀ {xs : List V} {us : List Value} (i : Nat), Vals xs us → Vals (xs.eraseIdx i) (us.eraseIdx i)
  | _, _, _, .nil => .nil
  | _, _, 0, .cons _ t => t
  | _, _, i + 1, .cons r t => .cons r (Vals.eraseIdx i t)
theorem Vals.rep {xs : List V} {us : List Value} (h : Vals xs us) : ∀ k : Nat, Vals (List.replicate k xs).flatten (List.replicate k us).flatten
  | 0 => .nil
  | k + 1 => by
    rw [List.replicate_succ, List.replicate_succ, List.flatten_cons, List.flatten_cons]
    exact Vals.append h (Vals.rep h k)
theorem foldl_rep (its : List Value) : ∀ (k : Nat) (acc : List Value),
    List.foldl (fun x1 x2 => x1 ++ x2) acc.toArray (List.replicate k its.toArray) = (acc ++ (List.replicate k its).flatten).toArray
  | 0, acc => by simp
  | k + 1, acc => by
    have e : acc.toArray ++ its.toArray = (acc ++ its).toArray := by simp
    have e2 : (acc ++ its) ++ (List.replicate k its).flatten = acc ++ (List.replicate (k + 1) its).flatten := by
      rw [List.replicate_succ, List.flatten_cons, List.append_assoc]
    rw [← e2, ← foldl_rep its k (acc ++ its), ← e, List.replicate_succ, List.foldl_cons]
section
variable {X : Cx} {pins : List (Addr × Obj)} {σ : St} {H : Hp} {s : Shared} {l b : Addr} {xs ys zs : List V}
theorem Inv.lset {its its' : List Value} {n : Nat} {f : Array Value → Array Value} {t' : Nat} (I : Inv X pins σ H s) (hH : H l = some (.lst xs))
    (e : s.heap.get? l = some { cls := .type "list", data := .seq its.toArray n }) (hf : f its.toArray = its'.toArray) (hv : Vals ys its') (hz : ys.length ≤ sizeLine) :
    Inv X pins σ (upd H l (.lst ys)) { s with heap := s.heap.update l (Obj.mapSeq f), toks := t' } := by
  have q := PySem.IsL.update e f
  rw [hf] at q
  refine I.write (x := l) (e := l) (by rw [hH]; exact trivial) (.inl rfl) (fun b' u hb hu => (Heap.get?_update_other s.heap (Obj.mapSeq f) (Ne.symm hb)).trans hu) ⟨_, q⟩ ?_
  exact ⟨hz, its', _, hv, q⟩
theorem Inv.lnew {its : List Value} {t' : Nat} (I : Inv X pins σ H s) (hv : Vals ys its) (hz : ys.length ≤ sizeLine) :
    Inv X pins σ (upd H s.heap.objs.size (.lst ys)) { s with heap := s.heap.push { cls := .type "list", data := .seq its.toArray }, toks := t' } :=
  I.laid (fun _ _ q => Heap.get?_push_of_some _ q) (Nat.le_refl _) ⟨hz, its, 0, hv, Heap.get?_push_size _ rfl⟩
theorem Inv.fresh (I : Inv X pins σ H s) : H s.heap.objs.size = none := I.hok.fresh (Nat.le_refl _)
theorem Inv.lstM (I : Inv X pins σ H s) (hH : H l = some (.lst xs)) : xs.length ≤ sizeLine ∧ ∃ (its : List Value) (n : Nat), Vals xs its ∧ xs.length = its.length ∧ s.heap.get? l = some { cls := .type "list", data := .seq its.toArray n } := by
  obtain ⟨z, its, n, r, e⟩ := I.hok l _ hH
  exact ⟨z, its, n, r, r.length, e⟩
theorem notLongL {n : Nat} (h : n ≤ sizeLine) : Builtin.List.listTooLong n = false := by
  unfold Builtin.List.listTooLong
  exact decide_eq_false (by omega)
end
section
variable {X : Cx}
def rAppend : V → List V → Hp → VK → Prop := fun x vs H Q => ∃ l xs y, x = .ref l ∧ vs = [y] ∧ H l = some (.lst xs) ∧ xs.length < sizeLine ∧ Q .non (upd H l (.lst (xs ++ [y])))
theorem mt_append : MtM X "list.append" rAppend := by
  intro pins s σ H x vs v us Q I rx rv h
  obtain ⟨l, xs, y, rfl, rfl, hH, hz, q⟩ := h
  cases rx
  obtain ⟨u, rfl, ru⟩ := rv.one
  obtain ⟨z, its, n, r, hl, e⟩ := I.lstM hH
  refine call_meets F.slot_list_append ⟨_, e, rfl⟩ F.entry_list_append (F.args_list_append_2 _ _) (PySem.list_append l its.toArray n u (by rw [List.size_toArray]; omega)) ⟨e, ?_⟩
  refine ⟨.non, _, I.lset (its' := its ++ [u]) hH e (by simp) (r.append (.cons ru .nil)) ?_, rfl, q⟩
  rw [List.length_append, List.length_singleton]
  omega
def rRep : R2 := fun x y H Q => ∃ l k xs, x = .ref l ∧ y = .int k ∧ H l = some (.lst xs) ∧ -(2 ^ 63) ≤ k ∧ k < 2 ^ 63 ∧ xs.length * k.toNat ≤ sizeLine ∧
  ∀ p, H p = none → Q (.ref p) (upd H p (.lst (List.replicate k.toNat xs).flatten))
theorem len_rep {α : Type} (xs : List α) (k : Nat) : (List.replicate k xs).flatten.length = k * xs.length := by
  induction k with
  | zero => simp
  | succ k ih => rw [List.replicate_succ, List.flatten_cons, List.length_append, ih, Nat.succ_mul, Nat.add_comm]
theorem op_rep : OpR X (binaryOp .Mult) rRep := by
  intro pins s σ H x y v u Q I rx ry h
  obtain ⟨l, k, xs, rfl, rfl, hH, h1, h2, hz, q⟩ := h
  cases rx
  obtain ⟨t, rfl⟩ := ry
  obtain ⟨z, its, n, r, hl, e⟩ := I.lstM hH
  have hlen : its.toArray.size * k.toNat ≤ sizeLine := by rw [List.size_toArray, ← hl]; exact hz
  have hcap : ¬ its.toArray.size * k.toNat > (2 ^ 63 - 1) / 8 := by
    have : (sizeLine : Nat) ≤ (2 ^ 63 - 1) / 8 := by decide
    omega
  have hfit : ¬ (!Builtin.List.listFitsIndex k) = true := by
    rw [fitsIndex_both h1 h2]
    exact Bool.false_ne_true
  have hlong : ¬ Builtin.List.listTooLong (its.toArray.size * k.toNat) = true := by
    rw [notLongL hlen]
    exact Bool.false_ne_true
  have hnew : List.foldl (fun x1 x2 => x1 ++ x2) #[] (List.replicate (if its.toArray.isEmpty = true then 0 else k.toNat) its.toArray) = (List.replicate k.toNat its).flatten.toArray := by
    have f0 : ∀ m : Nat, List.foldl (fun x1 x2 => x1 ++ x2) #[] (List.replicate m its.toArray) = (List.replicate m its).flatten.toArray := fun m => by
      have := foldl_rep its m []
      rw [List.nil_append] at this
      exact this
    rw [f0]
    cases its with
    | nil => simp
    | cons a r' => rw [if_neg (by simp)]
  refine wpAny_binaryOp_repeat_ref (T := "list") (U := "int") (by decide) ⟨_, e, rfl⟩ (fun s' => typeIs_int s' k t) noFill_list_mul F.fills_int_mul F.slot_int_rmul repeat_list F.slot_int_index.lookup
    (call_meets F.slot_int_rmul (typeIs_int s k t) F.entry_int_rmul (F.args_int_rmul_2 _ _) (int___rmul___int_list k t l its.toArray n)
      ⟨e, rfl, ⟨_, e, rfl⟩, call_meets F.slot_list_mul ⟨_, e, rfl⟩ F.entry_list_mul (F.args_list_mul_2 _ _) (AutoListH.list___mul___list_int_3 l its.toArray n k t hfit hcap hlong) ⟨e, ?_⟩⟩)
  rw [hnew]
  exact ⟨.ref _, _, I.lnew (t' := s.toks) (r.rep k.toNat) (by rw [len_rep, Nat.mul_comm]; exact hz), rfl, q _ I.fresh⟩
end
section
variable {prog : Program} {w : World} {A : Around} {E : Value → Shared → Prop} {s : Shared}
end
section
variable {X : Cx}
end
end L2
namespace L2
open PySem PySem.Spec PyProof.Rows
section
variable {prog : Program} {w : World} {A : Around} {E : Value → Shared → Prop} {s : Shared} {l : Addr} {its : List Value} {ns : List Int} {Q : Value → Shared → Prop}
end
section
variable {X : Cx}
end
section
variable {X : Cx}
end
section
variable {X : Cx}
end
section
variable {X : Cx}
end
mutual
inductive Dp (K : PySem.W.Frag) (H : Hp) : V → PyData → Prop
  | non : Dp K H .non .none
  | bl (b : Bool) : Dp K H (.bl b) (.bool b)
  | int (i : Int) : Dp K H (.int i) (.int i)
  | str (x : Str) : Dp K H (.str x) (.str x)
  | lst {a : Addr} {xs : List V} {ds : List PyData} : SqL K H a xs → DpAll K H xs ds → Dp K H (.ref a) (.list ds)
  | tup {a : Addr} {xs : List V} {ds : List PyData} : SqT K H a xs → DpAll K H xs ds → Dp K H (.ref a) (.tuple ds)
inductive DpAll (K : PySem.W.Frag) (H : Hp) : List V → List PyData → Prop
  | nil : DpAll K H [] []
  | cons {v : V} {vs : List V} {d : PyData} {ds : List PyData} : Dp K H v d → DpAll K H vs ds → DpAll K H (v :: vs) (d :: ds)
end
section
variable {X : Cx} {pins : List (Addr × Obj)} {σ : St} {H : Hp} {s : Shared}
mutual
theorem Dp.reads (I : Inv X pins σ H s) : ∀ (d : PyData) (v : V) (u : Value), Dp X.K H v d → RelV v u → ∃ as, Reads s.heap u d as
  | .none, _, _, h, r => by
    cases h
    cases r
    exact ⟨_, Reads.none⟩
  | .bool b, _, _, h, r => by
    cases h
    cases r
    exact ⟨_, Reads.bool b⟩
  | .int i, _, _, h, r => by
    cases h
    obtain ⟨t, rfl⟩ := r
    exact ⟨_, Reads.int i t⟩
  | .str x, _, _, h, r => by
    cases h
    obtain ⟨t, rfl⟩ := r
    exact ⟨_, Reads.str x t⟩
  | .list ds, _, _, h, r => by
    cases h with
    | lst hs ha =>
      cases r
      obtain ⟨its, rv, ⟨o, n, ho, hc, _, hd⟩, _⟩ := I.list hs
      obtain ⟨as, hr⟩ := Dp.readsAll I ds _ its ha rv
      exact ⟨_, Reads.list ho hc hd hr⟩
  | .tuple ds, _, _, h, r => by
    cases h with
    | tup hs ha =>
      cases r
      obtain ⟨its, rv, ⟨o, ho, hc, n, hd⟩, _⟩ := I.tuple hs
      obtain ⟨as, hr⟩ := Dp.readsAll I ds _ its ha rv
      exact ⟨_, Reads.tuple ho hc hd hr⟩
  | .dict _, _, _, h, _ => by cases h
theorem Dp.readsAll (I : Inv X pins σ H s) : ∀ (ds : List PyData) (vs : List V) (us : List Value), DpAll X.K H vs ds → Vals vs us → ∃ as, ReadsAll s.heap us ds as
  | [], _, _, h, r => by
    cases h
    cases r
    exact ⟨_, ReadsAll.nil⟩
  | d :: ds, _, _, h, r => by
    cases h with
    | cons h1 h2 =>
      cases r with
      | cons r1 r2 =>
        obtain ⟨as, q1⟩ := Dp.reads I d _ _ h1 r1
        obtain ⟨bs, q2⟩ := Dp.readsAll I ds _ _ h2 r2
        exact ⟨_, ReadsAll.cons q1 q2⟩
end
end
section
variable {X : Cx}
def rEqD (K : PySem.W.Frag) : R2 := fun x y H Q => ∃ d e, Dp K H x d ∧ Dp K H y e ∧ SeqAt.shaped d = true ∧ SeqAt.shaped e = true ∧ Q (.bl (PyData.eqv d e)) H
def rNeD (K : PySem.W.Frag) : R2 := fun x y H Q => ∃ d e, Dp K H x d ∧ Dp K H y e ∧ SeqAt.shaped d = true ∧ SeqAt.shaped e = true ∧ Q (.bl (!PyData.eqv d e)) H
theorem op_eqD (hu : X.A.units + 64 < cLine) : OpR X (compareOp .Eq) (rEqD X.K) := by
  intro pins s σ H x y v u Q I rx ry h
  obtain ⟨d, e, hd, he, sd, se, q⟩ := h
  obtain ⟨as, r1⟩ := Dp.reads I d x v hd rx
  obtain ⟨bs, r2⟩ := Dp.reads I e y u he ry
  exact SeqAt.compareEq_shaped r1 r2 sd se hu ⟨.bl _, H, I, rfl, q⟩
theorem op_neD (hu : X.A.units + 64 < cLine) : OpR X (compareOp .NotEq) (rNeD X.K) := by
  intro pins s σ H x y v u Q I rx ry h
  obtain ⟨d, e, hd, he, sd, se, q⟩ := h
  obtain ⟨as, r1⟩ := Dp.reads I d x v hd rx
  obtain ⟨bs, r2⟩ := Dp.reads I e y u he ry
  exact SeqAt.compareNe_shaped r1 r2 sd se hu ⟨.bl _, H, I, rfl, q⟩
end
end L2
namespace L2
open PySem PySem.Spec PyProof.Rows
abbrev CellAt (h : Heap) (c : Addr) (v : Option Value) : Prop := h.IsCell c v
def relS (scope sc : Scope) : Scope :=
  { scope with names := scope.names.map fun (n, k) => if (k == .free && sc.kind == .function && sc.names.lookup n == some .cell) then (n, .cell) else (n, k) }
def cloFrom (cells : List (Str × Addr)) : List (Str × NameKind) → List (Str × Addr) → List (Str × Addr)
  | [], acc => acc
  | (n, k) :: r, acc => if k == .free then cloFrom cells r ((n, (cells.lookup n).getD 0) :: acc) else cloFrom cells r acc
theorem closure_loop (env : Env) (f : Str × NameKind → List (Str × Addr) → Sem (ForInStep (List (Str × Addr))))
    (hf : ∀ n k c, f (n, k) c = if k == .free then (do let a ← cellOf env n; pure (.yield ((n, a) :: c))) else pure (.yield c)) :
    ∀ (names : List (Str × NameKind)) (acc : List (Str × Addr)), (∀ y ∈ names, y.2 = .free → ∃ c, env.cells.lookup y.1 = some c) → forIn names acc f = pure (cloFrom env.cells names acc)
  | [], acc, _ => by rw [List.forIn_nil]; rfl
  | (n, k) :: r, acc, h => by
    rw [List.forIn_cons, hf]
    have ih := fun acc => closure_loop env f hf r acc fun y hy => h y (List.mem_cons_of_mem _ hy)
    unfold cloFrom
    by_cases hk : (k == NameKind.free) = true
    · rw [if_pos hk, if_pos hk]
      obtain ⟨c, hc⟩ := h (n, k) List.mem_cons_self (by simpa using hk)
      have e : cellOf env n = pure c := by unfold cellOf; rw [hc]
      rw [e]
      have e2 : (env.cells.lookup n).getD 0 = c := by rw [hc]; rfl
      rw [e2]
      exact ih _
    · rw [if_neg hk, if_neg hk]
      exact ih _
theorem closure_ok {scope : Scope} {env : Env} (h : ∀ y ∈ scope.names, y.2 = .free → ∃ c, env.cells.lookup y.1 = some c) : closureFor scope env = pure (cloFrom env.cells scope.names []) := by
  simp only [closureFor]
  rw [closure_loop env _ (fun n k c => rfl) scope.names [] h]
  rfl
theorem mem_lookup {α : Type} : ∀ {l : List (Str × α)} {n : Str} {c : α}, (n, c) ∈ l → ∃ c', l.lookup n = some c'
  | (k, v) :: r, n, c, h => by
    rw [List.lookup_cons]
    cases hb : n == k with
    | true => exact ⟨_, rfl⟩
    | false =>
      rcases List.mem_cons.mp h with e | h
      · cases e; simp at hb
      · exact mem_lookup h
theorem cloFrom_mem {cells : List (Str × Addr)} : ∀ {names : List (Str × NameKind)} {acc : List (Str × Addr)} {n : Str} {c : Addr}, (n, c) ∈ cloFrom cells names acc → (n, c) ∈ acc ∨ ((n, .free) ∈ names ∧ c = (cells.lookup n).getD 0)
  | [], _, _, _, h => .inl h
  | (m, k) :: r, acc, n, c, h => by
    unfold cloFrom at h
    split at h
    · rename_i hk
      have hk : k = .free := by simpa using hk
      rcases cloFrom_mem h with h | ⟨h1, h2⟩
      · rcases List.mem_cons.mp h with e | h
        · cases e; exact .inr ⟨hk ▸ List.mem_cons_self, rfl⟩
        · exact .inl h
      · exact .inr ⟨List.mem_cons_of_mem _ h1, h2⟩
    · rcases cloFrom_mem h with h | ⟨h1, h2⟩
      · exact .inl h
      · exact .inr ⟨List.mem_cons_of_mem _ h1, h2⟩
theorem cloFrom_acc {cells : List (Str × Addr)} : ∀ {names : List (Str × NameKind)} {acc : List (Str × Addr)} {p : Str × Addr}, p ∈ acc → p ∈ cloFrom cells names acc
  | [], _, _, h => h
  | (m, k) :: r, acc, p, h => by
    unfold cloFrom
    split
    · exact cloFrom_acc (List.mem_cons_of_mem _ h)
    · exact cloFrom_acc h
theorem cloFrom_has {cells : List (Str × Addr)} : ∀ {names : List (Str × NameKind)} {acc : List (Str × Addr)} {n : Str}, (n, .free) ∈ names → (n, (cells.lookup n).getD 0) ∈ cloFrom cells names acc
  | (m, k) :: r, acc, n, h => by
    unfold cloFrom
    rcases List.mem_cons.mp h with e | h
    · cases e
      exact cloFrom_acc List.mem_cons_self
    · split
      · exact cloFrom_has h
      · exact cloFrom_has h
theorem cells_mem : ∀ {names : List (Str × NameKind)} {h : Heap} {acc : List (Str × Addr)} {x : Str} {c : Addr}, (x, c) ∈ cellsFrom h.objs.size names acc →
    (x, c) ∈ acc ∨ ((x, .cell) ∈ names ∧ h.objs.size ≤ c ∧ CellAt (pushCells h names) c none)
  | [], _, _, _, _, h => .inl h
  | (n, k) :: r, h, acc, x, c, hm => by
    unfold cellsFrom at hm
    unfold pushCells
    split at hm
    · rename_i hk
      rw [if_pos hk]
      have hk : k = .cell := by simpa using hk
      rw [← Heap.size_push h { cls := .type "cell", data := .cell none }] at hm
      rcases cells_mem hm with hm | ⟨h1, h2, h3⟩
      · rcases List.mem_cons.mp hm with e | hm
        · cases e
          exact .inr ⟨hk ▸ List.mem_cons_self, Nat.le_refl _, _, pushCells_keeps r _ _ _ (Heap.get?_push_size _ rfl), rfl⟩
        · exact .inl hm
      · rw [Heap.size_push] at h2
        exact .inr ⟨List.mem_cons_of_mem _ h1, Nat.le_of_succ_le h2, h3⟩
    · rename_i hk
      rw [if_neg hk]
      rcases cells_mem hm with hm | ⟨h1, h2, h3⟩
      · exact .inl hm
      · exact .inr ⟨List.mem_cons_of_mem _ h1, h2, h3⟩
theorem cells_acc : ∀ {names : List (Str × NameKind)} {n : Nat} {acc : List (Str × Addr)} {p : Str × Addr}, p ∈ acc → p ∈ cellsFrom n names acc
  | [], _, _, _, h => h
  | (m, k) :: r, n, acc, p, h => by
    unfold cellsFrom
    split
    · exact cells_acc (List.mem_cons_of_mem _ h)
    · exact cells_acc h
theorem cells_has : ∀ {names : List (Str × NameKind)} {n : Nat} {acc : List (Str × Addr)} {x : Str}, (x, .cell) ∈ names → ∃ c, (x, c) ∈ cellsFrom n names acc
  | (m, k) :: r, n, acc, x, h => by
    unfold cellsFrom
    rcases List.mem_cons.mp h with e | h
    · cases e
      exact ⟨n, cells_acc List.mem_cons_self⟩
    · split
      · exact cells_has h
      · exact cells_has h
theorem cells_inj : ∀ {names : List (Str × NameKind)} {h : Heap} {acc : List (Str × Addr)} {x y : Str} {c : Addr}, (∀ p ∈ acc, p.2 < h.objs.size) → (∀ x y c, (x, c) ∈ acc → (y, c) ∈ acc → x = y) →
    (x, c) ∈ cellsFrom h.objs.size names acc → (y, c) ∈ cellsFrom h.objs.size names acc → x = y
  | [], _, _, _, _, _, _, hi, h1, h2 => hi _ _ _ h1 h2
  | (n, k) :: r, h, acc, x, y, c, hl, hi, h1, h2 => by
    unfold cellsFrom at h1 h2
    split at h1
    · rename_i hk
      rw [if_pos hk] at h2
      rw [← Heap.size_push h { cls := .type "cell", data := .cell none }] at h1 h2
      refine cells_inj (h := h.push _) (fun p hp => ?_) (fun x y c a b => ?_) h1 h2
      · rw [Heap.size_push]
        rcases List.mem_cons.mp hp with rfl | hp
        · exact Nat.lt_succ_self _
        · exact Nat.lt_succ_of_lt (hl p hp)
      · rcases List.mem_cons.mp a with e | a <;> rcases List.mem_cons.mp b with e' | b
        · cases e; cases e'; rfl
        · cases e; exact absurd (hl _ b) (Nat.lt_irrefl _)
        · cases e'; exact absurd (hl _ a) (Nat.lt_irrefl _)
        · exact hi _ _ _ a b
    · rename_i hk
      rw [if_neg hk] at h2
      exact cells_inj hl hi h1 h2
theorem newEnv_comp {M : Model} {A : Around} {E : Value → Shared → Prop} {s : Shared} {scope : Scope} {globals : Addr} {closure : List (Str × Addr)} {qual : Str} {func : Option Addr} {code : Value} {around : Env} {builtins : Addr} {Q : Env → Shared → Prop}
    (h : Q (newEnv scope s.heap.objs.size globals (cellsFrom (s.heap.objs.size + 1) scope.names closure) qual func code (some around) builtins)
      { s with heap := pushCells (s.heap.push { cls := .type "dict", data := .dict #[] }) scope.names }) :
    wpAny M A (newFunctionEnv scope globals closure [] qual func code (some around) builtins) Q E s := by
  simp only [newFunctionEnv, Option.isSome_some, if_true]
  refine wpAny_bind (wpAny_alloc ?_)
  refine wpAny_bind (wpAny_layCells _ (fun n k c => rfl) scope.names closure _ _ ?_)
  rw [show ({ s with heap := s.heap.push { cls := .type "dict", data := .dict #[] } } : Shared).heap.objs.size = s.heap.objs.size + 1 from Heap.size_push ..]
  rw [List.forIn_nil]
  exact wpAny_bind (wpAny_pure (wpAny_pure h))
theorem lookup_relS {sc : Scope} : ∀ {names : List (Str × NameKind)} {x : Str} {k : NameKind},
    (names.map fun (n, k) => if (k == NameKind.free && sc.kind == .function && sc.names.lookup n == some .cell) then (n, NameKind.cell) else (n, k)).lookup x = some k →
    ∃ k', names.lookup x = some k' ∧ (k = k' ∨ (k' = .free ∧ k = .cell))
  | [], _, _, h => by simp at h
  | (n, k₀) :: r, x, k, h => by
    have ih := @lookup_relS sc r x k
    have h' : List.lookup x ((if (k₀ == NameKind.free && sc.kind == .function && sc.names.lookup n == some .cell) = true then (n, NameKind.cell) else (n, k₀)) :: (r.map _)) = some k := h
    cases hx : x == n with
    | true =>
      simp only [List.lookup_cons, hx]
      by_cases hc : (k₀ == NameKind.free && sc.kind == .function && sc.names.lookup n == some .cell) = true
      · rw [if_pos hc] at h'
        simp only [List.lookup_cons, hx] at h'
        cases h'
        simp only [Bool.and_eq_true, beq_iff_eq] at hc
        exact ⟨k₀, rfl, .inr ⟨hc.1.1, rfl⟩⟩
      · rw [if_neg hc] at h'
        simp only [List.lookup_cons, hx] at h'
        cases h'
        exact ⟨_, rfl, .inl rfl⟩
    | false =>
      simp only [List.lookup_cons, hx]
      by_cases hc : (k₀ == NameKind.free && sc.kind == .function && sc.names.lookup n == some .cell) = true
      · rw [if_pos hc] at h'
        simp only [List.lookup_cons, hx] at h'
        exact ih h'
      · rw [if_neg hc] at h'
        simp only [List.lookup_cons, hx] at h'
        exact ih h'
structure BlkOk (N : List Str) (sc scope : Scope) (own : List (Str × Nat)) : Prop where
  kind : scope.kind = .function
  uniq : ∀ y ∈ scope.names, scope.names.lookup y.1 = some y.2
  ix : ∀ p ∈ own, N[p.2]? = some p.1
  free : ∀ y ∈ scope.names, y.2 = .free → sc.names.lookup y.1 = some .cell ∨ sc.names.lookup y.1 = some .free
  own : ∀ y ∈ scope.names, y.2 = .local ∨ y.2 = .cell → y.1 ∈ own.map (·.1) ∨ y.1 ∉ N
def wipe (σ : St) : List Nat → St
  | [] => σ
  | v :: vs => (wipe σ vs).set v none
theorem wipe_length (σ : St) : ∀ vs : List Nat, (wipe σ vs).length = σ.length
  | [] => rfl
  | v :: vs => by unfold wipe; rw [List.length_set, wipe_length σ vs]
theorem wipe_some {σ : St} {i : Nat} {x : V} : ∀ {vs : List Nat}, (wipe σ vs)[i]? = some (some x) → σ[i]? = some (some x) ∧ i ∉ vs
  | [], h => ⟨h, by simp⟩
  | v :: vs, h => by
    unfold wipe at h
    by_cases hi : v = i
    · subst hi
      by_cases hv : v < (wipe σ vs).length
      · rw [List.getElem?_set_self hv] at h; cases h
      · rw [List.getElem?_eq_none (by simpa using hv)] at h; cases h
    · rw [List.getElem?_set_ne hi] at h
      obtain ⟨h1, h2⟩ := wipe_some h
      exact ⟨h1, by simp only [List.mem_cons, not_or]; exact ⟨fun e => hi e.symm, h2⟩⟩
abbrev Cx.blk (X : Cx) (s : Shared) (H : Hp) (scope : Scope) (cenv : Env) (fp : List Addr) : Cx := { X with s_0 := s, H_0 := H, env := cenv, outer := X.stack, ex := fp, fn := fun x => scope.names.lookup x == some .cell, pn := [], xe := fun _ _ => False }
section
variable {X : Cx} {pins : List (Addr × Obj)} {σ : St} {H : Hp} {s : Shared}
theorem block_start {scope : Scope} {own : List (Str × Nat)} {fp : List Addr} (I : Inv X pins σ H s) (ok : BlkOk X.N X.env.scope scope own) (hN : X.N.Nodup) (hfp : ∀ b ∈ fp, FpOk X pins H b ∧ b < s.heap.objs.size) :
    Inv (X.blk s H scope (compEnvC scope (cellsFrom (s.heap.objs.size + 1) scope.names (cloFrom X.env.cells scope.names [])) s.heap.objs.size X.env) fp) [] (wipe σ (own.map (·.2))) H { s with heap := pushCells (s.heap.push { cls := .type "dict", data := .dict #[] }) scope.names } := by
  have hfree : ∀ y ∈ scope.names, y.2 = .free → ∃ c, X.env.cells.lookup y.1 = some c := fun y hy e => by
    rcases ok.free y hy e with k | k
    · exact I.ok.has _ (.inl k)
    · exact I.ok.has _ (.inr k)
  generalize hcenv : compEnvC scope (cellsFrom (s.heap.objs.size + 1) scope.names (cloFrom X.env.cells scope.names [])) s.heap.objs.size X.env = cenv
  have kp : ∀ b o, s.heap.get? b = some o → (pushCells (s.heap.push { cls := .type "dict", data := .dict #[] }) scope.names).get? b = some o := fun b o e => pushCells_keeps _ _ _ _ (Heap.get?_push_of_some _ e)
  have hL : cenv.locals = s.heap.objs.size := by rw [← hcenv]; rfl
  have hcl : cenv.cells = cellsFrom (s.heap.objs.size + 1) scope.names (cloFrom X.env.cells scope.names []) := by rw [← hcenv]; rfl
  have hsc : cenv.scope = relS scope X.env.scope := by rw [← hcenv]; rfl
  rw [← Heap.size_push s.heap { cls := .type "dict", data := .dict #[] }] at hcl
  have cm : ∀ {y c}, (y, c) ∈ cloFrom X.env.cells scope.names [] → X.env.cells.lookup y = some c ∧ c < s.heap.objs.size := fun {y c} hm => by
    rcases cloFrom_mem hm with hm | ⟨h1, rfl⟩
    · cases hm
    · obtain ⟨c, hc⟩ := hfree _ h1 rfl
      rw [hc]
      obtain ⟨w, z⟩ := I.cell _ _ hc
      exact ⟨rfl, z.lt⟩
  have mem : ∀ {y c}, cenv.cells.lookup y = some c → (X.env.cells.lookup y = some c ∧ c < s.heap.objs.size) ∨ (s.heap.objs.size + 1 ≤ c ∧ CellAt (pushCells (s.heap.push { cls := .type "dict", data := .dict #[] }) scope.names) c none) := fun {y c} e => by
    rw [hcl] at e
    rcases cells_mem (PySem.mem_of_lookup e) with hm | ⟨_, h2, h3⟩
    · exact .inl (cm hm)
    · rw [Heap.size_push] at h2; exact .inr ⟨h2, h3⟩
  have look : ∀ {y}, scope.names.lookup y = some .free → ∃ c, cenv.cells.lookup y = some c ∧ X.env.cells.lookup y = some c := fun {y} hl => by
    have hy : (y, NameKind.free) ∈ scope.names := PySem.mem_of_lookup hl
    obtain ⟨c', e'⟩ := mem_lookup (cells_acc (names := scope.names) (n := (s.heap.push { cls := .type "dict", data := .dict #[] }).objs.size) (cloFrom_has (cells := X.env.cells) (acc := []) hy))
    rw [← hcl] at e'
    refine ⟨c', e', ?_⟩
    rw [hcl] at e'
    rcases cells_mem (PySem.mem_of_lookup e') with hm | ⟨h1, _, _⟩
    · exact (cm hm).1
    · have := ok.uniq _ h1
      rw [hl] at this; cases this
  have okB : (X.blk s H scope cenv fp).Ok := by
    refine ⟨I.ok.mod, by show cenv.scope.kind = _; rw [hsc]; exact ok.kind, by show cenv.globals = _; rw [← hcenv]; exact I.ok.glob, by show cenv.builtins = _; rw [← hcenv]; exact I.ok.blt, by show s.heap.objs.size ≤ cenv.locals; rw [hL]; exact Nat.le_refl _,
      fun y z c e1 e2 => ?_, fun y hy => ?_, fun y c z e => ?_, I.ok.hd, I.ok.frames, .inl rfl, fun b hb => ⟨?_, fun y c e z => ?_⟩, I.bs, Nat.le_trans I.ok.bsz I.sz, fun b o e hb => ?_, fun b hb z => ?_, I.stack, I.stkFree⟩
    · have e1 : cenv.cells.lookup y = some c := e1
      have e2 : cenv.cells.lookup z = some c := e2
      rw [hcl] at e1 e2
      refine cells_inj (fun p hp => ?_) (fun y z c a b => I.ok.inj y z c (cm a).1 (cm b).1) (PySem.mem_of_lookup e1) (PySem.mem_of_lookup e2)
      rw [Heap.size_push]
      exact Nat.lt_succ_of_lt (cm (y := p.1) (c := p.2) hp).2
    · show ∃ c, cenv.cells.lookup y = some c
      have key : ∀ k, cenv.kindOf y = some k → (k = .cell ∨ k = .free) → ∃ c, cenv.cells.lookup y = some c := fun k hk hk' => by
        unfold Env.kindOf at hk
        rw [hsc] at hk
        obtain ⟨k', e, r⟩ := lookup_relS hk
        have : k' = .cell ∨ k' = .free := by
          rcases r with rfl | ⟨rfl, _⟩
          · exact hk'
          · exact .inr rfl
        rcases this with rfl | rfl
        · obtain ⟨c, hm⟩ := cells_has (n := (s.heap.push { cls := .type "dict", data := .dict #[] }).objs.size) (acc := cloFrom X.env.cells scope.names []) (PySem.mem_of_lookup e)
          obtain ⟨c', e'⟩ := mem_lookup hm
          exact ⟨c', by rw [hcl]; exact e'⟩
        · obtain ⟨c, h1, _⟩ := look e
          exact ⟨c, h1⟩
      rcases hy with hy | hy
      · exact key _ hy (.inl rfl)
      · exact key _ hy (.inr rfl)
    · have z : (scope.names.lookup y == some NameKind.cell) = true := z
      have z : scope.names.lookup y = some .cell := by simpa using z
      have e : cenv.cells.lookup y = some c := e
      rw [hcl] at e
      rcases cells_mem (PySem.mem_of_lookup e) with hm | ⟨_, h2, _⟩
      · rcases cloFrom_mem hm with hm | ⟨h1, _⟩
        · cases hm
        · have q := ok.uniq _ h1
          rw [z] at q; cases q
      · rw [Heap.size_push] at h2
        exact Nat.le_of_succ_le h2
    · show b ≠ cenv.locals
      rw [hL]; exact Nat.ne_of_lt (hfp b hb).2
    · have e : cenv.cells.lookup y = some c := e
      rcases mem e with ⟨h1, _⟩ | ⟨h1, _⟩
      · exact (hfp b hb).1.2.2.2.2.1 y c h1 z
      · have h2 : s.heap.objs.size + 1 ≤ b := by rw [← z]; exact h1
        exact absurd (Nat.lt_of_lt_of_le (hfp b hb).2 (Nat.le_of_succ_le h2)) (Nat.lt_irrefl _)
    · rcases (hfp b hb).1.2.2.2.1 with z | z
      · exact I.ok.noex b o e z
      · exact absurd (Nat.lt_of_lt_of_le (Heap.lt_size e) (Nat.le_trans I.ok.bsz z)) (Nat.lt_irrefl _)
    · rcases List.mem_cons.mp (I.stkSub b z) with z | z
      · exact (hfp b hb).1.2.1 z
      · exact (hfp b hb).1.2.2.1 z
  refine ⟨okB, rfl, I.bare, Un.kept kp, ⟨fun _ => none, ?_, fun i y av e1 e2 e3 => ?_⟩, fun y c e => ?_, ?_, fun y c e => ?_, fun p hp => ?_, I.hok.kept kp, by rw [wipe_length]; exact I.len⟩
  · show Heap.Ns _ cenv.locals _
    rw [hL]
    exact Heap.Ns.keeps (Heap.Ns.new ..) fun b o e => pushCells_keeps _ _ _ _ e
  · obtain ⟨e2, hne⟩ := wipe_some e2
    have hfr : scope.names.lookup y = some .free ∧ (cenv.kindOf y = some .cell ∨ cenv.kindOf y = some .free) := by
      have key : ∀ k, cenv.scope.names.lookup y = some k → k = .local ∨ k = .cell ∨ k = .free → scope.names.lookup y = some .free ∧ (cenv.kindOf y = some .cell ∨ cenv.kindOf y = some .free) := fun k hk hk' => by
        have hk0 := hk
        rw [hsc] at hk
        obtain ⟨k', e, r⟩ := lookup_relS hk
        have no : ¬ (k' = .local ∨ k' = .cell) := fun hh => by
          rcases ok.own _ (PySem.mem_of_lookup e) hh with e' | e'
          · obtain ⟨p, hp, hpy⟩ := List.mem_map.mp e'
            have e3 := ok.ix p hp
            have : p.1 = y := hpy
            rw [this] at e3
            exact hne (List.mem_map.mpr ⟨p, hp, nodup_ix hN e3 e1⟩)
          · exact e' (List.mem_of_getElem? e1)
        rcases r with rfl | ⟨rfl, rfl⟩
        · rcases hk' with rfl | rfl | rfl
          · exact absurd (.inl rfl) no
          · exact absurd (.inr rfl) no
          · exact ⟨e, .inr hk0⟩
        · exact ⟨e, .inl hk0⟩
      have e3 : Vis cenv.scope y := e3
      rcases e3 with e3 | e3 | e3
      · exact key _ e3 (.inl rfl)
      · exact key _ e3 (.inr (.inl rfl))
      · exact key _ e3 (.inr (.inr rfl))
    obtain ⟨m, hn, hl⟩ := I.loc
    have hvis : Vis X.env.scope y := (ok.free _ (PySem.mem_of_lookup hfr.1) rfl).elim (fun k => .inr (.inl k)) (fun k => .inr (.inr k))
    obtain ⟨w, r, q⟩ := hl i y av e1 e2 hvis
    refine ⟨w, r, .inr ⟨hfr.2, ?_⟩⟩
    obtain ⟨c, h1, h2⟩ := look hfr.1
    rcases q with ⟨k, _⟩ | ⟨_, c', e', z⟩
    · have k : X.env.scope.names.lookup y = some .local := k
      rcases ok.free _ (PySem.mem_of_lookup hfr.1) rfl with k' | k' <;> rw [show X.env.scope.names.lookup y = _ from k'] at k <;> cases k
    · rw [h2] at e'; cases e'
      exact ⟨c, h1, z.keeps kp⟩
  · have e : cenv.cells.lookup y = some c := e
    rcases mem e with ⟨h1, _⟩ | ⟨_, z⟩
    · obtain ⟨w, z⟩ := I.cell y c h1
      exact ⟨w, z.keeps kp⟩
    · exact ⟨_, z⟩
  · show H cenv.locals = none
    rw [hL]; exact I.hok.fresh (Nat.le_refl _)
  · have e : cenv.cells.lookup y = some c := e
    rcases mem e with ⟨h1, _⟩ | ⟨h1, _⟩
    · exact I.freeC y c h1
    · exact I.hok.fresh (Nat.le_of_succ_le h1)
  · exact absurd (show p ∈ ([] : List (Addr × Obj)) ++ [] from hp) (by simp)
theorem app_ok {E : Value → Shared → Prop} {D : Addr} {xs : List V} {y : V} {v : Value} {Q : Value → Shared → Prop} (I : Inv X pins σ H s) (hD : H D = some (.lst xs)) (hz : xs.length < sizeLine) (r : RelV y v)
    (h : ∀ s', Inv X pins σ (upd H D (.lst (xs ++ [y]))) s' → Q .none s') : wpAny (model X.prog X.w) X.A (call (.builtin "list.append") [.ref D, v]) Q E s := by
  obtain ⟨hz', its, n, ri, e⟩ := I.hok D _ hD
  have hl := ri.length
  refine append_at (hsz := by rw [List.size_toArray]; omega) e fun h' sb ho' => ?_
  refine h { s with heap := h' } (I.write (t' := s.toks) (by rw [hD]; trivial) (.inl rfl) (fun b u hb q => (sb.2 b hb).trans q) ⟨_, ho'⟩ ⟨by rw [List.length_append]; exact hz, its ++ [v], n + 1, ri.append (.cons r .nil), ?_⟩)
  rw [ho']
  simp
def PTs (X : Cx) (ifs : List Expr) (t : TT) : Prop :=
  ∀ (pins : List (Addr × Obj)) (s : Shared) (σ : St) (H : Hp) (Q : Bool → Hp → Prop), Inv X pins σ H s → t σ H Q →
    wpAny (model X.prog X.w) X.A (forIn ifs true fun c r => if r = true then do let ok ← isTrue c X.env (eval c X.env); pure (ForInStep.yield ok) else pure (ForInStep.yield r)) (TP X pins σ Q) X.xe s
def tYes : TT := fun _ H Q => Q true H
theorem pts_nil : PTs X [] tYes := fun _ _ _ H _ I h => wpAny_tests_nil ⟨H, I, h⟩
theorem pts_one {c : Expr} {t : TT} (h : PT X c t) : PTs X [c] t := fun pins s σ H Q I hw => wpAny_tests_one (h pins s σ H Q I hw)
end
theorem thnF {α : Type} {t : Sem α} {Q Q' : α → Shared → Prop} {M : Model} {A : Around} {E : Value → Shared → Prop} {s : Shared} (h : wpAny M A t Q (fun _ _ => False) s) (hQ : ∀ a s, Q a s → Q' a s) : wpAny M A t Q' E s := wpAny_mono h hQ fun _ _ z => False.elim z
theorem compLoop_any {prog : Program} {w : World} {A : Around} {R : Result → Shared → Prop} {s : Shared} {elt target iter : Expr} {ifs : List Expr} {scope : Scope} {pos : Pos} {it acc : Value} {env : Env} (I : Nat → Shared → Prop)
    (turn : ∀ n s, I n s → wpAny (model prog w) A (pyNext it) (fun r s₁ => match r with
      | none => R (.ok .next) s₁
      | some v => wpAny (model prog w) A (letOwnedTupleGo target it v) (fun _ s₁' => wpAny (model prog w) A (assign target env v) (fun _ s₂ =>
          wpAny (model prog w) A (forIn ifs true fun c r => if r = true then do let ok ← isTrue c env (eval c env); pure (ForInStep.yield ok) else pure (ForInStep.yield r)) (fun ok s₃ =>
            if ok = true then wpAny (model prog w) A (eval elt env) (fun x s₄ =>
              wpAny (model prog w) A (call (.builtin "list.append") [acc, x]) (fun _ s₅ => ∃ m, m < n ∧ I m s₅) (notedBy (model prog w) A env fun e s' => R (.error e) s') s₄) (notedBy (model prog w) A env fun e s' => R (.error e) s') s₃
            else ∃ m, m < n ∧ I m s₃) (notedBy (model prog w) A env fun e s' => R (.error e) s') s₂) (notedBy (model prog w) A env fun e s' => R (.error e) s') s₁') (notedBy (model prog w) A env fun e s' => R (.error e) s') s₁) (notedBy (model prog w) A env fun e s' => R (.error e) s') s)
    (n : Nat) (h : I n s) :
    codeAny (model prog w) A (.compLoop (.ListComp elt [⟨target, iter, ifs, 0⟩] scope pos) 0 it acc env) R s := by
  refine codeAny_loop rfl I (fun n s hI => ?_) n h
  show wpAny _ A ((compTurn (.ListComp elt [⟨target, iter, ifs, 0⟩] scope pos) 0 it acc env).onRaise (fun x => do noteFrame x env; theTreesLotGoes x)) _ _ s
  refine wpAny_noted ?_
  rw [compTurn_list]
  refine wpAny_bind (wpAny_standAt (wpAny_bind (wpAny_mono (turn n s hI) (fun r s₁ h₁ => ?_) fun _ _ h' => h')))
  cases r with
  | none => exact wpAny_pure h₁
  | some v =>
    refine wpAny_bind (wpAny_mono h₁ (fun _ s₁' h₁' => ?_) fun _ _ h' => h')
    refine wpAny_bind (wpAny_mono h₁' (fun _ s₂ h₂ => wpAny_bind (wpAny_mono h₂ (fun ok s₃ h₃ => ?_) fun _ _ h' => h')) fun _ _ h' => h')
    cases ok with
    | false => exact wpAny_pure ⟨rfl, h₃⟩
    | true =>
      exact wpAny_bind (wpAny_bind (wpAny_mono h₃ (fun x s₄ h₄ => wpAny_bind (wpAny_mono h₄ (fun _ s₅ h₅ => wpAny_pure (wpAny_pure ⟨rfl, h₅⟩)) fun _ _ h' => h')) fun _ _ h' => h'))
section
variable {X : Cx}
def tLc (wi : TI) (g : TG) (tt : TT) (te : TE) (vs : List Nat) : TE := fun σ H Q => wi σ H fun J H1 => ∀ D, H1 D = none → ∃ W : Nat → Nat → Hp → Prop, (∃ m, W 0 m (upd H1 D (.lst []))) ∧ ∀ i m H, W i m H →
  (J.stop i H ∧ Q (.ref D) H) ∨ (J.go i H ∧ ∃ Nx : Hp → Prop, (∀ H', Nx H' → ∃ m', m' < m ∧ W (i + 1) m' H') ∧ ∀ x H', J.yld i H x H' → g x (wipe σ vs) H' fun σ2 H2 => wipe σ2 vs = wipe σ vs ∧ tt σ2 H2 fun b H3 =>
    if b = true then te σ2 H3 fun y H4 => ∃ acc, H4 D = some (.lst acc) ∧ acc.length < sizeLine ∧ Nx (upd H4 D (.lst (acc ++ [y]))) else Nx H3)
theorem lc_core {pins : List (Addr × Obj)} {s : Shared} {σ : St} {H : Hp} {Q : VK} {elt tg iter : Expr} {ifs : List Expr} {scope : Scope} {own : List (Str × Nat)} {pos pos' : Pos} {wi : TI} {g : TG} {tt : TT} {te : TE} {use : Option (Value → Sem Unit)} {Qf : Value → Shared → Prop}
    (hc : X.calm = true) (hN : X.N.Nodup) (I : Inv X pins σ H s) (hi : PI X tg iter wi) (ok : BlkOk X.N X.env.scope scope own)
    (hg : ∀ (s : Shared) (H : Hp) (C : Addr) (cl : List (Str × Addr)) (fp : List Addr), PG (X.blk s H scope (compEnvC scope cl C X.env) fp) tg g) (ht : ∀ (s : Shared) (H : Hp) (C : Addr) (cl : List (Str × Addr)) (fp : List Addr), PTs (X.blk s H scope (compEnvC scope cl C X.env) fp) ifs tt)
    (he : ∀ (s : Shared) (H : Hp) (C : Addr) (cl : List (Str × Addr)) (fp : List Addr), PE (X.blk s H scope (compEnvC scope cl C X.env) fp) elt te) (hs : ∀ x, foldedSetIterable iter X.env x = pure x)
    (h : tLc wi g tt te (own.map (·.2)) σ H Q)
    (hRR : ∀ D C s' m H', Inv X pins σ H' s' → Q (.ref D) H' → s'.heap.Ns C m → FpOk X pins H' C → compPost (model X.prog X.w) X.A X.xe use Qf (.ref D) C (.ok .next) s') :
    wpAny (model X.prog X.w) X.A (comprehension (.ListComp elt [⟨tg, iter, ifs, 0⟩] scope pos) scope X.env pos' (newList []) false (eval iter X.env) use) Qf X.xe s := by
  have hfree : ∀ y ∈ scope.names, y.2 = .free → ∃ c, X.env.cells.lookup y.1 = some c := fun y hy e => by
    rcases ok.free y hy e with k | k
    · exact I.ok.has _ (.inl k)
    · exact I.ok.has _ (.inr k)
  refine wpAny_comprehension_free (use := use) rfl hs (closure_ok hfree) ok.kind (fun y hy e => by rw [ok.uniq y hy, e])
    (thn (hi pins s σ H _ I h) fun xv s1 hx => thn hx fun itv s2 h2 => ?_)
  obtain ⟨it, fp, tn, J, H2, e, I2, T, st2, f2, q⟩ := h2
  subst e
  refine wpAny_newObj_type (newEnv_comp ?_) (by show 0 ≤ sizeLine; decide)
  generalize hD : s2.heap.objs.size = D
  have hDn : H2 D = none := I2.hok.fresh (Nat.le_of_eq hD)
  obtain ⟨W, ⟨m0, w0⟩, turn⟩ := q D hDn
  -- the new list
  generalize hs3 : ({ s2 with heap := s2.heap.push { cls := .type "list", data := .seq ([] : List Value).toArray } } : Shared) = s3
  have I3 : Inv X pins σ (upd H2 D (.lst [])) s3 := by
    rw [← hs3]
    refine I2.laid (t' := s2.toks) (fun b o e => Heap.get?_push_of_some _ e) (Nat.le_of_eq hD) ⟨Nat.zero_le _, [], 0, .nil, ?_⟩
    rw [← hD]
    exact Heap.get?_push_size _ rfl
  have h3 : s3.heap = s2.heap.push { cls := .type "list", data := .seq ([] : List Value).toArray } := by rw [← hs3]
  have sz : ∀ b ∈ fp, b < s2.heap.objs.size := fun b hb => by
    obtain ⟨o, e, _⟩ := T.obj _ _ st2 b hb
    exact Heap.lt_size e
  have f3 : ∀ b ∈ fp, FpOk X pins (upd H2 D (.lst [])) b ∧ b < s3.heap.objs.size := fun b hb => by
    have hlt := sz b hb
    refine ⟨⟨?_, (f2 b hb).2⟩, by rw [h3, Heap.size_push]; exact Nat.lt_succ_of_lt hlt⟩
    rw [upd_ne (by rw [← hD]; exact Nat.ne_of_lt hlt)]
    exact (f2 b hb).1
  have st3 : tn 0 s3.heap := T.keep _ _ _ st2 fun b _ o e => by rw [h3]; exact Heap.get?_push_of_some _ e
  have I4 := block_start I3 ok hN f3
  have pg := hg s3 (upd H2 D (.lst [])) s3.heap.objs.size (cellsFrom (s3.heap.objs.size + 1) scope.names (cloFrom X.env.cells scope.names [])) fp
  have pt := ht s3 (upd H2 D (.lst [])) s3.heap.objs.size (cellsFrom (s3.heap.objs.size + 1) scope.names (cloFrom X.env.cells scope.names [])) fp
  have pe := he s3 (upd H2 D (.lst [])) s3.heap.objs.size (cellsFrom (s3.heap.objs.size + 1) scope.names (cloFrom X.env.cells scope.names [])) fp
  show codeAny _ _ (.compStart (.ListComp elt [⟨tg, iter, ifs, 0⟩] scope pos) 0 (.ref it) (.ref D) (compEnvC scope (cellsFrom (s3.heap.objs.size + 1) scope.names (cloFrom X.env.cells scope.names [])) s3.heap.objs.size X.env)) (compPost (model X.prog X.w) X.A X.xe use Qf (.ref D) s3.heap.objs.size) { s3 with heap := pushCells (s3.heap.push { cls := .type "dict", data := .dict #[] }) scope.names }
  have nfp : ∀ b ∈ fp, (upd H2 D (.lst [])) b = none := fun b hb => (f3 b hb).1.1
  generalize hce : compEnvC scope (cellsFrom (s3.heap.objs.size + 1) scope.names (cloFrom X.env.cells scope.names [])) s3.heap.objs.size X.env = ce at I4 pg pt pe ⊢
  have cL : ce.locals = s3.heap.objs.size := by subst hce; rfl
  generalize hH3 : upd H2 D (.lst []) = H3 at I3 I4 pg pt pe w0 nfp f3
  generalize hs4 : ({ s3 with heap := pushCells (s3.heap.push { cls := .type "dict", data := .dict #[] }) scope.names } : Shared) = s4 at I4 ⊢
  have st4 : tn 0 s4.heap := T.keep _ _ _ st3 fun b _ o e => by rw [← hs4]; exact pushCells_keeps _ _ _ _ (Heap.get?_push_of_some _ e)
  have stat : ∀ {σ' : St} {H' : Hp} {s' : Shared}, Inv (X.blk s3 H3 scope ce fp) [] σ' H' s' → (∀ b ∈ fp, H' b = none) → ∀ b ∈ fp, FpOk (X.blk s3 H3 scope ce fp) [] H' b := fun {σ' H' s'} I' hn b hb =>
    ⟨hn b hb, (I'.ok.exf b hb).1, I'.ok.exfs b hb, .inl hb, fun x c e => (I'.ok.exf b hb).2 x c e, fun p hp => absurd (show p ∈ ([] : List (Addr × Obj)) ++ [] from hp) (by simp)⟩
  have loop : codeAny (model X.prog X.w) X.A (.compLoop (.ListComp elt [⟨tg, iter, ifs, 0⟩] scope pos) 0 (.ref it) (.ref D) ce) (compPost (model X.prog X.w) X.A X.xe use Qf (.ref D) s3.heap.objs.size) s4 := by
    refine compLoop_any (fun n s' => ∃ i H', Inv (X.blk s3 H3 scope ce fp) [] (wipe σ (own.map (·.2))) H' s' ∧ tn i s'.heap ∧ (∀ b ∈ fp, H' b = none) ∧ W i n H') ?_ m0 ⟨0, H3, I4, st4, nfp, w0⟩
    rintro n s5 ⟨i, H5, I5, st5, n5, w5⟩
    rcases turn i n H5 w5 with ⟨stop, qq⟩ | ⟨go, Nx, hNx, step⟩
    · have td := T.done (X.blk s3 H3 scope ce fp) rfl rfl rfl hc i [] s5 _ H5 (fun _ _ => False) I5 (stat I5 n5) st5 stop
      refine thnF td fun r s6 ⟨hr, I6⟩ => ?_
      subst hr
      -- back in the def's context
      have I7 : Inv X pins σ H5 s6 := I3.call' (ch := fp) I6.os I6.base I6.hok I6.bare fun b hb => ⟨(f3 b hb).1.2.2.2.1, (f3 b hb).1.2.1, (f3 b hb).1.2.2.2.2.1, (f3 b hb).1.2.2.2.2.2⟩
      have nC : H5 s3.heap.objs.size = none := by
        have z : H5 ce.locals = none := I6.free
        rw [cL] at z
        exact z
      obtain ⟨m, hn, _⟩ := I6.loc
      have hn : s6.heap.Ns ce.locals m := hn
      rw [cL] at hn
      exact hRR D s3.heap.objs.size s6 m H5 I7 qq hn (I3.fpOk (Nat.le_refl _) nC)
    · have ti := T.item (X.blk s3 H3 scope ce fp) rfl rfl rfl hc i [] s5 _ H5 (fun _ _ => False) I5 (stat I5 n5) st5 go
      refine thnF ti fun r s6 ⟨u, hr, h6⟩ => ?_
      subst hr
      refine thnF h6 fun _ s7 ⟨x, H7, I7, r7, y7, st7, n7⟩ => ?_
      have I7' := I7.pinned (stat I7 n7) (T.obj _ _ st7)
      refine thnF (pg _ s7 _ H7 x u _ I7' r7 (step x H7 y7)) fun _ s8 ⟨σ8, H8, I8, hw8, q8⟩ => ?_
      refine thnF (pt _ s8 σ8 H8 _ I8 q8) fun b s9 ⟨H9, I9, q9⟩ => ?_
      -- the turn's end
      have fin : ∀ {s' : Shared} {H' : Hp}, Inv (X.blk s3 H3 scope ce fp) ([] ++ pinsAt fp s7.heap) σ8 H' s' → Nx H' → ∃ m, m < n ∧ ∃ i H', Inv (X.blk s3 H3 scope ce fp) [] (wipe σ (own.map (·.2))) H' s' ∧ tn i s'.heap ∧ (∀ b ∈ fp, H' b = none) ∧ W i m H' := fun {s' H'} I' nx => by
        obtain ⟨m', hm, w'⟩ := hNx H' nx
        have pin' : ∀ b ∈ fp, ∀ o, s7.heap.get? b = some o → s'.heap.get? b = some o ∧ H' b = none := fun b hb o e =>
          let z := I'.pin (b, o) (List.mem_append_right _ (List.mem_append_right _ (mem_pinsAt hb e)))
          ⟨z.1, z.2.1⟩
        have hl : (wipe σ (own.map (·.2))).length = σ8.length := by rw [← hw8, wipe_length]
        refine ⟨m', hm, i + 1, H', (I'.unpinned (pins := [])).weak hl (fun j v e => ?_), T.keep _ _ _ st7 fun b hb o e => (pin' b hb o e).1, fun b hb => ?_, w'⟩
        · rw [← hw8] at e
          exact (wipe_some e).1
        · obtain ⟨o, e, _⟩ := T.obj _ _ st7 b hb
          exact (pin' b hb o e).2
      cases b with
      | false =>
        simp only [Bool.false_eq_true, if_false] at q9 ⊢
        exact fin I9 q9
      | true =>
        simp only [if_true] at q9 ⊢
        refine thnF (pe _ s9 σ8 H9 _ I9 q9) fun z s10 ⟨yv, H10, I10, r10, acc, hD10, hz10, nx⟩ => ?_
        exact app_ok (X := X.blk s3 H3 scope ce fp) I10 hD10 hz10 r10 fun s11 I11 => fin I11 nx
  exact codeAny_compStart_list loop (T.self X.A 0 _ _ _ st4 loop)
theorem pe_lc {elt tg iter : Expr} {ifs : List Expr} {scope : Scope} {own : List (Str × Nat)} {pos : Pos} {wi : TI} {g : TG} {tt : TT} {te : TE} (hc : X.calm = true) (hN : X.N.Nodup) (hi : PI X tg iter wi) (ok : BlkOk X.N X.env.scope scope own)
    (hg : ∀ (s : Shared) (H : Hp) (C : Addr) (cl : List (Str × Addr)) (fp : List Addr), PG (X.blk s H scope (compEnvC scope cl C X.env) fp) tg g) (ht : ∀ (s : Shared) (H : Hp) (C : Addr) (cl : List (Str × Addr)) (fp : List Addr), PTs (X.blk s H scope (compEnvC scope cl C X.env) fp) ifs tt)
    (he : ∀ (s : Shared) (H : Hp) (C : Addr) (cl : List (Str × Addr)) (fp : List Addr), PE (X.blk s H scope (compEnvC scope cl C X.env) fp) elt te) (hs : ∀ x, foldedSetIterable iter X.env x = pure x := by intro _; rfl) :
    PE X (.ListComp elt [⟨tg, iter, ifs, 0⟩] scope pos) (tLc wi g tt te (own.map (·.2))) := by
  intro pins s σ H Q I h
  rw [eval_ListComp]
  refine lc_core hc hN I hi ok hg ht he hs h fun D C s' m H' I' q hn f => ⟨m, hn, fun h'' sb => ?_⟩
  obtain ⟨f0, f1, f2, f3, f4, f5⟩ := f
  exact ⟨.ref D, H', I'.turned (t' := s'.toks) (fun b o hb e => (sb.2 b hb).trans e) f0 f1 f3 f4 f5, rfl, q⟩
end
end L2
namespace L2
open PySem PySem.Spec PyProof.Rows
section
variable {prog : Program} {w : World} {A : Around} {R : Result → Shared → Prop} {s : Shared} {elt t0 i0 t1 i1 : Expr} {ifs0 ifs1 : List Expr} {scope : Scope} {pos : Pos} {it acc : Value} {env : Env}
end
theorem wipe_out {σ : St} {i : Nat} : ∀ {vs : List Nat}, i ∉ vs → (wipe σ vs)[i]? = σ[i]?
  | [], _ => rfl
  | v :: vs, h => by
    have h1 : v ≠ i := fun e => h (by rw [e]; exact List.mem_cons_self)
    have h2 : i ∉ vs := fun m => h (List.mem_cons_of_mem _ m)
    unfold wipe
    rw [List.getElem?_set_ne h1]
    exact wipe_out h2
section
variable {X : Cx}
end
end L2
namespace L2
open PySem PySem.Spec PyProof.Rows
section
variable {κ : Type} [DecidableEq κ]
def valV (kvs : List (κ × V)) (k : κ) : Option V := (kvs.find? fun kv => decide (kv.1 = k)).map (·.2)
def putK (kvs : List (κ × V)) (k : κ) (v : V) : List (κ × V) :=
  if (kvs.any fun kv => decide (kv.1 = k)) = true then kvs.map (fun kv => if kv.1 = k then (kv.1, v) else kv) else kvs ++ [(k, v)]
def dropK (kvs : List (κ × V)) (k : κ) : List (κ × V) := kvs.filter fun kv => decide (kv.1 ≠ k)
theorem valV_pos {p : κ × V} {r : List (κ × V)} {k : κ} (e : p.1 = k) : valV (p :: r) k = some p.2 := by simp [valV, List.find?_cons, e]
theorem valV_neg {p : κ × V} {r : List (κ × V)} {k : κ} (e : ¬ p.1 = k) : valV (p :: r) k = valV r k := by simp [valV, List.find?_cons, e]
theorem valV_any (k : κ) : ∀ kvs : List (κ × V), (kvs.any fun kv => decide (kv.1 = k)) = (valV kvs k).isSome
  | [] => rfl
  | p :: r => by
    rw [List.any_cons]
    by_cases e : p.1 = k
    · simp only [valV_pos e, decide_eq_true e, Bool.true_or, Option.isSome_some]
    · rw [valV_neg e, decide_eq_false e, Bool.false_or]; exact valV_any k r
theorem RelO.isSome_eq {o : Option V} {u : Option Value} (r : RelO o u) : o.isSome = u.isSome := by
  cases o with
  | none => cases u with
    | none => rfl
    | some _ => exact (show False from r).elim
  | some _ => cases u with
    | none => exact (show False from r).elim
    | some _ => rfl
theorem RelO.getD {o : Option V} {u : Option Value} {d : V} {d' : Value} (r : RelO o u) (rd : RelV d d') : RelV (o.getD d) (u.getD d') := by
  cases o with
  | none => cases u with
    | none => exact rd
    | some _ => exact (show False from r).elim
  | some _ => cases u with
    | none => exact (show False from r).elim
    | some _ => exact r
theorem KV.val {kvs : List (κ × V)} {vs : List (κ × Value)} (r : KV kvs vs) (k : κ) : RelO (valV kvs k) (valueAt vs k) := by
  unfold KV at r
  induction r with
  | nil => exact True.intro
  | @cons p q ps qs h t ih =>
    obtain ⟨h1, h2⟩ := h
    by_cases e : p.1 = k
    · have e' : q.1 = k := h1.symm.trans e
      have b : valueAt (q :: qs) k = some q.2 := by simp [valueAt, List.find?_cons, e']
      rw [valV_pos e, b]; exact h2
    · have e' : ¬ q.1 = k := fun z => e (h1.trans z)
      have b : valueAt (q :: qs) k = valueAt qs k := by simp [valueAt, List.find?_cons, e']
      rw [valV_neg e, b]; exact ih
theorem KV.any {kvs : List (κ × V)} {vs : List (κ × Value)} (r : KV kvs vs) (k : κ) : (kvs.any fun kv => decide (kv.1 = k)) = vs.any fun kv => decide (kv.1 = k) := by
  unfold KV at r
  induction r with
  | nil => rfl
  | cons h t ih => rw [List.any_cons, List.any_cons, ih, h.1]
theorem KV.repl {kvs : List (κ × V)} {vs : List (κ × Value)} (r : KV kvs vs) (k : κ) {y : V} {u : Value} (ry : RelV y u) :
    KV (kvs.map fun kv => if kv.1 = k then (kv.1, y) else kv) (vs.map fun kv => if kv.1 = k then (kv.1, u) else kv) := by
  unfold KV at r ⊢
  induction r with
  | nil => exact .nil
  | @cons p q ps qs h t ih =>
    rw [List.map_cons, List.map_cons]
    refine .cons ?_ ih
    obtain ⟨h1, h2⟩ := h
    by_cases e : p.1 = k
    · rw [if_pos e, if_pos (h1.symm.trans e)]; exact ⟨h1, ry⟩
    · rw [if_neg e, if_neg (fun z => e (h1.trans z))]; exact ⟨h1, h2⟩
theorem KV.put {kvs : List (κ × V)} {vs : List (κ × Value)} (r : KV kvs vs) (k : κ) {y : V} {u : Value} (ry : RelV y u) : KV (putK kvs k y) (stored vs k u) := by
  unfold putK stored
  rw [r.any k]
  by_cases e : (vs.any fun kv => decide (kv.1 = k)) = true
  · rw [if_pos e, if_pos e]; exact r.repl k ry
  · rw [if_neg e, if_neg e]; exact Paired.snoc r ⟨rfl, ry⟩
theorem KV.drop {kvs : List (κ × V)} {vs : List (κ × Value)} (r : KV kvs vs) (k : κ) : KV (dropK kvs k) (without vs k) := by
  unfold KV at r ⊢
  unfold dropK without
  induction r with
  | nil => exact .nil
  | @cons p q ps qs h t ih =>
    obtain ⟨h1, h2⟩ := h
    rw [List.filter_cons, List.filter_cons]
    by_cases e : p.1 = k
    · have a : ¬ decide (p.1 ≠ k) = true := by simp [e]
      have b : ¬ decide (q.1 ≠ k) = true := by simp [h1.symm.trans e]
      rw [if_neg a, if_neg b]; exact ih
    · have e' : ¬ q.1 = k := fun z => e (h1.trans z)
      have a : decide (p.1 ≠ k) = true := by simp [e]
      have b : decide (q.1 ≠ k) = true := by simp [e']
      rw [if_pos a, if_pos b]; exact .cons ⟨h1, h2⟩ ih
theorem KV.length {kvs : List (κ × V)} {vs : List (κ × Value)} (r : KV kvs vs) : kvs.length = vs.length := Paired.length r
end
abbrev KT (H : Hp) : List (List Key × V) → List (List Key × Addr × Value) → Prop := Paired fun p q => p.1 = q.1 ∧ H q.2.1 = some (.tup (p.1.map kV)) ∧ RelV p.2 q.2.2
theorem KT.val {H : Hp} {kvs : List (List Key × V)} {xs : List (List Key × Addr × Value)} (r : KT H kvs xs) (k : List Key) : RelO (valV kvs k) ((atKey xs k).map (·.2)) := by
  induction r with
  | nil => exact True.intro
  | @cons p q ps qs h t ih =>
    obtain ⟨h1, _, h2⟩ := h
    by_cases e : p.1 = k
    · have e' : q.1 = k := h1.symm.trans e
      have b : atKey (q :: qs) k = some q.2 := by simp [atKey, List.find?_cons, e']
      rw [valV_pos e, b]; exact h2
    · have e' : ¬ q.1 = k := fun z => e (h1.trans z)
      have b : atKey (q :: qs) k = atKey qs k := by simp [atKey, List.find?_cons, e']
      rw [valV_neg e, b]; exact ih
theorem KT.repl {H : Hp} {kvs : List (List Key × V)} {xs : List (List Key × Addr × Value)} (r : KT H kvs xs) (k : List Key) {y : V} {u : Value} (ry : RelV y u) :
    KT H (kvs.map fun kv => if kv.1 = k then (kv.1, y) else kv) (xs.map (putAt k u)) := by
  induction r with
  | nil => exact .nil
  | @cons p q ps qs h t ih =>
    rw [List.map_cons, List.map_cons]
    refine .cons ?_ ih
    obtain ⟨h1, h2, h3⟩ := h
    unfold putAt
    by_cases e : p.1 = k
    · rw [if_pos e, if_pos (h1.symm.trans e)]; exact ⟨h1, h2, ry⟩
    · rw [if_neg e, if_neg (fun z => e (h1.trans z))]; exact ⟨h1, h2, h3⟩
theorem KT.put {H : Hp} {kvs : List (List Key × V)} {xs : List (List Key × Addr × Value)} (r : KT H kvs xs) (k : List Key) {b : Addr} {y : V} {u : Value} (hb : H b = some (.tup (k.map kV))) (ry : RelV y u) :
    KT H (putK kvs k y) (storedH xs k b u) := by
  have e : (kvs.any fun kv => decide (kv.1 = k)) = (atKey xs k).isSome := by
    rw [valV_any, (r.val k).isSome_eq, Option.isSome_map]
  unfold putK storedH
  rw [e]
  by_cases q : (atKey xs k).isSome = true
  · rw [if_pos q, if_pos q]; exact r.repl k ry
  · rw [if_neg q, if_neg q]; exact Paired.snoc r ⟨rfl, hb, ry⟩
theorem KT.keeps {H H' : Hp} {kvs : List (List Key × V)} {xs : List (List Key × Addr × Value)} (r : KT H kvs xs) (ht : ∀ b ys, H b = some (.tup ys) → H' b = some (.tup ys)) : KT H' kvs xs :=
  Paired.mapP r fun _ _ z => ⟨z.1, ht _ _ z.2.1, z.2.2⟩
section
variable {P : Program} {w : World} {H : Hp} {h : Heap} {a : Addr}
end
def DGet (H : Hp) (a : Addr) (y : V) (r : Option V) : Prop :=
  (∃ kvs k, Rd H a (.dK kvs) ∧ y = kV k ∧ r = valV kvs k) ∨ ∃ kvs k b, Rd H a (.dT kvs) ∧ y = .ref b ∧ H b = some (.tup (k.map kV)) ∧ r = valV kvs k
def DPut (H : Hp) (a : Addr) (y v : V) (H' : Hp) : Prop :=
  (∃ kvs k, H a = some (.dK kvs) ∧ y = kV k ∧ kvs.length < sizeLine ∧ H' = upd H a (.dK (putK kvs k v))) ∨
  ∃ kvs k b, H a = some (.dT kvs) ∧ y = .ref b ∧ H b = some (.tup (k.map kV)) ∧ kvs.length < sizeLine ∧ H' = upd H a (.dT (putK kvs k v))
theorem DGet.k {H : Hp} {a : Addr} {kvs : List (Key × V)} {k : Key} (e : H a = some (.dK kvs)) : DGet H a (kV k) (valV kvs k) := .inl ⟨kvs, k, .inl e, rfl, rfl⟩
theorem DGet.t {H : Hp} {a b : Addr} {kvs : List (List Key × V)} {k : List Key} (e : H a = some (.dT kvs)) (eb : H b = some (.tup (k.map kV))) : DGet H a (.ref b) (valV kvs k) := .inr ⟨kvs, k, b, .inl e, rfl, eb, rfl⟩
theorem DPut.k {H : Hp} {a : Addr} {kvs : List (Key × V)} {k : Key} {v : V} (e : H a = some (.dK kvs)) (hl : kvs.length < sizeLine) : DPut H a (kV k) v (upd H a (.dK (putK kvs k v))) := .inl ⟨kvs, k, e, rfl, hl, rfl⟩
theorem DPut.t {H : Hp} {a b : Addr} {kvs : List (List Key × V)} {k : List Key} {v : V} (e : H a = some (.dT kvs)) (eb : H b = some (.tup (k.map kV))) (hl : kvs.length < sizeLine) :
    DPut H a (.ref b) v (upd H a (.dT (putK kvs k v))) := .inr ⟨kvs, k, b, e, rfl, eb, hl, rfl⟩
section
variable {X : Cx} {pins : List (Addr × Obj)} {σ : St} {H : Hp} {s : Shared} {a : Addr} {y v : V} {u r : Value} {o : Option V} {A : Around} {E : Value → Shared → Prop}
end
section
variable {X : Cx} {pins : List (Addr × Obj)} {σ : St} {H : Hp} {s : Shared} {a : Addr} {kvs : List (Key × V)} {k : Key} {u : Value} {A : Around} {E : Value → Shared → Prop}
end
section
variable {X : Cx} {o i e value : Expr} {pos pos' tpos : Pos} {td ty tv : TE}
end
section
variable {X : Cx} {pos : Pos}
end
structure M1 (X : Cx) (o : Expr) (m : Str) (apos : Pos) (e : Expr) (cpos : Pos) : Prop where
  base : attributeBase o m X.env (eval o X.env) = eval o X.env
  few : ((backTo cpos (starEach [e] X.env)).all (fun x => !x.1) && (backToKw cpos (keywordEach [] X.env)).all (fun x => x.1.isSome)
    && decide (([e] : List Expr).length + ([] : List Keyword).length + (if ([] : List Keyword).isEmpty then 0 else 1) < 30)) = true
  line : (apos.endLine == cpos.line) = true
  trees : backTo cpos (starEach [e] X.env) = [(false, eval e X.env)]
structure M2 (X : Cx) (o : Expr) (m : Str) (apos : Pos) (e f : Expr) (cpos : Pos) : Prop where
  base : attributeBase o m X.env (eval o X.env) = eval o X.env
  few : ((backTo cpos (starEach [e, f] X.env)).all (fun x => !x.1) && (backToKw cpos (keywordEach [] X.env)).all (fun x => x.1.isSome)
    && decide (([e, f] : List Expr).length + ([] : List Keyword).length + (if ([] : List Keyword).isEmpty then 0 else 1) < 30)) = true
  line : (apos.endLine == cpos.line) = true
  trees : backTo cpos (starEach [e, f] X.env) = [(false, eval e X.env), (false, eval f X.env)]
section
variable {X : Cx} {pins : List (Addr × Obj)} {σ : St} {H : Hp} {s : Shared} {a : Addr} {y d : V} {u r : Value} {o : Option V} {A : Around} {E : Value → Shared → Prop}
end
section
variable {X : Cx} {o e f : Expr} {apos cpos : Pos} {td ty tx : TE}
end
section
variable {X : Cx} {pins : List (Addr × Obj)} {σ : St} {H : Hp} {s : Shared} {a : Addr} {kvs : List (Key × V)} {A : Around} {E : Value → Shared → Prop}
end
section
variable {X : Cx} {pins : List (Addr × Obj)} {σ : St} {H : Hp} {s : Shared} {a : Addr} {y : V} {u : Value} {A : Around} {E : Value → Shared → Prop}
end
end L2
namespace L2
open PySem PySem.Spec PyProof.Rows
section
variable {prog : Program} {w : World} {A : Around} {E : Value → Shared → Prop}
end
section
variable {X : Cx}
end
end L2
namespace L2
open PySem PySem.Spec PyProof.Rows
section
variable {X : Cx} {pins : List (Addr × Obj)} {σ : St} {H : Hp} {s : Shared} {h' : Heap}
theorem Inv.turnedL {t' : Nat} {ch : List Addr} (I : Inv X pins σ H s) (k : ∀ b o, b ∉ ch → s.heap.get? b = some o → h'.get? b = some o) (hf : ∀ b ∈ ch, FpOk X pins H b) : Inv X pins σ H { s with heap := h', toks := t' } := by
  have nit : ∀ b u, H b = some u → b ∉ ch := fun b u e z => by
    have q := (hf b z).1
    rw [q] at e; cases e
  refine I.step (g' := s.gens) (d' := s.drawn) (ch := ch) (fun b hb => ⟨(hf b hb).2.2.2.1, (hf b hb).2.1, (hf b hb).2.2.2.2.1, (hf b hb).2.2.2.2.2⟩) (fun b o _ _ hc e _ => k b o hc e) (fun b o _ _ hc e _ => ⟨o.slots, k b o hc e⟩)
    (fun _ _ _ _ n => n) (fun b o hc e => ⟨o, k b o hc e⟩) (fun _ _ e => e) (fun _ _ _ e => e) (fun b ps e => ⟨#[], by rw [e]; simp⟩) (fun m hm => ?_) (fun b u e => ?_) I.bare
  · obtain ⟨o, es, ep, ho, r⟩ := hm
    exact ⟨o, es, ep, k _ o (fun z => (hf _ z).2.1 rfl) ho, r⟩
  · refine (I.hok b u e).stay (fun c v hc q => k c v ?_ q) (fun _ q => q) fun _ _ q => q
    rcases hc with z | z
    · rw [z]; exact nit b u e
    · exact nit c _ z
theorem Inv.turnedNew {t' : Nat} {ch : List Addr} {T : Addr} {ob : HO} (I : Inv X pins σ H s) (k : ∀ b o, b ∉ ch → s.heap.get? b = some o → h'.get? b = some o) (hf : ∀ b ∈ ch, FpOk X pins H b) (hT : s.heap.objs.size ≤ T)
    (new : ObjOk X.prog X.w (upd H T ob) h' T ob) : Inv X pins σ (upd H T ob) { s with heap := h', toks := t' } := by
  have hn : H T = none := I.hok.fresh hT
  have nit : ∀ b u, H b = some u → b ∉ ch := fun b u e z => by
    have q := (hf b z).1
    rw [q] at e; cases e
  refine I.step (g' := s.gens) (d' := s.drawn) (ch := ch) (fun b hb => ⟨(hf b hb).2.2.2.1, (hf b hb).2.1, (hf b hb).2.2.2.2.1, (hf b hb).2.2.2.2.2⟩) (fun b o _ _ hc e _ => k b o hc e) (fun b o _ _ hc e _ => ⟨o.slots, k b o hc e⟩)
    (fun b o _ e n => ?_) (fun b o hc e => ⟨o, k b o hc e⟩) (fun b xs e => ?_) (fun b o u e => ?_) (fun b ps e => ⟨#[], ?_⟩) (fun m hm => ?_) (fun b u e => ?_) I.bare
  · rw [upd_ne (Nat.ne_of_lt (Nat.lt_of_lt_of_le (Heap.lt_size e) hT))]; exact n
  · rw [upd_ne (ne_of_none e hn)]; exact e
  · rw [upd_ne (ne_of_none e hn)]; exact e
  · rw [upd_ne (ne_of_none e hn), e]; simp
  · obtain ⟨o, es, ep, ho, r⟩ := hm
    exact ⟨o, es, ep, k _ o (fun z => (hf _ z).2.1 rfl) ho, r⟩
  · by_cases hb : b = T
    · subst hb
      rw [upd_same] at e
      cases e
      exact new
    · rw [upd_ne hb] at e
      refine (I.hok b u e).stay (fun c v hc q => k c v ?_ q) (fun c q => by rw [upd_ne (ne_of_none q hn)]; exact q) fun c xs q => by rw [upd_ne (ne_of_none q hn)]; exact q
      rcases hc with z | z
      · rw [z]; exact nit b u e
      · exact nit c _ z
end
section
variable {X : Cx}
theorem pi_one {tg : Expr} {pins : List (Addr × Obj)} {σ : St} {H : Hp} {s : Shared} {R : It → Hp → Prop} {J : It} {tn : Nat → Heap → Prop} {tk : Nat} (I : Inv X pins σ H s) (o : Obj)
    (T : Turn X.prog X.w X.K tg J [s.heap.objs.size] s.heap.objs.size tn) (st : tn 0 (s.heap.push o)) (q : R J H) : PIE X pins σ tg R (.ref s.heap.objs.size) { s with heap := s.heap.push o, toks := tk } := by
  refine ⟨s.heap.objs.size, [s.heap.objs.size], tn, J, H, rfl, I.kept fun b ob e => Heap.get?_push_of_some _ e, T, st, fun b hb => ?_, q⟩
  have e : b = s.heap.objs.size := by simpa using hb
  subst e
  exact I.fpOk (Nat.le_refl _) (I.hok.fresh (Nat.le_refl _))
end
def RgC (i j c : Int) (n : Nat) : Prop := c ≠ 0 ∧ c.natAbs < 1073741824 ∧ Builtin.Range.small i j c = true ∧ Builtin.Range.rangeSize i j c = n
section
variable {X : Cx} {tg : Expr}
end
section
variable {X : Cx} {tg : Expr}
end
def Its (x : Str) : It := ⟨fun i _ => i < x.cps.size, fun i H v H' => H' = H ∧ ∃ c, x.cps[i]? = some c ∧ v = .str ⟨#[c]⟩, fun i _ => x.cps.size ≤ i⟩
theorem turn_str {P : Program} {w : World} {K : PySem.W.Frag} {tg : Expr} (it : Addr) (x : Str) (t : Tok) (ty : String) (hty : ty = "str_ascii_iterator" ∨ ty = "str_iterator") :
    Turn P w K tg (Its x) [it] it (fun i h => h.IsStrIter it ty x t i) where
  mem := by simp
  obj := fun i h st b hb => by
    have e : b = it := by simpa using hb
    subst e
    obtain ⟨o, e, c, d⟩ := st
    exact ⟨o, e, fun v z => by rw [d] at z; cases z⟩
  keep := fun i h h' st k => let ⟨o, ho, r⟩ := st; ⟨o, k it (by simp) o ho, r⟩
  item := by
    intro X hP hw hK hc i pins s σ H E I hf st hg
    subst hP hw hK
    obtain ⟨f0, f1, f2, f3, f4, f5⟩ := hf it (by simp)
    have W : Walks X.prog X.w X.A it [it] [it] x.cps.size (SignAt x) (fun i h => h.IsStrIter it ty x t i) := by
      rcases hty with e | e
      · rw [e]; exact Walks.strAscii (I.ok.hd hc) it x t
      · rw [e]; exact Walks.strWide (I.ok.hd hc) it x t
    have hno : ["enumerate", "zip", "dict_itemiterator", "dict_reverseitemiterator", "odict_iterator", "itertools.zip_longest", "itertools.pairwise"].contains ty = false := by
      rcases hty with e | e
      · rw [e]; decide
      · rw [e]; decide
    refine W.item i s _ _ hg st fun v h' tk hv st' kk => ?_
    obtain ⟨c, u, hcx, rfl⟩ := hv
    have I1 : Inv X pins σ H { s with heap := h', toks := tk } := I.turned (fun b o hb e => kk b o (by simpa using hb) e) f0 f1 f3 f4 f5
    obtain ⟨oi, e, cc, dd⟩ := id st'
    exact ⟨_, rfl, go_of (s := { s with heap := h', toks := tk }) e cc dd hno ⟨.str ⟨#[c]⟩, H, I1, ⟨u, rfl⟩, ⟨rfl, c, hcx, rfl⟩, st', fun b hb => (hf b hb).1⟩⟩
  done := by
    intro X hP hw hK hc i pins s σ H E I hf st hg
    subst hP hw hK
    obtain ⟨f0, f1, f2, f3, f4, f5⟩ := hf it (by simp)
    have hx : x.cps[i]? = none := Array.getElem?_eq_none hg
    rcases hty with e | e
    · rw [e] at st
      exact wpAny_pyNext_ascii_end (I.ok.hd hc) st hx fun h' eb => ⟨rfl, I.turned (t' := s.toks) (fun b o hb e => eb b o hb e) f0 f1 f3 f4 f5⟩
    · rw [e] at st
      exact wpAny_pyNext_wide_end (I.ok.hd hc) st hx fun h' eb => ⟨rfl, I.turned (t' := s.toks) (fun b o hb e => eb b o hb e) f0 f1 f3 f4 f5⟩
  self := fun A i s Q E st h => by
    rcases hty with e | e
    · rw [e] at st; exact wpAny_pyIter_striter_ascii st h
    · rw [e] at st; exact wpAny_pyIter_striter_wide st h
section
variable {prog : Program} {w : World} {A : Around} {E : Value → Shared → Prop} {s : Shared}
end
section
variable {X : Cx} {pins : List (Addr × Obj)} {σ : St} {H : Hp} {s : Shared} {d : Addr} {o : Obj}
end
section
variable {P : Program} {w : World} {K : PySem.W.Frag} {tg : Expr} {d : Addr} {o : Obj} {es : Array DictEntry} {ep : Nat}
end
section
variable {X : Cx} {tg e : Expr} {td : TE} {apos cpos : Pos}
end
theorem boot_zip5 : bootBuiltins "zip" = some (.type "zip") := by decide +kernel
end L2
section 
namespace Bits
open PySem PyProof.Rows
end Bits
end 
section 
namespace TL
open PySem PySem.Builtin PySem.Builtin.Str PySem.StrLaws
abbrev tl (x : Str) : List Nat := x.cps.toList
def pre (S l : List Nat) : Bool := l.take S.length == S
def par (S : List Nat) : List Nat → List Nat → Option (List Nat × List Nat)
  | _, [] => none
  | acc, c :: r => if pre S (c :: r) = true then some (acc, (c :: r).drop S.length) else par S (acc ++ [c]) r
end TL
end 
namespace L2
open PySem PySem.Spec PyProof.Rows
theorem vals_strs : ∀ l : List (Str × Tok), Vals ((l.map (·.1)).map V.str) (strValues l)
  | [] => .nil
  | p :: r => .cons ⟨p.2, rfl⟩ (vals_strs r)
def rNewStrs (ys : List Str) : Hp → VK → Prop := fun H Q => ∀ p, H p = none → Q (.ref p) (upd H p (.lst (ys.map V.str)))
section
variable {X : Cx} {pins : List (Addr × Obj)} {σ : St} {H : Hp} {s : Shared} {Q : VK}
theorem laid_strs {l : List (Str × Tok)} {ys : List Str} {k : Nat} (I : Inv X pins σ H s) (e : l.map (·.1) = ys) (hz : ys.length ≤ sizeLine) (h : rNewStrs ys H Q) :
    EP X pins σ Q (.ref s.heap.objs.size) { s with toks := k, heap := s.heap.push { cls := .type "list", data := .seq (strValues l).toArray } } := by
  have hp := I.hok.fresh (Nat.le_refl _)
  refine ⟨.ref s.heap.objs.size, upd H s.heap.objs.size (.lst (ys.map V.str)), I.laid (fun b u q => Heap.get?_push_of_some _ q) (Nat.le_refl _) ⟨by rw [List.length_map]; exact hz, strValues l, _, ?_, Heap.get?_push_size _ rfl⟩, rfl, h _ hp⟩
  rw [← e]
  exact vals_strs l
theorem laid_parts {x y z : Str} {t u v : Tok} {k : Nat} (I : Inv X pins σ H s) (h : ∀ p, H p = none → Q (.ref p) (upd H p (.tup [.str x, .str y, .str z]))) :
    EP X pins σ Q (.ref s.heap.objs.size) { s with toks := k, heap := s.heap.push { cls := .type "tuple", data := .seq [Value.str x t, .str y u, .str z v].toArray } } := by
  have hp := I.hok.fresh (Nat.le_refl _)
  exact ⟨.ref s.heap.objs.size, upd H s.heap.objs.size (.tup [.str x, .str y, .str z]), I.laid (fun b u q => Heap.get?_push_of_some _ q) (Nat.le_refl _)
    ⟨by show 3 ≤ sizeLine; decide, [Value.str x t, .str y u, .str z v], .cons ⟨t, rfl⟩ (.cons ⟨u, rfl⟩ (.cons ⟨v, rfl⟩ .nil)), _, Heap.get?_push_size _ rfl, ⟨rfl, _, rfl⟩, rfl⟩, rfl, h _ hp⟩
end
section
variable {X : Cx}
theorem mt_split : MtR X "str.split" (fun x xs H Q => ∃ a b, x = .str a ∧ xs = [.str b] ∧ (b.length == 0) = false ∧ a.length + 2 ≤ sizeLine ∧ rNewStrs (Txt.split a b) H Q) := by
  intro pins s σ H x xs v us Q I rx rs h
  obtain ⟨a, b, rfl, rfl, hb, hz, h⟩ := h
  obtain ⟨t, rfl⟩ := rx
  cases rs with
  | cons r1 rs =>
    cases rs
    obtain ⟨u, rfl⟩ := r1
    have hl : (Txt.split a b).length ≤ sizeLine := Nat.le_trans (PyProof.Rows.split_le a b) hz
    have hn : (Builtin.Str.partsBetween a (Builtin.Str.occurrences a b 0 a.length (a.length + 1)) b.length).length ≤ sizeLine := by
      have e1 := StrLaws.occ_length_le a b 0 a.length (a.length + 1)
      rw [length_partsBetween]; omega
    cases h1 : (decide (a.length < b.length) || decide (Builtin.Str.strKind a < Builtin.Str.strKind b))
    · cases hf : (Builtin.Str.occurrences a b 0 a.length (a.length + 1)).isEmpty
      · refine call_meets F.slot_str_split (typeIs_str _ _ _) F.entry_str_split (F.args_str_split_2 _ _) (meets_str_split_sep a b t u h1 hb hf (by omega) hn) ?_
        show EP X pins σ Q (.ref s.heap.objs.size) { s with toks := _, heap := s.heap.push { cls := .type "list", data := .seq (strsFrom s.toks (Builtin.Str.partsBetween a (Builtin.Str.occurrences a b 0 a.length (a.length + 1)) b.length)).toArray } }
        rw [strsFrom_eq]
        exact laid_strs (ys := Txt.split a b) I ((numbered_texts _ _).trans ((if_neg (ne_true_of_eq_false h1)).trans (if_neg (ne_true_of_eq_false hf))).symm) hl h
      · refine call_meets F.slot_str_split (typeIs_str _ _ _) F.entry_str_split (F.args_str_split_2 _ _) (meets_str_split_not_found a b t u h1 hb hf) ?_
        exact laid_strs (l := [(a, t)]) (ys := Txt.split a b) (k := s.toks) I ((if_neg (ne_true_of_eq_false h1)).trans (if_pos hf)).symm hl h
    · refine call_meets F.slot_str_split (typeIs_str _ _ _) F.entry_str_split (F.args_str_split_2 _ _) (meets_str_split_cannot_occur a b t u h1) ?_
      exact laid_strs (l := [(a, t)]) (ys := Txt.split a b) (k := s.toks) I (if_pos h1).symm hl h
theorem mt_partition : MtR X "str.partition" (fun x xs H Q => ∃ a b, x = .str a ∧ xs = [.str b] ∧ (b.length == 0) = false ∧ a.length ≤ sizeLine ∧
    ∀ p, H p = none → Q (.ref p) (upd H p (.tup [.str (Txt.partition a b).1, .str (Txt.partition a b).2.1, .str (Txt.partition a b).2.2]))) := by
  intro pins s σ H x xs v us Q I rx rs h
  obtain ⟨a, b, rfl, rfl, hb, hz, h⟩ := h
  obtain ⟨t, rfl⟩ := rx
  cases rs with
  | cons r1 rs =>
    cases rs
    obtain ⟨u, rfl⟩ := r1
    refine call_meets F.slot_str_partition (typeIs_str _ _ _) F.entry_str_partition (F.args_str_partition_2 _ _) (meets_str_partition a b t u hb hz) ?_
    unfold Txt.partition at h
    revert h
    cases Builtin.Str.occurrences a b 0 a.length 1 with
    | nil => intro h; exact laid_parts I h
    | cons i r => intro h; exact laid_parts I h
end
section
variable {X : Cx} {o e : Expr} {to te : TE}
def tM1 (r : V → List V → Hp → VK → Prop) (to te : TE) : TE := fun σ H Q => to σ H fun x H1 => (∃ a, x = .str a) ∧ te σ H1 fun y H2 => r x [y] H2 Q
theorem pe_m1 {id : String} {name : Str} {apos pos : Pos} {r : V → List V → Hp → VK → Prop} (slot : Slot "str" name id) (ty : typeOf (.builtin id) = pure (.type "method_descriptor")) (rule : MtR X id r) (ho : PE X o to) (he : PE X e te)
    (hs : starEach [e] X.env = [(false, eval e X.env)] := by rfl) (hbase : attributeBase o name X.env (eval o X.env) = eval o X.env := by rfl) (hline : (apos.endLine == pos.line) = true := by rfl) :
    PE X (.Call (.Attribute o name apos) [e] [] pos) (tM1 r to te) := by
  intro pins s σ H Q I h
  refine PySem.Call_method1 hbase hs hline (thn (ho pins s σ H _ I h) fun v s1 ⟨x, H1, I1, r1, q1⟩ => ?_)
  obtain ⟨⟨a, rfl⟩, q1⟩ := q1
  obtain ⟨t, rfl⟩ := _root_.id r1
  refine ⟨"str", _, F.plainAttrs_str, slot, ty, typeIs_str _ _ _, (fun _ e => nomatch e), Calls.callWith_builtin rfl (Calls.evalArgs_plain (Calls.spliced_cons ?_))⟩
  exact thn (he pins s1 σ H1 _ I1 q1) fun u s2 ⟨y, H2, I2, r2, q2⟩ => Calls.spliced_nil (rule pins s2 σ H2 _ [y] _ [u] Q I2 r1 (.cons r2 .nil) q2)
end
end L2
namespace L2
open PySem PySem.Spec PyProof.Rows
section
variable {X : Cx}
theorem op_notIn_sign : OpR X (compareOp .NotIn) (fun x y H Q => ∃ (c : Nat) (z : Str), x = .str ⟨#[c]⟩ ∧ y = .str z ∧ Q (.bl (!decide (c ∈ z.cps.toList))) H) := by
  intro pins s σ H x y v u Q I rx ry h
  obtain ⟨c, z, rfl, rfl, q⟩ := h
  obtain ⟨t, rfl⟩ := rx
  obtain ⟨t', rfl⟩ := ry
  exact PyProof.Rows.notIn_str (fin_bl I q (congrArg Bool.not (PySem.StrLaws.found_one z c).symm))
end
end L2
namespace Att
open PySem PySem.W PySem.Calls PyProof.Rows
theorem ints_of_wellAll {P : Params} {h : Heap} : ∀ (ns : List Int) (vs : List Value), WellAll P h vs (ns.map WData.int) → IntsAre vs ns := by
  intro ns
  induction ns with
  | nil =>
    intro vs w
    rw [List.map_nil] at w
    cases w
    exact .nil
  | cons n ns ih =>
    intro vs w
    rw [List.map_cons] at w
    cases w with
    | cons a b =>
      cases a
      exact .cons _ _ (ih _ b)
theorem script_of {l : OpenLaw} {n : Nat} (hn : l.most = some n) {P : Params} {h : Heap} {args : List WData} {vals : List Value}
    (hpre : l.row.toRowW.claim.pre args = true) (hwl : WellAll P h vals args) :
    ∃ a vs ns, vals = [Value.ref a] ∧ args = [WData.list (ns.map WData.int)] ∧ h.get? a = some { cls := .type "list", data := .seq vs.toArray } ∧ IntsAre vs ns ∧ ns.length ≤ n := by
  have hsh : WShape.hasAll [] args [.list .int] = true := (pre_splitW hpre).1
  have hc : l.pre.holds [] { args := args } = true := (pre_splitW hpre).2
  obtain ⟨d, r, rfl, h1, h2⟩ := hasAllW_cons hsh
  obtain rfl := hasAllW_nil h2
  obtain ⟨xs, rfl, h3⟩ := hasW_list h1
  obtain ⟨ns, rfl⟩ := items_int h3
  have hlen : ns.length ≤ n := by
    unfold OpenLaw.pre at hc
    have h4 : (WTm.not (.lt (.lit (.int (n : Int))) (.len (.arg 0)))).holds [] { args := [.list (ns.map .int)] } = true := by
      have h4 := (holds_andW hc).1
      rw [hn] at h4
      exact h4
    have h5 := condW_of h4 (w_not (w_lt w_lit (w_len_list (w_arg rfl))))
    rw [List.length_map] at h5
    refine Nat.le_of_not_lt fun q => ?_
    have q' : (n : Int) < ((ns.length : Nat) : Int) := by omega
    first
      | (rw [decide_eq_true q'] at h5; exact absurd h5 (by decide))
      | (simp at h5; omega)
  cases hwl with
  | cons w1 w2 =>
    cases w2
    cases w1 with
    | list ho hall => exact ⟨_, _, ns, rfl, rfl, ho, ints_of_wellAll ns _ hall, hlen⟩
theorem post_true (l : OpenLaw) (args : List WData) : l.row.toRowW.claim.post args (.bool true) args = true :=
  postW_of (r := l.row.toRowW) (X := (true == true))
    (show WShape.has [] (.bool true) .bool = true by first | rfl | decide | simp [WShape.has, WShape.arms, WShape.armsAll])
    (show (WTm.eq .res (.lit (.bool true))).value [] { args := args, res := some (.bool true), after := args } = some (.bool (true == true)) from w_eq_bool (w_res rfl) w_lit) rfl
theorem attach_call {l : OpenLaw} {n : Nat} {q : Program} {loose : List Str} {XP : (Str → Option Value) → Heap → Prop} {YP : World → Heap → Prop} {d : DefRec}
    (hn : l.most = some n) (hdf : d.params.defaults = [])
    (call : ∀ (w : World) (s₀ s₁ : Shared) (mg mb : Str → Option Value) (fa : Addr) (o : Obj) (pm cd doc : Value) (a : Addr) (vs : List Value) (ns : List Int),
      Ground q loose [] XP w s₀ mg mb s₁.heap → YP w s₁.heap →
      s₁.heap.get? fa = some o → o.data = .func (docDef d.name d.params d.body d.scope pm cd doc) → s₁.heap.CodeRec cd d.name → mg d.name = some (.ref fa) →
      s₁.heap.get? a = some { cls := .type "list", data := .seq vs.toArray } → IntsAre vs ns → ns.length ≤ n → s₁.gens = #[] →
      codeAny (model l.prog w) callerA (.call (.ref fa) ⟨[.ref a], []⟩) (fun r s' => r = .ok (.ret (.bool true)) ∧ OldK s₁.heap s'.heap ∧ s'.os = s₁.os ∧ AllBare s'.gens) s₁) :
    WalkO q loose XP YP l.row.toRowW d [] (fun f vs => PySem.call f vs) := by
  intro w s₀ s₁ mg mb G Y fa o pm cd doc dV kV ho hd hcd hD hmg hg args vals as hpre hlay hrd hwl hlo
  obtain rfl : dV = .none := Dflts.none hD hdf
  obtain rfl : kV = .none := Dflts.noKw hD
  obtain ⟨a, vs, ns, rfl, rfl, hobj, hints, hlen⟩ := script_of hn hpre hwl
  refine enter_call (codeAny_mono (call w s₀ s₁ mg mb fa o pm cd doc a vs ns G Y ho (fd_plain hd) hcd hmg hobj hints hlen hg) fun r s' hq => ?_)
  obtain ⟨rfl, h2, h3, h4⟩ := hq
  exact ⟨.inl ⟨.bool true, .bool true, [], rfl, fun _ => rfl, .bool true, post_true l _, fun _ => ⟨List.Pairwise.nil, fun _ hm => (nomatch hm)⟩⟩, h2, h3, h4⟩
section
variable {prog : Program} {w : World} {A : Around} {E : Value → Shared → Prop} {s : Shared} {K : Frag}
end
end Att
namespace L2
open PySem PySem.Spec PyProof.Rows
theorem vals_ints : ∀ {vs : List Value} {ns : List Int}, IntsAre vs ns → Vals (ns.map V.int) vs
  | _, _, .nil => .nil
  | _, _, .cons n t h => .cons ⟨t, rfl⟩ (vals_ints h)
end L2
namespace L2
open PySem PySem.Spec PyProof.Rows
end L2
namespace L2
open PySem PySem.Spec PyProof.Rows
def defArgs (s : Stmt) : Arguments := match s with
  | .FunctionDef _ a _ _ _ _ _ _ _ _ => a
  | _ => { posonlyargs := [], args := [], vararg := none, kwonlyargs := [], kw_defaults := [], kwarg := none, defaults := [] }
def defBody (s : Stmt) : List Stmt := match s with
  | .FunctionDef _ _ b _ _ _ _ _ _ _ => b
  | _ => []
def defScope (s : Stmt) : Scope := match s with
  | .FunctionDef _ _ _ _ _ _ sc _ _ _ => sc
  | _ => { kind := .function, names := [], isGenerator := false, isCoroutine := false }
abbrev CX0 : CXT := fun _ _ _ _ _ _ => False
abbrev E0 : XK := fun _ _ _ => False
theorem pass0 {X : Cx} : Passes CX0 X E0 := fun _ _ _ _ _ _ _ h => h.elim
structure Fun (K : PySem.W.Frag) (x qual : Str) (st : Stmt) (f : Addr) (fd : FuncData) : Prop where
  ex : ∃ (oc : Value) (od : Option Addr) (kV doc pm : Value) (an : Option Addr) (cdv ct : Value) (osl : Array (Option Value)),
    fd = PySem.W.fnOf x qual (defArgs st) (defBody st) (defScope st) .none kV doc pm an cdv ct ∧ K.lookup f = some ⟨oc, od, .func fd, osl⟩ ∧ PySem.W.codeIn K cdv qual = true
  kp : PySem.W.keepIn K (.ref f) = true
section
variable {P : Program} {w : World} {K : PySem.W.Frag} {mg : Str → Option Value} {base : Heap}
theorem Fun.ok {x qual : Str} {st : Stmt} {f : Addr} {fd : FuncData} {N ps : List Str} {k : Nat} {sp : Sp} (F : Fun K x qual st f fd) (S : FnScope N ps (defScope st)) (len : ∀ vs H Q E, sp vs H Q E → vs.length = ps.length)
    (hbody : ∀ (cdv : Value) (A : Around) (outer : List Env) (s : Shared) (H : Hp) (vs : List V) (Q : VK) (E : XK), Room k (A.deeper (envOfC qual (defScope st) s.heap.objs.size f cdv)) → sp vs H Q E →
      ∃ t, PSs (cxOf CX0 P w K mg base N qual (defScope st) f cdv A outer s H E).nox (defBody st) t ∧ t { nx := fun _ H' => Q .non H', rt := Q } (start N vs) H) : FnOk P w K mg base CX0 (k + 1) f fd ps sp := by
  obtain ⟨oc, od, kV, doc, pm, an, cdv, ct, osl, rfl, lk, hcd⟩ := F.ex
  refine fn_of lk hcd S len fun A outer s H vs Q E hr hsp => ?_
  obtain ⟨t, h, q⟩ := hbody cdv A outer s H vs Q E hr hsp
  exact ⟨t, h.nox, q⟩
theorem Fun.binds {x qual : Str} {st : Stmt} {f : Addr} {fd : FuncData} {ps : List Str} (F : Fun K x qual st f fd)
    (h : ∀ (kV doc pm : Value) (an : Option Addr) (cdv ct : Value) (us : List Value), us.length = ps.length → bindArgs (PySem.W.fnOf x qual (defArgs st) (defBody st) (defScope st) .none kV doc pm an cdv ct) ⟨us, []⟩ = pure (ps.zip us)) : Binds K fd ps [] := by
  obtain ⟨oc, od, kV, doc, pm, an, cdv, ct, osl, rfl, lk, hcd⟩ := F.ex
  exact .all (h kV doc pm an cdv ct)
theorem fun_mk {x qual : Str} {st : Stmt} {f : Addr} {oc : Value} {od an : Option Addr} {osl : Array (Option Value)} {kV doc pm cdv ct : Value} (l : K.lookup f = some ⟨oc, od, .func (PySem.W.fnOf x qual (defArgs st) (defBody st) (defScope st) .none kV doc pm an cdv ct), osl⟩)
    (c : PySem.W.codeIn K cdv qual = true) (k : PySem.W.keepIn K (.ref f) = true) : Fun K x qual st f (PySem.W.fnOf x qual (defArgs st) (defBody st) (defScope st) .none kV doc pm an cdv ct) := ⟨⟨oc, od, kV, doc, pm, an, cdv, ct, osl, rfl, l, c⟩, k⟩
end
section
variable {X : Cx}
end
theorem iteF {A B : Prop} (h : B) : if false = true then A else B := by
  rw [if_neg Bool.false_ne_true]
  exact h
theorem iteT {A B : Prop} (h : A) : if true = true then A else B := by
  rw [if_pos rfl]
  exact h
def Same (H H' : Hp) : Prop := ∀ b o, H b = some o → H' b = some o
theorem Same.refl (H : Hp) : Same H H := fun _ _ h => h
theorem Same.trans {H H1 H2 : Hp} (a : Same H H1) (b : Same H1 H2) : Same H H2 := fun c o h => b c o (a c o h)
theorem Same.free {H H' : Hp} (e : Same H H') {l : Addr} (h : H' l = Option.none) : H l = Option.none := by
  cases q : H l with
  | none => rfl
  | some o =>
    rw [e l o q] at h
    cases h
theorem Same.seq {K : PySem.W.Frag} {H H' : Hp} {a : Addr} {xs : List V} (e : Same H H') (h : SqL K H a xs) : SqL K H' a xs := by
  rcases h with (h | ⟨o, h⟩) | h
  · exact .inl (.inl (e _ _ h))
  · exact .inl (.inr ⟨o, e _ _ h⟩)
  · exact .inr h
section
variable {κ : Type} [DecidableEq κ]
end
end L2
namespace L2
open PySem PySem.Spec PyProof.Rows
abbrev Dt := PyData
abbrev Ev := List (Option Dt)
theorem Rd.up {I I' : Hp} (s : Same I I') {a : Addr} {u : HO} : Rd I a u → Rd I' a u
  | .inl h => .inl (s _ _ h)
  | .inr ⟨o, h⟩ => .inr ⟨o, s _ _ h⟩
theorem SqL.up {K : PySem.W.Frag} {I I' : Hp} (s : Same I I') {a : Addr} {xs : List V} : SqL K I a xs → SqL K I' a xs
  | .inl h => .inl (Rd.up s h)
  | .inr h => .inr h
theorem SqT.up {K : PySem.W.Frag} {I I' : Hp} (s : Same I I') {a : Addr} {xs : List V} : SqT K I a xs → SqT K I' a xs
  | .inl h => .inl (s _ _ h)
  | .inr h => .inr h
mutual
theorem Dp.up {K : PySem.W.Frag} {I I' : Hp} (s : Same I I') : ∀ {d : Dt} {v : V}, Dp K I v d → Dp K I' v d
  | .none, _, h => by cases h; exact .non
  | .bool b, _, h => by cases h; exact .bl b
  | .int i, _, h => by cases h; exact .int i
  | .str x, _, h => by cases h; exact .str x
  | .list ds, _, h => by cases h with | lst h1 h2 => exact .lst (SqL.up s h1) (DpAll.up s h2)
  | .tuple ds, _, h => by cases h with | tup h1 h2 => exact .tup (SqT.up s h1) (DpAll.up s h2)
  | .dict _, _, h => by cases h
theorem DpAll.up {K : PySem.W.Frag} {I I' : Hp} (s : Same I I') : ∀ {ds : List Dt} {vs : List V}, DpAll K I vs ds → DpAll K I' vs ds
  | [], _, h => by cases h; exact .nil
  | d :: ds, _, h => by cases h with | cons h1 h2 => exact .cons (Dp.up s h1) (DpAll.up s h2)
end
theorem DpAll.length {K : PySem.W.Frag} {I : Hp} : ∀ {ds : List Dt} {vs : List V}, DpAll K I vs ds → vs.length = ds.length
  | [], _, h => by cases h; rfl
  | d :: ds, _, h => by cases h with | cons h1 h2 => simp [DpAll.length h2]
theorem DpAll.get {K : PySem.W.Frag} {I : Hp} : ∀ {ds : List Dt} {vs : List V} {i : Nat} {d : Dt}, DpAll K I vs ds → ds[i]? = some d → ∃ v, vs[i]? = some v ∧ Dp K I v d
  | [], _, _, _, _, e => by simp at e
  | d :: ds, _, 0, _, h, e => by cases h with | cons h1 h2 => simp at e; subst e; exact ⟨_, rfl, h1⟩
  | d :: ds, _, i + 1, _, h, e => by
    cases h with
    | cons h1 h2 =>
      obtain ⟨v, h3, h4⟩ := DpAll.get (i := i) h2 (by simpa using e)
      exact ⟨v, by simpa using h3, h4⟩
theorem DpAll.append {K : PySem.W.Frag} {I : Hp} : ∀ {ds es : List Dt} {vs ws : List V}, DpAll K I vs ds → DpAll K I ws es → DpAll K I (vs ++ ws) (ds ++ es)
  | [], _, _, _, h, k => by cases h; exact k
  | d :: ds, _, _, _, h, k => by cases h with | cons h1 h2 => exact .cons h1 (DpAll.append h2 k)
theorem DpAll.snoc {K : PySem.W.Frag} {I : Hp} {ds : List Dt} {vs : List V} {d : Dt} {v : V} (h : DpAll K I vs ds) (k : Dp K I v d) : DpAll K I (vs ++ [v]) (ds ++ [d]) := h.append (.cons k .nil)
theorem DpAll.take {K : PySem.W.Frag} {I : Hp} : ∀ {ds : List Dt} {vs : List V} (n : Nat), DpAll K I vs ds → DpAll K I (vs.take n) (ds.take n)
  | _, _, 0, _ => by simp; exact .nil
  | [], _, n + 1, h => by cases h; exact .nil
  | d :: ds, _, n + 1, h => by cases h with | cons h1 h2 => exact .cons h1 (DpAll.take n h2)
theorem DpAll.drop {K : PySem.W.Frag} {I : Hp} : ∀ {ds : List Dt} {vs : List V} (n : Nat), DpAll K I vs ds → DpAll K I (vs.drop n) (ds.drop n)
  | _, _, 0, h => h
  | [], _, n + 1, h => by cases h; exact .nil
  | d :: ds, _, n + 1, h => by cases h with | cons h1 h2 => exact DpAll.drop n h2
theorem DpAll.set {K : PySem.W.Frag} {I : Hp} : ∀ {ds : List Dt} {vs : List V} (n : Nat) {d : Dt} {v : V}, DpAll K I vs ds → Dp K I v d → DpAll K I (vs.set n v) (ds.set n d)
  | [], _, _, _, _, h, _ => by cases h; exact .nil
  | d :: ds, _, 0, _, _, h, k => by cases h with | cons h1 h2 => exact .cons k h2
  | d :: ds, _, n + 1, _, _, h, k => by cases h with | cons h1 h2 => exact .cons h1 (DpAll.set n h2 k)
theorem DpAll.eraseIdx {K : PySem.W.Frag} {I : Hp} : ∀ {ds : List Dt} {vs : List V} (n : Nat), DpAll K I vs ds → DpAll K I (vs.eraseIdx n) (ds.eraseIdx n)
  | [], _, _, h => by cases h; exact .nil
  | d :: ds, _, 0, h => by cases h with | cons h1 h2 => exact h2
  | d :: ds, _, n + 1, h => by cases h with | cons h1 h2 => exact .cons h1 (DpAll.eraseIdx n h2)
theorem DpAll.of_ints {K : PySem.W.Frag} {I : Hp} : ∀ (ns : List Int), DpAll K I (ns.map V.int) (ns.map PyData.int)
  | [] => .nil
  | n :: ns => .cons (.int n) (DpAll.of_ints ns)
def SzOk (I : Hp) : Prop := ∀ a xs, (Rd I a (.lst xs) ∨ Rd I a (.tup xs)) → xs.length ≤ sizeLine
theorem SqL.sz {K : PySem.W.Frag} {I : Hp} {a : Addr} {xs : List V} (z : SzOk I) : SqL K I a xs → xs.length ≤ sizeLine
  | .inl h => z a xs (.inl h)
  | .inr ⟨o, its, n, _, _, _, _, h, r⟩ => by have := r.length; simp only [Array.length_toList] at this; omega
theorem SqT.sz {K : PySem.W.Frag} {I : Hp} {a : Addr} {xs : List V} (z : SzOk I) : SqT K I a xs → xs.length ≤ sizeLine
  | .inl h => z a xs (.inr (.inl h))
  | .inr ⟨o, its, n, _, _, _, _, h, r⟩ => by have := r.length; simp only [Array.length_toList] at this; omega
theorem SzOk.put {I : Hp} {a : Addr} {xs : List V} {o : HO} (z : SzOk I) (ho : o = .lst xs ∨ o = .tup xs) (hx : xs.length ≤ sizeLine) : SzOk (upd I a o) := by
  intro b ys h
  by_cases e : b = a
  · subst e
    have key : ∀ u, Rd (upd I b o) b u → u = o ∨ ∃ q, o = .frz q u := fun u hu => by
      rcases hu with hu | ⟨q, hu⟩ <;> rw [upd_same] at hu <;> cases hu
      · exact .inl rfl
      · exact .inr ⟨q, rfl⟩
    have e2 : xs = ys := by rcases h with h | h <;> rcases key _ h with h | ⟨q, h⟩ <;> rcases ho with rfl | rfl <;> cases h <;> rfl
    rw [← e2]; exact hx
  · refine z b ys ?_
    rcases h with h | h
    · left; rcases h with h | ⟨q, h⟩ <;> rw [upd_ne e] at h
      · exact .inl h
      · exact .inr ⟨q, h⟩
    · right; rcases h with h | ⟨q, h⟩ <;> rw [upd_ne e] at h
      · exact .inl h
      · exact .inr ⟨q, h⟩
theorem Same.put {H : Hp} {a : Addr} {o : HO} (h : H a = none) : Same H (upd H a o) := fun b u e => by rw [upd_ne (ne_of_none e h)]; exact e
theorem Same.put2 {I H : Hp} {a : Addr} {o : HO} (s : Same I H) : Same (upd I a o) (upd H a o) := fun b u e => by
  by_cases hb : b = a
  · subst hb; rw [upd_same] at e ⊢; exact e
  · rw [upd_ne hb] at e ⊢; exact s b u e
def keyD : Key → Dt
  | .inl i => .int i
  | .inr x => .str x
def keyT (k : List Key) : Dt := .tuple (k.map keyD)
def DictIs (K : PySem.W.Frag) (I : Hp) (kvs : List (Dt × Dt)) : HO → Prop
  | .dK kv => Paired (fun (p : Key × V) (q : Dt × Dt) => keyD p.1 = q.1 ∧ Dp K I p.2 q.2) kv kvs ∧ kv.length ≤ sizeLine ∧ (kv.map (·.1)).Nodup
  | .dT kv => ∃ rest, kvs = (.none, .none) :: rest ∧ Paired (fun (p : List Key × V) (q : Dt × Dt) => keyT p.1 = q.1 ∧ Dp K I p.2 q.2) kv rest ∧ kv.length ≤ sizeLine ∧ (kv.map (·.1)).Nodup
  | _ => False
theorem DictIs.up {K : PySem.W.Frag} {I I' : Hp} {kvs : List (Dt × Dt)} {o : HO} (s : Same I I') (h : DictIs K I kvs o) : DictIs K I' kvs o := by
  cases o with
  | dK kv => exact ⟨Paired.mapP h.1 fun p q z => ⟨z.1, Dp.up s z.2⟩, h.2⟩
  | dT kv =>
    obtain ⟨rest, e, h1, h2⟩ := h
    exact ⟨rest, e, Paired.mapP h1 fun p q z => ⟨z.1, Dp.up s z.2⟩, h2⟩
  | _ => exact False.elim h
def isExc (C a : Addr) (h : Heap) : Prop := ∃ ob, h.get? a = some ob ∧ ob.cls = .ref C
def Bx (K : PySem.W.Frag) (I H : Hp) (a : Addr) : Dt → Prop
  | .list ds => ∃ xs, H a = some (.lst xs) ∧ DpAll K I xs ds ∧ xs.length ≤ sizeLine
  | .dict kvs => ∃ o, H a = some o ∧ DictIs K I kvs o
  | .str x => ∃ C, PySem.W.nsIn K mainGlobals x = some (some (.ref C)) ∧ H a = some (.ext (isExc C a))
  | _ => False
theorem Bx.up {K : PySem.W.Frag} {I I' H H' : Hp} {a : Addr} {d : Dt} (s : Same I I') (e : H' a = H a) (h : Bx K I H a d) : Bx K I' H' a d := by
  cases d with
  | list ds => obtain ⟨xs, h1, h2, h3⟩ := h; exact ⟨xs, e.trans h1, DpAll.up s h2, h3⟩
  | dict kvs => obtain ⟨o, h1, h2⟩ := h; exact ⟨o, e.trans h1, h2.up s⟩
  | str x => obtain ⟨C, h1, h2⟩ := h; exact ⟨C, h1, e.trans h2⟩
  | _ => exact h.elim
theorem Bx.some {K : PySem.W.Frag} {I H : Hp} {a : Addr} {d : Dt} (h : Bx K I H a d) : ∃ o, H a = some o := by
  cases d with
  | list ds => obtain ⟨xs, h1, _⟩ := h; exact ⟨_, h1⟩
  | dict kvs => obtain ⟨kv, h1, _⟩ := h; exact ⟨_, h1⟩
  | str x => obtain ⟨C, _, h1⟩ := h; exact ⟨_, h1⟩
  | _ => exact h.elim
theorem bx_nt {K : PySem.W.Frag} {I H : Hp} {a : Addr} {d : Dt} (h : Bx K I H a d) (xs : List V) : H a ≠ some (HO.tup xs) := by
  cases d with
  | list ds => obtain ⟨ys, h1, _⟩ := h; rw [h1]; exact nofun
  | dict kvs => obtain ⟨o, h1, h2⟩ := h; rw [h1]; intro z; cases z; exact h2
  | str x => obtain ⟨C, _, h1⟩ := h; rw [h1]; exact nofun
  | _ => exact h.elim
structure Md where
  bs : List Nat
  np : Nat
  tn : List Str := []
def lamCol (p : Pos) : Bool := p.col == 35 || p.col == 38
def KnownC (I : Hp) (cv : Value) : Prop := ∃ c o vs q t, cv = .ref c ∧ I c = some (.frz o (.own c)) ∧ o.data = .fields vs ∧ vs[1]? = some (.str q t)
theorem KnownC.up {I I' : Hp} {cv : Value} (s : Same I I') (h : KnownC I cv) : KnownC I' cv := by
  obtain ⟨c, o, vs, q, t, e, z, r⟩ := h
  exact ⟨c, o, vs, q, t, e, s _ _ z, r⟩
def TabOk (I : Hp) (ps : Array Value) : Prop := TriplesOk ps.toList ∧ ∀ p cv, lamCol p = true → codeAmong p ps.toList = some cv → KnownC I cv
theorem TabOk.up {I I' : Hp} {ps : Array Value} (s : Same I I') (h : TabOk I ps) : TabOk I' ps := ⟨h.1, fun p cv e q => (h.2 p cv e q).up s⟩
theorem TabOk.nil {I : Hp} : TabOk I #[] := ⟨trivial, fun p cv e q => by cases q⟩
theorem among_app (p g : Pos) (c : Value) : ∀ (l : List Value), TriplesOk l → ∀ cv, codeAmong p (l ++ [rawInt g.line, rawInt g.col, c]) = some cv → codeAmong p l = some cv ∨ (p.line = g.line ∧ p.col = g.col ∧ cv = c)
  | [], _, cv, h => by
    have h : (if ((g.line : Int) == (p.line : Int) && (g.col : Int) == (p.col : Int)) = true then some c else none) = some cv := h
    split at h
    · rename_i hh
      cases h
      rw [Bool.and_eq_true] at hh
      exact .inr ⟨by have := eq_of_beq hh.1; omega, by have := eq_of_beq hh.2; omega, rfl⟩
    · cases h
  | .int a t :: .int b u :: d :: l, h, cv, e => by
    have e : (if (a == (p.line : Int) && b == (p.col : Int)) = true then some d else codeAmong p (l ++ [rawInt g.line, rawInt g.col, c])) = some cv := e
    show (if (a == (p.line : Int) && b == (p.col : Int)) = true then some d else codeAmong p l) = some cv ∨ _
    by_cases hh : (a == (p.line : Int) && b == (p.col : Int)) = true
    · rw [if_pos hh] at e ⊢; exact .inl e
    · rw [if_neg hh] at e ⊢; exact among_app p g c l h cv e
theorem TabOk.gen {I : Hp} {ps : Array Value} {g : Pos} {c : Value} (h : TabOk I ps) (hg : lamCol g = false) (ht : TriplesOk (ps ++ #[rawInt g.line, rawInt g.col, c]).toList) : TabOk I (ps ++ #[rawInt g.line, rawInt g.col, c]) := ⟨ht, fun p cv e q => by
  rw [show (ps ++ #[rawInt g.line, rawInt g.col, c]).toList = ps.toList ++ [rawInt g.line, rawInt g.col, c] by simp] at q
  rcases among_app p g c ps.toList h.1 cv q with q | ⟨_, q, _⟩
  · exact h.2 p cv e q
  · unfold lamCol at e hg; rw [q, hg] at e; cases e⟩
def Tabs (K : PySem.W.Frag) (tn : List Str) (H I F : Hp) : Prop := (∀ x ∈ tn, ∀ c P, PySem.W.tabIn K x = some (c, P) → (∃ ps, H P = some (.tbl ps) ∧ TabOk I ps) ∧ I P = none ∧ F P = none) ∧ ∀ a xs, F a ≠ some (.tup xs)
structure Fr where
  F : Hp
  G : Nat → Option Addr
structure Rl (K : PySem.W.Frag) (bs : Md) (F : Fr) (σ : St) (H I : Hp) (ρ : Ev) : Prop where
  sub : Same I H
  frm : Same F.F H
  dis : ∀ a o, F.F a = some o → I a = none
  sz : SzOk I
  val : ∀ i d, ρ[i]? = some (some d) → i ∉ bs.bs → ∃ v, σ[i]? = some (some v) ∧ Dp K I v d
  box : ∀ i d, ρ[i]? = some (some d) → i ∈ bs.bs → ∃ a, σ[i]? = some (some (.ref a)) ∧ Bx K I H a d ∧ I a = none ∧ F.F a = none
  inj : ∀ i j d e a, i ∈ bs.bs → j ∈ bs.bs → ρ[i]? = some (some d) → ρ[j]? = some (some e) → σ[i]? = some (some (.ref a)) → σ[j]? = some (some (.ref a)) → i = j
  len : ρ.length = σ.length
  anc : ∀ i a, F.G i = some a → σ[i]? = some (some (.ref a)) ∧ i ∈ bs.bs ∧ i < bs.np
  tab : Tabs K bs.tn H I F.F
structure Grow (H I H' I' : Hp) : Prop where
  hh : Same H H'
  ii : Same I I'
  sub : Same I' H'
  new : ∀ a o, I' a = some o → I a = none → H a = none
  sz : SzOk I'
theorem Grow.refl {H I : Hp} (s : Same I H) (z : SzOk I) : Grow H I H I := ⟨fun _ _ h => h, fun _ _ h => h, s, fun a o h h' => (by rw [h] at h'; cases h'), z⟩
theorem Grow.trans {H I H1 I1 H2 I2 : Hp} (a : Grow H I H1 I1) (b : Grow H1 I1 H2 I2) : Grow H I H2 I2 :=
  ⟨a.hh.trans b.hh, a.ii.trans b.ii, b.sub, fun c o h h' => (by
    cases q : I1 c with
    | none => exact a.hh.free (b.new c o h q)
    | some u => exact a.new c u q h'), b.sz⟩
theorem Grow.tup {H I : Hp} {p : Addr} {xs : List V} (s : Same I H) (z : SzOk I) (h : H p = none) (hx : xs.length ≤ sizeLine) : Grow H I (upd H p (.tup xs)) (upd I p (.tup xs)) :=
  ⟨Same.put h, Same.put (s.free h), Same.put2 s, fun c o e e' => (by
    by_cases hb : c = p
    · subst hb; exact h
    · rw [upd_ne hb] at e; rw [e] at e'; cases e'), z.put (.inr rfl) hx⟩
theorem Grow.lst {H I : Hp} {p : Addr} {xs : List V} (s : Same I H) (z : SzOk I) (h : H p = none) (hx : xs.length ≤ sizeLine) : Grow H I (upd H p (.lst xs)) (upd I p (.lst xs)) :=
  ⟨Same.put h, Same.put (s.free h), Same.put2 s, fun c o e e' => (by
    by_cases hb : c = p
    · subst hb; exact h
    · rw [upd_ne hb] at e; rw [e] at e'; cases e'), z.put (.inl rfl) hx⟩
theorem Tabs.grow {K : PySem.W.Frag} {tn : List Str} {H I H' I' F : Hp} (t : Tabs K tn H I F) (g : Grow H I H' I') : Tabs K tn H' I' F := ⟨fun x hx c P e => by
  obtain ⟨⟨ps, h1, h2⟩, h3, h4⟩ := t.1 x hx c P e
  refine ⟨⟨ps, g.hh _ _ h1, h2.up g.ii⟩, ?_, h4⟩
  cases q : I' P with
  | none => rfl
  | some u => (have := g.new P u q h3; rw [h1] at this; cases this), t.2⟩
section
variable {K : PySem.W.Frag} {bs : Md} {F : Fr} {σ : St} {H I H' I' : Hp} {ρ : Ev}
theorem Rl.grow (R : Rl K bs F σ H I ρ) (g : Grow H I H' I') : Rl K bs F σ H' I' ρ :=
  ⟨g.sub, R.frm.trans g.hh, fun a o h => (by
    cases q : I' a with
    | none => rfl
    | some u => have := g.new a u q (R.dis a o h); rw [R.frm a o h] at this; cases this), g.sz,
   fun i d h hb => (by obtain ⟨v, h1, h2⟩ := R.val i d h hb; exact ⟨v, h1, Dp.up g.ii h2⟩),
   fun i d h hb => (by
    obtain ⟨a, h1, h2, h3, h4⟩ := R.box i d h hb
    obtain ⟨o, ho⟩ := h2.some
    refine ⟨a, h1, h2.up g.ii ((g.hh a o ho).trans ho.symm), ?_, h4⟩
    cases q : I' a with
    | none => rfl
    | some u => have := g.new a u q h3; rw [ho] at this; cases this), R.inj, R.len, R.anc, R.tab.grow g⟩
theorem Rl.gr (R : Rl K bs F σ H I ρ) : Grow H I H I := Grow.refl R.sub R.sz
end
abbrev FE := Ev → Option (Dt × Ev)
abbrev FT := Ev → Option (Bool × Ev)
abbrev FA := Ev → Option (List Dt × Ev)
inductive Out where
  | nx | bk | ct | rt (d : Dt)
abbrev FS := Ev → Option (Out × Ev)
abbrev FG := Dt → Ev → Option Ev
def tq (K : PySem.W.Frag) (bs : Md) (f : FE) : TE := fun σ H Q => ∃ F I ρ d ρ', Rl K bs F σ H I ρ ∧ f ρ = some (d, ρ') ∧ ∀ v H' I', Same I I' → Rl K bs F σ H' I' ρ' → Dp K I' v d → Q v H'
def tqT (K : PySem.W.Frag) (bs : Md) (f : FT) : TT := fun σ H Q => ∃ F I ρ d ρ', Rl K bs F σ H I ρ ∧ f ρ = some (d, ρ') ∧ ∀ H' I', Same I I' → Rl K bs F σ H' I' ρ' → Q d H'
inductive ArgR (K : PySem.W.Frag) (I : Hp) (σ : St) : List (Option Nat) → List V → List Dt → Prop
  | nil : ArgR K I σ [] [] []
  | val {cs : List (Option Nat)} {v : V} {vs : List V} {d : Dt} {ds : List Dt} : Dp K I v d → ArgR K I σ cs vs ds → ArgR K I σ (none :: cs) (v :: vs) (d :: ds)
  | box {cs : List (Option Nat)} {i : Nat} {v : V} {vs : List V} {d : Dt} {ds : List Dt} : σ[i]? = some (some v) → ArgR K I σ cs vs ds → ArgR K I σ (some i :: cs) (v :: vs) (d :: ds)
theorem ArgR.up {K : PySem.W.Frag} {I I' : Hp} {σ : St} (s : Same I I') {cs : List (Option Nat)} {vs : List V} {ds : List Dt} (h : ArgR K I σ cs vs ds) : ArgR K I' σ cs vs ds := by
  induction h with
  | nil => exact .nil
  | val h _ ih => exact .val (Dp.up s h) ih
  | box h _ ih => exact .box h ih
theorem ArgR.all {K : PySem.W.Frag} {I : Hp} {σ : St} : ∀ {cs : List (Option Nat)} {vs : List V} {ds : List Dt}, (∀ c ∈ cs, c = none) → ArgR K I σ cs vs ds → DpAll K I vs ds
  | _, _, _, _, .nil => .nil
  | _, _, _, hc, .val h r => .cons h (ArgR.all (fun c m => hc c (List.mem_cons_of_mem _ m)) r)
  | _, _, _, hc, .box h r => by have := hc _ List.mem_cons_self; cases this
def tqA (K : PySem.W.Frag) (bs : Md) (cs : List (Option Nat)) (f : FA) : TA := fun σ H Q => ∃ F I ρ d ρ', Rl K bs F σ H I ρ ∧ f ρ = some (d, ρ') ∧ ∀ vs H' I', Same I I' → Rl K bs F σ H' I' ρ' → ArgR K I' σ cs vs d → Q vs H'
structure Own (K : PySem.W.Frag) (bs : Md) (F : Fr) (σ : St) (H I : Hp) (ρ : Ev) (a : Addr) (d : Dt) : Prop where
  bx : Bx K I H a d
  ni : I a = none
  nf : F.F a = none
  nb : ∀ i e, i ∈ bs.bs → ρ[i]? = some (some e) → σ[i]? ≠ some (some (.ref a))
def tqF (K : PySem.W.Frag) (bs : Md) (f : FE) : TE := fun σ H Q => ∃ F I ρ d ρ', Rl K bs F σ H I ρ ∧ f ρ = some (d, ρ') ∧ ∀ a H' I', Same I I' → Rl K bs F σ H' I' ρ' → Own K bs F σ H' I' ρ' a d → Q (.ref a) H'
def EndO (K : PySem.W.Frag) (I : Hp) (D : Ends) (o : Out) (σ : St) (H : Hp) : Prop :=
  match o with
  | .nx => D.nx σ H
  | .bk => D.bk σ H
  | .ct => D.ct σ H
  | .rt d => ∀ v, Dp K I v d → D.rt v H
def tqS (K : PySem.W.Frag) (bs : Md) (f : FS) : TS := fun D σ H => ∃ F I ρ o ρ', Rl K bs F σ H I ρ ∧ f ρ = some (o, ρ') ∧ ∀ σ' H' I', Same I I' → Rl K bs F σ' H' I' ρ' → EndO K I' D o σ' H'
def tqG (K : PySem.W.Frag) (bs : Md) (g : FG) : TG := fun v σ H Q => ∃ F I ρ d ρ', Rl K bs F σ H I ρ ∧ Dp K I v d ∧ g d ρ = some ρ' ∧ ∀ σ' H' I', Same I I' → Rl K bs F σ' H' I' ρ' → Q σ' H'
def tqGs (K : PySem.W.Frag) (bs : Md) (g : List Dt → Ev → Option Ev) : TGs := fun vs σ H Q => ∃ F I ρ ds ρ', Rl K bs F σ H I ρ ∧ DpAll K I vs ds ∧ g ds ρ = some ρ' ∧ ∀ σ' H' I', Same I I' → Rl K bs F σ' H' I' ρ' → Q σ' H'
structure QE (X : Cx) (bs : Md) (e : Expr) (f : FE) : Prop where
  mk :: (pe : PE X e (tq X.K bs f))
structure QF (X : Cx) (bs : Md) (e : Expr) (f : FE) : Prop where
  mk :: (pe : PE X e (tqF X.K bs f))
structure QT (X : Cx) (bs : Md) (e : Expr) (f : FT) : Prop where
  mk :: (pt : PT X e (tqT X.K bs f))
structure QW (X : Cx) (bs : Md) (e : Expr) (f : FT) : Prop where
  mk :: (pw : PW X e (tqT X.K bs f))
structure QA (X : Cx) (bs : Md) (es : List Expr) (cs : List (Option Nat)) (f : FA) : Prop where
  mk :: (pa : PA X es (tqA X.K bs cs f))
structure QS (X : Cx) (bs : Md) (st : Stmt) (f : FS) : Prop where
  mk :: (ps : PS X st (tqS X.K bs f))
structure QSs (X : Cx) (bs : Md) (st : List Stmt) (f : FS) : Prop where
  mk :: (ps : PSs X st (tqS X.K bs f))
structure QG (X : Cx) (bs : Md) (tg : Expr) (g : FG) : Prop where
  mk :: (pg : PG X tg (tqG X.K bs g))
structure QGs (X : Cx) (bs : Md) (tg : List Expr) (g : List Dt → Ev → Option Ev) : Prop where
  mk :: (pg : PGs X tg (tqGs X.K bs g))
theorem PE.weak {X : Cx} {e : Expr} {t t' : TE} (h : PE X e t) (w : ∀ σ H Q, t' σ H Q → t σ H Q) : PE X e t' := fun pins s σ H Q I q => h pins s σ H Q I (w σ H Q q)
theorem PT.weak {X : Cx} {e : Expr} {t t' : TT} (h : PT X e t) (w : ∀ σ H Q, t' σ H Q → t σ H Q) : PT X e t' := fun pins s σ H Q I q => h pins s σ H Q I (w σ H Q q)
theorem PW.weak {X : Cx} {e : Expr} {t t' : TT} (h : PW X e t) (w : ∀ σ H Q, t' σ H Q → t σ H Q) : PW X e t' := fun wh pins s σ H Q I q => h wh pins s σ H Q I (w σ H Q q)
theorem PA.weak {X : Cx} {e : List Expr} {t t' : TA} (h : PA X e t) (w : ∀ σ H Q, t' σ H Q → t σ H Q) : PA X e t' := fun pos pins s σ H Q I q => h pos pins s σ H Q I (w σ H Q q)
theorem PS.weak {X : Cx} {e : Stmt} {t t' : TS} (h : PS X e t) (w : ∀ D σ H, t' D σ H → t D σ H) : PS X e t' := fun pins s σ H D I q => h pins s σ H D I (w D σ H q)
theorem PSs.weak {X : Cx} {e : List Stmt} {t t' : TS} (h : PSs X e t) (w : ∀ D σ H, t' D σ H → t D σ H) : PSs X e t' := fun pins s σ H D I q => h pins s σ H D I (w D σ H q)
theorem PG.weak {X : Cx} {e : Expr} {t t' : TG} (h : PG X e t) (w : ∀ v σ H Q, t' v σ H Q → t v σ H Q) : PG X e t' := fun pins s σ H v u Q I r q => h pins s σ H v u Q I r (w v σ H Q q)
theorem PGs.weak {X : Cx} {e : List Expr} {t t' : TGs} (h : PGs X e t) (w : ∀ v σ H Q, t' v σ H Q → t v σ H Q) : PGs X e t' := fun pins s σ H v u Q I r q => h pins s σ H v u Q I r (w v σ H Q q)
theorem bind_some {α β : Type} {x : Option α} {f : α → Option β} {b : β} (h : x.bind f = some b) : ∃ a, x = some a ∧ f a = some b := by
  cases x with
  | none => cases h
  | some a => exact ⟨a, rfl, h⟩
def nameF (i : Nat) : FE := fun ρ => match ρ[i]? with | some (some d) => some (d, ρ) | _ => none
def cF (d : Dt) : FE := fun ρ => some (d, ρ)
section
variable {X : Cx} {bs : Md} {pos : Pos}
theorem nameF_some {i : Nat} {ρ ρ' : Ev} {d : Dt} (h : nameF i ρ = some (d, ρ')) : ρ[i]? = some (some d) ∧ ρ' = ρ := by
  unfold nameF at h
  split at h
  · cases h; exact ⟨by assumption, rfl⟩
  · cases h
theorem eo_name (i : Nat) {x : Str} (hb : i ∉ bs.bs := by decide) (hN : X.N[i]? = some x := by rfl) (hv : Vis X.env.scope x := by first | exact Or.inl rfl | exact Or.inr (Or.inl rfl) | exact Or.inr (Or.inr rfl)) (hd : (x == ("__debug__" : Str)) = false := by decide)
    (hcd : (x == ("__classdict__" : Str)) = false := by decide) : QE X bs (.Name x pos) (nameF i) := ⟨PE.weak (pe_var hN hv hd hcd) fun σ H Q ⟨F, I, ρ, d, ρ', R, e, k⟩ => by
  obtain ⟨h, rfl⟩ := nameF_some e
  obtain ⟨v, h1, h2⟩ := R.val i d h hb
  exact ⟨v, h1, k v H I (Same.refl I) R h2⟩⟩
theorem eo_int {i j} : QE X bs (.Constant (.int i) j pos) (cF (.int i)) := ⟨PE.weak pe_int fun σ H Q ⟨F, I, ρ, d, ρ', R, e, k⟩ => by cases e; exact k _ H I (Same.refl I) R (.int i)⟩
theorem eo_bl {b j} : QE X bs (.Constant (.bool b) j pos) (cF (.bool b)) := ⟨PE.weak pe_bl fun σ H Q ⟨F, I, ρ, d, ρ', R, e, k⟩ => by cases e; exact k _ H I (Same.refl I) R (.bl b)⟩
theorem eo_non {j} : QE X bs (.Constant .none j pos) (cF .none) := ⟨PE.weak pe_non fun σ H Q ⟨F, I, ρ, d, ρ', R, e, k⟩ => by cases e; exact k _ H I (Same.refl I) R .non⟩
theorem eo_str {x j} : QE X bs (.Constant (.str x) j pos) (cF (.str x)) := ⟨PE.weak pe_str fun σ H Q ⟨F, I, ρ, d, ρ', R, e, k⟩ => by cases e; exact k _ H I (Same.refl I) R (.str x)⟩
theorem eo_glob {x : Str} {n : Int} {t : Tok} (hg : Gl X x) (hm : X.mg x = some (.int n t)) (hd : (x == ("__debug__" : Str)) = false := by decide) : QE X bs (.Name x pos) (cF (.int n)) :=
  ⟨PE.weak (pe_glob hg hm (show RelV (.int n) _ from ⟨t, rfl⟩) hd) fun σ H Q ⟨F, I, ρ, d, ρ', R, e, k⟩ => by cases e; exact k _ H I (Same.refl I) R (.int n)⟩
def rq (K : PySem.W.Frag) (g : Dt → Dt → Option Dt) : R2 := fun x y H Q => ∃ I d e r, Same I H ∧ SzOk I ∧ Dp K I x d ∧ Dp K I y e ∧ g d e = some r ∧ ∀ v H' I', Grow H I H' I' → Dp K I' v r → Q v H'
structure OpQ (X : Cx) (f : Value → Value → Sem Value) (g : Dt → Dt → Option Dt) : Prop where
  mk :: (op : OpR X f (rq X.K g))
theorem OpQ.of {f : Value → Value → Sem Value} {r : R2} {g : Dt → Dt → Option Dt} (h : OpR X f r) (w : ∀ x y H Q, rq X.K g x y H Q → r x y H Q) : OpQ X f g := ⟨fun pins s σ H x y v u Q I rx ry q => h pins s σ H x y v u Q I rx ry (w x y H Q q)⟩
def opF (g : Dt → Dt → Option Dt) (fa fb : FE) : FE := fun ρ => (fa ρ).bind fun (x, ρ1) => (fb ρ1).bind fun (y, ρ2) => (g x y).bind fun z => some (z, ρ2)
theorem tq_op {g : Dt → Dt → Option Dt} {fa fb : FE} {K : PySem.W.Frag} {σ : St} {H : Hp} {Q : VK} (h : tq K bs (opF g fa fb) σ H Q) : tOp (rq K g) (tq K bs fa) (tq K bs fb) σ H Q := by
  obtain ⟨F, I, ρ, d, ρ', R, e, k⟩ := h
  obtain ⟨⟨x, ρ1⟩, e1, e⟩ := bind_some e
  obtain ⟨⟨y, ρ2⟩, e2, e⟩ := bind_some e
  obtain ⟨z, e3, e⟩ := bind_some e
  cases e
  exact ⟨F, I, ρ, x, ρ1, R, e1, fun v H1 I1 s1 R1 d1 => ⟨F, I1, ρ1, y, _, R1, e2, fun w H2 I2 s2 R2 d2 => ⟨I2, x, y, d, R2.sub, R2.sz, Dp.up s2 d1, d2, e3, fun u H3 I3 g d3 => k u H3 I3 (s1.trans (s2.trans g.ii)) (R2.grow g) d3⟩⟩⟩
variable {a b c : Expr} {fa fb fc : FE}
theorem eo_op {op : Operator} {g : Dt → Dt → Option Dt} (ho : OpQ X (binaryOp op) g) (ha : QE X bs a fa) (hb : QE X bs b fb) : QE X bs (.BinOp a op b pos) (opF g fa fb) := ⟨PE.weak (pe_op ho.op ha.pe hb.pe) fun _ _ _ h => tq_op h⟩
theorem eo_cmp {op : CmpOp} {g : Dt → Dt → Option Dt} (ho : OpQ X (compareOp op) g) (ha : QE X bs a fa) (hb : QE X bs b fb) (hm : behindInMarks op b = false := by first | exact nomark _ | with_unfolding_all rfl) : QE X bs (.Compare a [op] [b] pos) (opF g fa fb) := ⟨PE.weak (pe_cmpR ho.op ha.pe hb.pe hm) fun _ _ _ h => tq_op h⟩
def tF (f : FE) : FT := fun ρ => (f ρ).bind fun (x, ρ1) => match x with | .bool b => some (b, ρ1) | _ => none
theorem tq_test {f : FE} {K : PySem.W.Frag} {σ : St} {H : Hp} {Q : Bool → Hp → Prop} (h : tqT K bs (tF f) σ H Q) : tTest (tq K bs f) σ H Q := by
  obtain ⟨F, I, ρ, d, ρ', R, e, k⟩ := h
  obtain ⟨⟨x, ρ1⟩, e1, e⟩ := bind_some e
  cases x with
  | bool b =>
    cases e
    exact ⟨F, I, ρ, _, _, R, e1, fun v H1 I1 s1 R1 d1 => by cases d1; exact ⟨_, rfl, k H1 I1 s1 R1⟩⟩
  | _ => cases e
theorem to_cmp {op : CmpOp} {g : Dt → Dt → Option Dt} (ho : OpQ X (compareOp op) g) (ha : QE X bs a fa) (hb : QE X bs b fb) (hm : behindInMarks op b = false := by first | exact nomark _ | with_unfolding_all rfl) : QT X bs (.Compare a [op] [b] pos) (tF (opF g fa fb)) :=
  ⟨PT.weak (pt_cmpR ho.op ha.pe hb.pe hm) fun σ H Q h => tq_op (tq_test h)⟩
def truD : Dt → Option Bool
  | .none => some false
  | .bool b => some b
  | .int i => some (i != 0)
  | .list ds => some (!ds.isEmpty)
  | .tuple ds => some (!ds.isEmpty)
  | _ => none
theorem DpAll.empty {K : PySem.W.Frag} {I : Hp} {ds : List Dt} {vs : List V} (h : DpAll K I vs ds) : vs.isEmpty = ds.isEmpty := by cases h <;> rfl
def truF (f : FE) : FT := fun ρ => (f ρ).bind fun (x, ρ1) => (truD x).bind fun b => some (b, ρ1)
theorem Dp.tru {K : PySem.W.Frag} {I H : Hp} {v : V} {d : Dt} {b : Bool} (s : Same I H) (h : Dp K I v d) (e : truD d = some b) : TruV K v H b := by
  cases h with
  | non => cases e; rfl
  | bl _ => cases e; rfl
  | int _ => cases e; rfl
  | str _ => cases e
  | lst h1 h2 => cases e; exact .inl ⟨_, SqL.up s h1, by rw [h2.empty]⟩
  | tup h1 h2 => cases e; exact .inr (.inl ⟨_, SqT.up s h1, by rw [h2.empty]⟩)
theorem to_tru {e : Expr} {f : FE} (h : QE X bs e f) (he : ∀ whole, isTrue e X.env whole = (do let v ← whole; standAt e.pos; holding [v] (truthy v)) := by intro _; rfl) : QT X bs e (truF f) :=
  ⟨PT.weak (pt_truth h.pe he) fun σ H Q ⟨F, I, ρ, d, ρ', R, e, k⟩ => by
    obtain ⟨⟨x, ρ1⟩, e1, e⟩ := bind_some e
    obtain ⟨b, e2, e⟩ := bind_some e
    cases e
    exact ⟨F, I, ρ, _, _, R, e1, fun v H1 I1 s1 R1 d1 => ⟨_, d1.tru R1.sub e2, k H1 I1 s1 R1⟩⟩⟩
variable {ta tb tc : FT} {rest : List Expr}
def andT (ta tb : FT) : FT := fun ρ => (ta ρ).bind fun (x, ρ1) => if x = true then tb ρ1 else some (false, ρ1)
def orT (ta tb : FT) : FT := fun ρ => (ta ρ).bind fun (x, ρ1) => if x = true then some (true, ρ1) else tb ρ1
def notT (ta : FT) : FT := fun ρ => (ta ρ).bind fun (x, ρ1) => some (!x, ρ1)
theorem QW.to {e : Expr} {f : FT} (h : QW X bs e f) : QT X bs e f := ⟨PW.pt h.pw⟩
theorem wo_or1 (ha : QT X bs a ta) : QW X bs (.BoolOp .Or [a] pos) ta := ⟨pw_or1 ha.pt⟩
theorem wo_or (ha : QT X bs a ta) (hb : QW X bs (.BoolOp .Or (b :: rest) pos) tb) : QW X bs (.BoolOp .Or (a :: b :: rest) pos) (orT ta tb) :=
  ⟨PW.weak (pw_or ha.pt hb.pw) fun σ H Q ⟨F, I, ρ, d, ρ', R, e, k⟩ => by
    obtain ⟨⟨x, ρ1⟩, e1, e⟩ := bind_some e
    refine ⟨F, I, ρ, x, ρ1, R, e1, fun H1 I1 s1 R1 => ?_⟩
    cases x with
    | false => exact iteF ⟨F, I1, ρ1, d, ρ', R1, e, fun H2 I2 s2 R2 => k H2 I2 (s1.trans s2) R2⟩
    | true => cases e; exact iteT (k H1 I1 s1 R1)⟩
theorem to_not (ha : QT X bs a ta) : QT X bs (.UnaryOp .Not a pos) (notT ta) :=
  ⟨PT.weak (pt_not ha.pt) fun σ H Q ⟨F, I, ρ, d, ρ', R, e, k⟩ => by
    obtain ⟨⟨x, ρ1⟩, e1, e⟩ := bind_some e
    cases e
    exact ⟨F, I, ρ, x, ρ', R, e1, fun H1 I1 s1 R1 => k H1 I1 s1 R1⟩⟩
def andV (fa fb : FE) : FE := fun ρ => (fa ρ).bind fun (x, ρ1) => match x with | .bool true => fb ρ1 | .bool false => some (.bool false, ρ1) | _ => none
def orV (fa fb : FE) : FE := fun ρ => (fa ρ).bind fun (x, ρ1) => match x with | .bool true => some (.bool true, ρ1) | .bool false => fb ρ1 | _ => none
def notV (fa : FE) : FE := fun ρ => (fa ρ).bind fun (x, ρ1) => match x with | .bool b => some (.bool !b, ρ1) | _ => none
theorem eo_one {op} (h : QE X bs a fa) : QE X bs (.BoolOp op [a] pos) fa := ⟨pe_one h.pe⟩
theorem eo_and (ha : QE X bs a fa) (hb : QE X bs (.BoolOp .And (b :: rest) pos) fb) : QE X bs (.BoolOp .And (a :: b :: rest) pos) (andV fa fb) :=
  ⟨PE.weak (pe_and ha.pe hb.pe) fun σ H Q ⟨F, I, ρ, d, ρ', R, e, k⟩ => by
    obtain ⟨⟨x, ρ1⟩, e1, e⟩ := bind_some e
    refine ⟨F, I, ρ, x, ρ1, R, e1, fun v H1 I1 s1 R1 d1 => ?_⟩
    cases x with
    | bool b =>
      cases d1
      refine ⟨b, rfl, ?_⟩
      cases b with
      | true => exact iteT ⟨F, I1, ρ1, d, ρ', R1, e, fun v H2 I2 s2 R2 => k v H2 I2 (s1.trans s2) R2⟩
      | false => cases e; exact iteF (k _ H1 I1 s1 R1 (.bl false))
    | _ => cases e⟩
theorem eo_not (ha : QE X bs a fa) : QE X bs (.UnaryOp .Not a pos) (notV fa) :=
  ⟨PE.weak (pe_not ha.pe) fun σ H Q ⟨F, I, ρ, d, ρ', R, e, k⟩ => by
    obtain ⟨⟨x, ρ1⟩, e1, e⟩ := bind_some e
    refine ⟨F, I, ρ, x, ρ1, R, e1, fun v H1 I1 s1 R1 d1 => ?_⟩
    cases x with
    | bool b => cases d1; cases e; exact ⟨b, rfl, k _ H1 I1 s1 R1 (.bl _)⟩
    | _ => cases e⟩
def ifF (t : FT) (fa fb : FE) : FE := fun ρ => (t ρ).bind fun (x, ρ1) => if x = true then fa ρ1 else fb ρ1
theorem eo_if (hc : QT X bs c tc) (ha : QE X bs a fa) (hb : QE X bs b fb) : QE X bs (.IfExp c a b pos) (ifF tc fa fb) :=
  ⟨PE.weak (pe_ifExp hc.pt ha.pe hb.pe) fun σ H Q ⟨F, I, ρ, d, ρ', R, e, k⟩ => by
    obtain ⟨⟨x, ρ1⟩, e1, e⟩ := bind_some e
    refine ⟨F, I, ρ, x, ρ1, R, e1, fun H1 I1 s1 R1 => ?_⟩
    cases x with
    | true => exact iteT ⟨F, I1, ρ1, d, ρ', R1, e, fun v H2 I2 s2 R2 => k v H2 I2 (s1.trans s2) R2⟩
    | false => exact iteF ⟨F, I1, ρ1, d, ρ', R1, e, fun v H2 I2 s2 R2 => k v H2 I2 (s1.trans s2) R2⟩⟩
def chainF (g g' : Dt → Dt → Option Dt) (fa fb fc : FE) : FE := fun ρ => (fa ρ).bind fun (x, ρ1) => (fb ρ1).bind fun (y, ρ2) => (g x y).bind fun z => match z with
  | .bool true => (fc ρ2).bind fun (w, ρ3) => (g' y w).bind fun r => some (r, ρ3)
  | .bool false => some (.bool false, ρ2)
  | _ => none
theorem tq_chain {g g' : Dt → Dt → Option Dt} {K : PySem.W.Frag} {σ : St} {H : Hp} {Q : VK} (h : tq K bs (chainF g g' fa fb fc) σ H Q) : tChain (rq K g) (rq K g') (tq K bs fa) (tq K bs fb) (tq K bs fc) σ H Q := by
  obtain ⟨F, I, ρ, d, ρ', R, e, k⟩ := h
  obtain ⟨⟨x, ρ1⟩, e1, e⟩ := bind_some e
  obtain ⟨⟨y, ρ2⟩, e2, e⟩ := bind_some e
  obtain ⟨z, e3, e⟩ := bind_some e
  refine ⟨F, I, ρ, x, ρ1, R, e1, fun v H1 I1 s1 R1 d1 => ⟨F, I1, ρ1, y, ρ2, R1, e2, fun w H2 I2 s2 R2 d2 => ⟨I2, x, y, z, R2.sub, R2.sz, Dp.up s2 d1, d2, e3, fun u H3 I3 g3 d3 => ?_⟩⟩⟩
  cases z with
  | bool q =>
    cases d3
    refine ⟨q, rfl, ?_⟩
    cases q with
    | false => cases e; exact iteF (k _ H3 I3 (s1.trans (s2.trans g3.ii)) (R2.grow g3) (.bl false))
    | true =>
      obtain ⟨⟨w', ρ3⟩, e4, e⟩ := bind_some e
      obtain ⟨r, e5, e⟩ := bind_some e
      cases e
      exact iteT ⟨F, I3, ρ2, w', ρ', R2.grow g3, e4, fun v4 H4 I4 s4 R4 d4 => ⟨I4, y, w', d, R4.sub, R4.sz, Dp.up (g3.ii.trans s4) d2, d4, e5, fun v5 H5 I5 g5 d5 => k v5 H5 I5 (s1.trans (s2.trans (g3.ii.trans (s4.trans g5.ii)))) (R4.grow g5) d5⟩⟩
  | _ => cases e
theorem eo_chain {op op' : CmpOp} {g g' : Dt → Dt → Option Dt} (ho : OpQ X (compareOp op) g) (ho' : OpQ X (compareOp op') g') (ha : QE X bs a fa) (hb : QE X bs b fb) (hc : QE X bs c fc)
    (hm : lastMarks [op, op'] [b, c] = false := by with_unfolding_all rfl) : QE X bs (.Compare a [op, op'] [b, c] pos) (chainF g g' fa fb fc) := ⟨PE.weak (pe_chain ho.op ho'.op ha.pe hb.pe hc.pe hm) fun _ _ _ h => tq_chain h⟩
theorem to_chain {op op' : CmpOp} {g g' : Dt → Dt → Option Dt} (ho : OpQ X (compareOp op) g) (ho' : OpQ X (compareOp op') g') (ha : QE X bs a fa) (hb : QE X bs b fb) (hc : QE X bs c fc)
    (hm : lastMarks [op, op'] [b, c] = false := by with_unfolding_all rfl) : QT X bs (.Compare a [op, op'] [b, c] pos) (tF (chainF g g' fa fb fc)) := ⟨PT.weak (pt_chain ho.op ho'.op ha.pe hb.pe hc.pe hm) fun _ _ _ h => tq_chain (tq_test h)⟩
def nilA : FA := fun ρ => some ([], ρ)
def consA (fe : FE) (fr : FA) : FA := fun ρ => (fe ρ).bind fun (x, ρ1) => (fr ρ1).bind fun (xs, ρ2) => some (x :: xs, ρ2)
variable {es : List Expr} {cs : List (Option Nat)} {fr : FA} {fe : FE} {e : Expr}
theorem ao_nil : QA X bs [] [] nilA := ⟨PA.weak pa_nil fun σ H Q ⟨F, I, ρ, d, ρ', R, e, k⟩ => by cases e; exact k [] H I (Same.refl I) R .nil⟩
theorem ao_cons (he : QE X bs e fe) (hr : QA X bs es cs fr) (hs : starEach (e :: es) X.env = (false, eval e X.env) :: starEach es X.env := by rfl) : QA X bs (e :: es) (none :: cs) (consA fe fr) :=
  ⟨PA.weak (pa_cons he.pe hr.pa hs) fun σ H Q ⟨F, I, ρ, d, ρ', R, e, k⟩ => by
    obtain ⟨⟨x, ρ1⟩, e1, e⟩ := bind_some e
    obtain ⟨⟨xs, ρ2⟩, e2, e⟩ := bind_some e
    cases e
    exact ⟨F, I, ρ, x, ρ1, R, e1, fun v H1 I1 s1 R1 d1 => ⟨F, I1, ρ1, xs, ρ', R1, e2, fun vs H2 I2 s2 R2 d2 => k (v :: vs) H2 I2 (s1.trans s2) R2 (.val (Dp.up s2 d1) d2)⟩⟩⟩
end
end L2
namespace L2
open PySem PySem.Spec PyProof.Rows
section
variable {K : PySem.W.Frag} {bs : Md} {F : Fr} {σ : St} {H I H' I' : Hp} {ρ : Ev}
theorem ev_set {α : Type} {l : List (Option α)} {i j : Nat} {x : Option α} {d : α} (h : (l.set i x)[j]? = some (some d)) : (i = j ∧ x = some d) ∨ (i ≠ j ∧ l[j]? = some (some d)) := by
  by_cases e : i = j
  · subst e
    by_cases hl : i < l.length
    · rw [List.getElem?_set_self hl] at h; exact .inl ⟨rfl, Option.some.inj h⟩
    · rw [List.getElem?_eq_none (by simpa using hl)] at h; cases h
  · rw [List.getElem?_set_ne e] at h; exact .inr ⟨e, h⟩
theorem lt_of_get {α : Type} {l : List (Option α)} {i : Nat} {d : α} (h : l[i]? = some (some d)) : i < l.length := (List.getElem?_eq_some_iff.mp h).1
theorem Rl.setV (R : Rl K bs F σ H I ρ) {i : Nat} {v : V} {d : Dt} (hb : i ∉ bs.bs) (h : Dp K I v d) : Rl K bs F (σ.set i (some v)) H I (ρ.set i (some d)) :=
  ⟨R.sub, R.frm, R.dis, R.sz, fun j e q hj => (by
    rcases ev_set q with ⟨rfl, q2⟩ | ⟨ne, q2⟩
    · cases q2
      have hl := lt_of_get (l := ρ.set i (some d)) q
      rw [List.length_set, R.len] at hl
      exact ⟨v, by rw [List.getElem?_set_self hl], h⟩
    · obtain ⟨w, h1, h2⟩ := R.val j e q2 hj
      exact ⟨w, by rw [List.getElem?_set_ne ne]; exact h1, h2⟩),
   fun j e q hj => (by
    rcases ev_set q with ⟨rfl, q2⟩ | ⟨ne, q2⟩
    · exact absurd hj hb
    · obtain ⟨a, h1, h2⟩ := R.box j e q2 hj
      exact ⟨a, by rw [List.getElem?_set_ne ne]; exact h1, h2⟩),
   fun j k e f a hj hk q1 q2 s1 s2 => (by
    have n1 : i ≠ j := fun z => hb (z ▸ hj)
    have n2 : i ≠ k := fun z => hb (z ▸ hk)
    rw [List.getElem?_set_ne n1] at q1 s1
    rw [List.getElem?_set_ne n2] at q2 s2
    exact R.inj j k e f a hj hk q1 q2 s1 s2),
   by rw [List.length_set, List.length_set]; exact R.len,
   fun j a q => (by
    obtain ⟨h1, h2, h3⟩ := R.anc j a q
    have n : i ≠ j := fun z => hb (by rw [z]; exact h2)
    exact ⟨by rw [List.getElem?_set_ne n]; exact h1, h2, h3⟩), R.tab⟩
theorem Rl.setB (R : Rl K bs F σ H I ρ) {i : Nat} {a : Addr} {d : Dt} (hb : i ∈ bs.bs) (hp : bs.np ≤ i) (O : Own K bs F σ H I ρ a d) : Rl K bs F (σ.set i (some (.ref a))) H I (ρ.set i (some d)) :=
  ⟨R.sub, R.frm, R.dis, R.sz, fun j e q hj => (by
    rcases ev_set q with ⟨rfl, q2⟩ | ⟨ne, q2⟩
    · exact absurd hb hj
    · obtain ⟨w, h1, h2⟩ := R.val j e q2 hj
      exact ⟨w, by rw [List.getElem?_set_ne ne]; exact h1, h2⟩),
   fun j e q hj => (by
    rcases ev_set q with ⟨rfl, q2⟩ | ⟨ne, q2⟩
    · cases q2
      have hl := lt_of_get (l := ρ.set i (some d)) q
      rw [List.length_set, R.len] at hl
      exact ⟨a, by rw [List.getElem?_set_self hl], O.bx, O.ni, O.nf⟩
    · obtain ⟨b, h1, h2⟩ := R.box j e q2 hj
      exact ⟨b, by rw [List.getElem?_set_ne ne]; exact h1, h2⟩),
   fun j k e f b hj hk q1 q2 s1 s2 => (by
    by_cases n1 : i = j
    · by_cases n2 : i = k
      · rw [← n1, ← n2]
      · subst n1
        rw [List.getElem?_set_ne n2] at q2 s2
        have hl := lt_of_get q1
        rw [List.length_set, R.len] at hl
        rw [List.getElem?_set_self hl] at s1
        cases s1
        exact absurd s2 (O.nb k f hk q2)
    · by_cases n2 : i = k
      · subst n2
        rw [List.getElem?_set_ne n1] at q1 s1
        have hl := lt_of_get q2
        rw [List.length_set, R.len] at hl
        rw [List.getElem?_set_self hl] at s2
        cases s2
        exact absurd s1 (O.nb j e hj q1)
      · rw [List.getElem?_set_ne n1] at q1 s1
        rw [List.getElem?_set_ne n2] at q2 s2
        exact R.inj j k e f b hj hk q1 q2 s1 s2),
   by rw [List.length_set, List.length_set]; exact R.len,
   fun j b q => (by
    obtain ⟨h1, h2, h3⟩ := R.anc j b q
    exact ⟨by rw [List.getElem?_set_ne (by omega)]; exact h1, h2, h3⟩), R.tab⟩
theorem Rl.chg (R : Rl K bs F σ H I ρ) {i : Nat} {a : Addr} {d d' : Dt} {o : HO} (hb : i ∈ bs.bs) (h0 : ρ[i]? = some (some d)) (hs : σ[i]? = some (some (.ref a))) (hx : Bx K I (upd H a o) a d') : Rl K bs F σ (upd H a o) I (ρ.set i (some d')) := by
  obtain ⟨a', s1, b1, i1, f1⟩ := R.box i d h0 hb
  rw [hs] at s1; cases s1
  have nI : ∀ b u, I b = some u → b ≠ a := fun b u e z => by rw [z, i1] at e; cases e
  have nF : ∀ b u, F.F b = some u → b ≠ a := fun b u e z => by rw [z, f1] at e; cases e
  refine ⟨fun b u e => by rw [upd_ne (nI b u e)]; exact R.sub b u e, fun b u e => by rw [upd_ne (nF b u e)]; exact R.frm b u e, R.dis, R.sz, fun j e q hj => ?_, fun j e q hj => ?_, fun j k e f b hj hk q1 q2 s1 s2 => ?_, by rw [List.length_set]; exact R.len, R.anc, ⟨fun x hx c P e => ?_, R.tab.2⟩⟩
  rotate_left 3
  · obtain ⟨⟨ps, t1, t2⟩, t3, t4⟩ := R.tab.1 x hx c P e
    have ne : P ≠ a := fun z => by
      obtain ⟨o', ho'⟩ := b1.some
      cases d with
      | list ds => obtain ⟨xs, q, _⟩ := b1; rw [z, q] at t1; cases t1
      | dict kvs => obtain ⟨kv, q, r⟩ := b1; rw [z, q] at t1; cases t1; exact False.elim r
      | str x => obtain ⟨_, _, q⟩ := b1; rw [z, q] at t1; cases t1
      | _ => exact b1.elim
    exact ⟨⟨ps, by rw [upd_ne ne]; exact t1, t2⟩, t3, t4⟩
  · rcases ev_set q with ⟨rfl, q2⟩ | ⟨ne, q2⟩
    · exact absurd hb hj
    · exact R.val j e q2 hj
  · rcases ev_set q with ⟨rfl, q2⟩ | ⟨ne, q2⟩
    · cases q2
      exact ⟨a, hs, hx, i1, f1⟩
    · obtain ⟨b, s2, b2, i2, f2⟩ := R.box j e q2 hj
      refine ⟨b, s2, b2.up (Same.refl I) (upd_ne fun z => ne ?_), i2, f2⟩
      subst z
      exact R.inj i j d e b hb hj h0 q2 hs s2
  · have w1 : ∃ e', ρ[j]? = some (some e') := by
      rcases ev_set q1 with ⟨rfl, _⟩ | ⟨_, q⟩
      · exact ⟨_, h0⟩
      · exact ⟨_, q⟩
    have w2 : ∃ e', ρ[k]? = some (some e') := by
      rcases ev_set q2 with ⟨rfl, _⟩ | ⟨_, q⟩
      · exact ⟨_, h0⟩
      · exact ⟨_, q⟩
    obtain ⟨e', w1⟩ := w1
    obtain ⟨f', w2⟩ := w2
    exact R.inj j k e' f' b hj hk w1 w2 s1 s2
theorem Rl.freeze (R : Rl K bs F σ H I ρ) {a : Addr} {ds : List Dt} (O : Own K bs F σ H I ρ a (.list ds)) : ∃ I', Same I I' ∧ Rl K bs F σ H I' ρ ∧ Dp K I' (.ref a) (.list ds) := by
  obtain ⟨xs, h1, h2, h3⟩ := O.bx
  have sI : Same I (upd I a (.lst xs)) := Same.put O.ni
  refine ⟨upd I a (.lst xs), sI, ⟨fun b u e => ?_, R.frm, fun b u e => ?_, R.sz.put (.inl rfl) h3, fun i d q hb => ?_, fun i d q hb => ?_, R.inj, R.len, R.anc, ⟨fun x hx c P e => ?_, R.tab.2⟩⟩, .lst (.inl (.inl upd_same)) (DpAll.up sI h2)⟩
  · by_cases z : b = a
    · subst z; rw [upd_same] at e; rw [h1]; exact e
    · rw [upd_ne z] at e; exact R.sub b u e
  · have z : b ≠ a := fun z => by rw [z, O.nf] at e; cases e
    rw [upd_ne z]; exact R.dis b u e
  · obtain ⟨v, q1, q2⟩ := R.val i d q hb
    exact ⟨v, q1, Dp.up sI q2⟩
  · obtain ⟨b, q1, q2, q3, q4⟩ := R.box i d q hb
    have z : b ≠ a := fun z => O.nb i d hb q (z ▸ q1)
    exact ⟨b, q1, q2.up sI rfl, by rw [upd_ne z]; exact q3, q4⟩
  · obtain ⟨⟨ps, t1, t2⟩, t3, t4⟩ := R.tab.1 x hx c P e
    have ne : P ≠ a := fun z => by rw [z, h1] at t1; cases t1
    exact ⟨⟨ps, t1, t2.up sI⟩, by rw [upd_ne ne]; exact t3, t4⟩
theorem Own.new (R : Rl K bs F σ H I ρ) {p : Addr} {xs : List V} {ds : List Dt} (h : H p = none) (hx : DpAll K I xs ds) (hz : xs.length ≤ sizeLine) : Rl K bs F σ (upd H p (.lst xs)) I ρ ∧ Own K bs F σ (upd H p (.lst xs)) I ρ p (.list ds) := by
  have g : Grow H I (upd H p (.lst xs)) I := ⟨Same.put h, Same.refl I, R.sub.trans (Same.put h), fun a o e e' => (by rw [e] at e'; cases e'), R.sz⟩
  refine ⟨R.grow g, ⟨⟨xs, upd_same, hx, hz⟩, R.sub.free h, R.frm.free h, fun i e hi q z => ?_⟩⟩
  obtain ⟨a, s1, b1, _⟩ := R.box i e q hi
  rw [s1] at z; cases z
  obtain ⟨o, ho⟩ := b1.some
  rw [h] at ho; cases ho
end
section
variable {X : Cx} {bs : Md} {pos : Pos} {a b c e : Expr} {es : List Expr} {fa fb fc fe : FE}
theorem QF.frz {f : FE} (h : QF X bs e f) (hl : ∀ ρ d ρ', f ρ = some (d, ρ') → ∃ ds, d = .list ds) : QE X bs e f := ⟨PE.weak h.pe fun σ H Q ⟨F, I, ρ, d, ρ', R, e, k⟩ => ⟨F, I, ρ, d, ρ', R, e, fun a H' I' s' R' O => by
  obtain ⟨ds, rfl⟩ := hl ρ d ρ' e
  obtain ⟨I2, s2, R2, d2⟩ := R'.freeze O
  exact k _ H' I2 (s'.trans s2) R2 d2⟩⟩
def tupF (fr : FA) : FE := fun ρ => (fr ρ).bind fun (ds, ρ1) => some (.tuple ds, ρ1)
def lstF (fr : FA) : FE := fun ρ => (fr ρ).bind fun (ds, ρ1) => some (.list ds, ρ1)
theorem ArgR.lenc {K : PySem.W.Frag} {I : Hp} {σ : St} {cs : List (Option Nat)} {vs : List V} {ds : List Dt} (h : ArgR K I σ cs vs ds) : vs.length = cs.length := by
  induction h with
  | nil => rfl
  | val _ _ ih => simp [ih]
  | box _ _ ih => simp [ih]
variable {cs : List (Option Nat)} {fr : FA}
theorem qe_tup {x1} (h : QA X bs es cs fr) (hn : ∀ c ∈ cs, c = none := by simp) (hl : cs.length ≤ sizeLine := by decide) : QE X bs (.Tuple es x1 pos) (tupF fr) :=
  ⟨PE.weak (pe_tup h.pa) fun σ H Q ⟨F, I, ρ, d, ρ', R, e, k⟩ => by
    obtain ⟨⟨ds, ρ1⟩, e1, e⟩ := bind_some e
    cases e
    refine ⟨F, I, ρ, ds, _, R, e1, fun vs H1 I1 s1 R1 d1 => ⟨by rw [d1.lenc]; exact hl, fun p hp => ?_⟩⟩
    have g := Grow.tup R1.sub R1.sz hp (xs := vs) (by rw [d1.lenc]; exact hl)
    exact k _ _ _ (s1.trans g.ii) (R1.grow g) (.tup (.inl upd_same) (DpAll.up g.ii (ArgR.all hn d1)))⟩
theorem qf_lst (h : QA X bs es cs fr) (hn : ∀ c ∈ cs, c = none := by simp) (hl : cs.length ≤ sizeLine := by decide) : QF X bs (.List es pos) (lstF fr) :=
  ⟨PE.weak (pe_lst h.pa) fun σ H Q ⟨F, I, ρ, d, ρ', R, e, k⟩ => by
    obtain ⟨⟨ds, ρ1⟩, e1, e⟩ := bind_some e
    cases e
    refine ⟨F, I, ρ, ds, _, R, e1, fun vs H1 I1 s1 R1 d1 => ⟨by rw [d1.lenc]; exact hl, fun p hp => ?_⟩⟩
    obtain ⟨R2, O⟩ := Own.new R1 hp (ArgR.all hn d1) (by rw [d1.lenc]; exact hl)
    exact k _ _ _ s1 R2 O⟩
theorem lstF_list {fr : FA} : ∀ ρ d ρ', lstF fr ρ = some (d, ρ') → ∃ ds, d = .list ds := fun ρ d ρ' h => by
  obtain ⟨⟨ds, ρ1⟩, e1, e⟩ := bind_some h
  cases e; exact ⟨ds, rfl⟩
theorem qe_lst (h : QA X bs es cs fr) (hn : ∀ c ∈ cs, c = none := by simp) (hl : cs.length ≤ sizeLine := by decide) : QE X bs (.List es pos) (lstF fr) := (qf_lst h hn hl).frz lstF_list
def boxA (i : Nat) (fr : FA) : FA := fun ρ => match ρ[i]? with
  | some (some _) => (fr ρ).bind fun (xs, ρ2) => some (.none :: xs, ρ2)
  | _ => none
theorem qa_box (i : Nat) {x : Str} {p : Pos} (hr : QA X bs es cs fr) (hb : i ∈ bs.bs := by decide) (hs : starEach (Expr.Name x p :: es) X.env = (false, eval (Expr.Name x p) X.env) :: starEach es X.env := by rfl)
    (hN : X.N[i]? = some x := by rfl) (hv : Vis X.env.scope x := by first | exact Or.inl rfl | exact Or.inr (Or.inl rfl) | exact Or.inr (Or.inr rfl)) (hd : (x == ("__debug__" : Str)) = false := by decide)
    (hcd : (x == ("__classdict__" : Str)) = false := by decide) : QA X bs (.Name x p :: es) (some i :: cs) (boxA i fr) :=
  ⟨PA.weak (pa_cons (pe_var hN hv hd hcd) hr.pa hs) fun σ H Q ⟨F, I, ρ, d, ρ', R, e, k⟩ => by
    unfold boxA at e
    split at e
    · obtain ⟨⟨xs, ρ2⟩, e2, e⟩ := bind_some e
      cases e
      rename_i w hw
      obtain ⟨a, h1, _⟩ := R.box i w hw hb
      exact ⟨_, h1, F, I, ρ, xs, _, R, e2, fun vs H2 I2 s2 R2 d2 => k _ H2 I2 s2 R2 (.box h1 d2)⟩
    · cases e⟩
abbrev Fn := List Dt → Option (Dt × List Dt)
inductive ParR (K : PySem.W.Frag) (I H F : Hp) : List Bool → List V → List Dt → List Addr → Prop
  | nil : ParR K I H F [] [] [] []
  | val {bp : List Bool} {v : V} {vs : List V} {d : Dt} {ds : List Dt} {as : List Addr} : Dp K I v d → ParR K I H F bp vs ds as → ParR K I H F (false :: bp) (v :: vs) (d :: ds) as
  | box {bp : List Bool} {a : Addr} {vs : List V} {d : Dt} {ds : List Dt} {as : List Addr} : Bx K I H a d → I a = none → F a = none → a ∉ as → ParR K I H F bp vs ds as → ParR K I H F (true :: bp) (.ref a :: vs) (d :: ds) (a :: as)
inductive OutR (K : PySem.W.Frag) (I H : Hp) : List Bool → List V → List Dt → Prop
  | nil : OutR K I H [] [] []
  | val {bp : List Bool} {v : V} {vs : List V} {ds : List Dt} : OutR K I H bp vs ds → OutR K I H (false :: bp) (v :: vs) ds
  | box {bp : List Bool} {a : Addr} {vs : List V} {d : Dt} {ds : List Dt} : Bx K I H a d → I a = none → OutR K I H bp vs ds → OutR K I H (true :: bp) (.ref a :: vs) (d :: ds)
def spq (K : PySem.W.Frag) (tn : List Str) (bp : List Bool) (fn : Fn) : Sp := fun vs H Q _ => ∃ F I ds as d os, Same I H ∧ Same F H ∧ (∀ a o, F a = some o → I a = none) ∧ SzOk I ∧ Tabs K tn H I F ∧ ParR K I H F bp vs ds as ∧ fn ds = some (d, os) ∧
  ∀ v H' I', Same I I' → Same I' H' → Same F H' → (∀ a o, F a = some o → I' a = none) → SzOk I' → Tabs K tn H' I' F → OutR K I' H' bp vs os → Dp K I' v d → Q v H'
theorem ParR.len {K : PySem.W.Frag} {I H F : Hp} {bp : List Bool} {vs : List V} {ds : List Dt} {as : List Addr} (h : ParR K I H F bp vs ds as) : vs.length = bp.length ∧ ds.length = bp.length := by
  induction h with
  | nil => exact ⟨rfl, rfl⟩
  | val _ _ ih => simp [ih]
  | box _ _ _ _ _ ih => simp [ih]
def fillA : List (Option Nat) → List Dt → Ev → Option (List Dt)
  | [], [], _ => some []
  | none :: cs, d :: ds, ρ => (fillA cs ds ρ).bind fun r => some (d :: r)
  | some i :: cs, _ :: ds, ρ => match ρ[i]? with | some (some d) => (fillA cs ds ρ).bind fun r => some (d :: r) | _ => none
  | _, _, _ => none
def putA : List (Option Nat) → List Dt → Ev → Option Ev
  | [], [], ρ => some ρ
  | none :: cs, os, ρ => putA cs os ρ
  | some i :: cs, o :: os, ρ => putA cs os (ρ.set i (some o))
  | _, _, _ => none
def callF (fn : Fn) (cs : List (Option Nat)) (fr : FA) : FE := fun ρ => (fr ρ).bind fun (ds, ρ1) => (fillA cs ds ρ1).bind fun as => (fn as).bind fun (d, os) => (putA cs os ρ1).bind fun ρ2 => some (d, ρ2)
theorem putA_spec {K : PySem.W.Frag} {I H : Hp} {σ : St} : ∀ {cs : List (Option Nat)} {vs : List V} {ds os : List Dt} {ρ ρ' : Ev} {I0 : Hp}, ArgR K I0 σ cs vs ds → OutR K I H (cs.map Option.isSome) vs os → putA cs os ρ = some ρ' → (cs.filterMap id).Nodup →
    ρ'.length = ρ.length ∧ (∀ i, some i ∉ cs → ρ'[i]? = ρ[i]?) ∧ ∀ i, some i ∈ cs → i < ρ.length → ∃ a d, σ[i]? = some (some (.ref a)) ∧ ρ'[i]? = some (some d) ∧ Bx K I H a d ∧ I a = none
  | _, _, _, _, _, _, _, .nil, o, e, _ => by cases o; cases e; exact ⟨rfl, fun _ _ => rfl, fun i h => by simp at h⟩
  | _, _, _, _, ρ, ρ', _, .val (cs := cs) h r, o, e, nd => by
    cases o with
    | val o =>
      obtain ⟨h1, h2, h3⟩ := putA_spec r o (show putA cs _ ρ = some ρ' by simpa [putA] using e) (by simpa using nd)
      exact ⟨h1, fun i hi => h2 i fun m => hi (List.mem_cons_of_mem _ m), fun i hi => h3 i (by simpa using hi)⟩
  | _, _, _, _, ρ, ρ', _, .box (cs := cs) (i := i) (v := v) h r, o, e, nd => by
    cases o with
    | @box _ a _ d os b1 n1 o =>
      have nd' : i ∉ cs.filterMap id ∧ (cs.filterMap id).Nodup := by simpa using nd
      obtain ⟨h1, h2, h3⟩ := putA_spec (ρ := ρ.set i (some d)) r o (show putA cs os (ρ.set i (some d)) = some ρ' by simpa [putA] using e) nd'.2
      have hi : some i ∉ cs := fun m => nd'.1 (List.mem_filterMap.mpr ⟨some i, m, rfl⟩)
      rw [List.length_set] at h1 h3
      refine ⟨h1, fun j hj => ?_, fun j hj hl => ?_⟩
      · rw [h2 j fun m => hj (List.mem_cons_of_mem _ m), List.getElem?_set_ne fun z => hj (by rw [z]; exact List.mem_cons_self)]
      · by_cases z : i = j
        · subst z
          exact ⟨a, d, h, by rw [h2 i hi, List.getElem?_set_self hl], b1, n1⟩
        · exact h3 j (by rcases List.mem_cons.mp hj with q | q; exact absurd (Option.some.inj q).symm z; exact q) hl
theorem fill_some {ρ : Ev} {j : Nat} : ∀ {ks : List (Option Nat)} {ds as : List Dt}, fillA ks ds ρ = some as → some j ∈ ks → ∃ e, ρ[j]? = some (some e)
  | [], _, _, _, m => by simp at m
  | none :: ks, [], _, e, _ => by cases e
  | none :: ks, d :: ds, _, e, m => by
    obtain ⟨r, e1, _⟩ := bind_some e
    exact fill_some e1 (by simpa using m)
  | some k :: ks, [], _, e, _ => by cases e
  | some k :: ks, d :: ds, _, e, m => by
    unfold fillA at e
    split at e
    · rename_i w hw
      obtain ⟨r, e1, _⟩ := bind_some e
      rcases List.mem_cons.mp m with z | z
      · cases z; exact ⟨w, hw⟩
      · exact fill_some e1 z
    · cases e
open Classical in
theorem par_of {K : PySem.W.Frag} {F : Fr} {F' : Hp} {σ : St} {H I : Hp} {ρ : Ev} (R : Rl K bs F σ H I ρ) (hF : ∀ i a d, i ∈ bs.bs → ρ[i]? = some (some d) → σ[i]? = some (some (.ref a)) → some i ∈ cs → F' a = none) :
    ∀ {ks : List (Option Nat)} {vs : List V} {ds as : List Dt}, (∀ c ∈ ks, c ∈ cs) → (∀ i, some i ∈ ks → i ∈ bs.bs) → (ks.filterMap id).Nodup → ArgR K I σ ks vs ds → fillA ks ds ρ = some as →
      ∃ ads, ParR K I H F' (ks.map Option.isSome) vs as ads ∧ ∀ a ∈ ads, ∃ i, some i ∈ ks ∧ σ[i]? = some (some (.ref a)) := by
  intro ks
  induction ks with
  | nil =>
    intro vs ds as _ _ _ h e
    cases h
    cases e
    exact ⟨[], .nil, fun a h => by simp at h⟩
  | cons c ks ih =>
    intro vs ds as hs hb nd h e
    cases h with
    | val h r =>
      obtain ⟨r', e1, e⟩ := bind_some e
      cases e
      obtain ⟨ads, p, q⟩ := ih (fun c m => hs c (List.mem_cons_of_mem _ m)) (fun i m => hb i (List.mem_cons_of_mem _ m)) (by simpa using nd) r e1
      exact ⟨ads, .val h p, fun a m => let ⟨i, h1, h2⟩ := q a m; ⟨i, List.mem_cons_of_mem _ h1, h2⟩⟩
    | @box _ i v _ _ _ h r =>
      have nd' : i ∉ ks.filterMap id ∧ (ks.filterMap id).Nodup := by simpa using nd
      unfold fillA at e
      split at e
      · rename_i d hd
        obtain ⟨r', e1, e⟩ := bind_some e
        cases e
        obtain ⟨ads, p, q⟩ := ih (fun c m => hs c (List.mem_cons_of_mem _ m)) (fun i m => hb i (List.mem_cons_of_mem _ m)) nd'.2 r e1
        have hib : i ∈ bs.bs := hb i List.mem_cons_self
        obtain ⟨a, s1, b1, i1, f1⟩ := R.box i d hd hib
        rw [h] at s1; cases s1
        refine ⟨a :: ads, .box b1 i1 (hF i a d hib hd h (hs _ List.mem_cons_self)) (fun m => ?_) p, fun b m => ?_⟩
        · obtain ⟨j, h1, h2⟩ := q a m
          have hjb := hb j (List.mem_cons_of_mem _ h1)
          obtain ⟨e, hj⟩ := fill_some e1 h1
          have := R.inj i j d e a hib hjb hd hj h h2
          subst this
          exact nd'.1 (List.mem_filterMap.mpr ⟨some i, h1, rfl⟩)
        · rcases List.mem_cons.mp m with rfl | m
          · exact ⟨i, List.mem_cons_self, h⟩
          · obtain ⟨j, h1, h2⟩ := q b m
            exact ⟨j, List.mem_cons_of_mem _ h1, h2⟩
      · cases e
open Classical in
theorem qe_call {k : Nat} {f : Addr} {fd : FuncData} {ps : List Str} {bp : List Bool} {fn : Fn} {x : Str} {p : Pos} (F : FnOk X.prog X.w X.K X.mg X.base CX0 k f fd ps (spq X.K bs.tn bp fn)) (hr : Room k X.A) (hm : X.mg x = some (.ref f)) (hk : PySem.W.keepIn X.K (.ref f) = true) (hb : Binds X.K fd ps [])
    (ha : QA X bs (e :: es) cs fr) (hg : Gl X x := by rfl) (hbp : bp = cs.map Option.isSome := by rfl) (hcs : (cs.filterMap id).Nodup := by decide) (hcb : ∀ i, some i ∈ cs → i ∈ bs.bs := by simp)
    (hdb : (x == ("__debug__" : Str)) = false := by decide) (he : starEach (e :: es) X.env = (false, eval e X.env) :: starEach es X.env := by rfl) (hpl : (backTo pos (starEach es X.env)).any (·.1) = false := by rfl) :
    QE X bs (.Call (.Name x p) (e :: es) [] pos) (callF fn cs fr) := by
  subst hbp
  refine ⟨PE.weak (pe_call F hr hg hm hk hb .nil pass0 ha.pa hdb he hpl) fun σ H Q ⟨F, I, ρ, d, ρ', R, e, k⟩ => ?_⟩
  obtain ⟨⟨ds, ρ1⟩, e1, e⟩ := bind_some e
  obtain ⟨as, e2, e⟩ := bind_some e
  obtain ⟨⟨d', os⟩, e3, e⟩ := bind_some e
  obtain ⟨ρ2, e4, e⟩ := bind_some e
  cases e
  refine ⟨F, I, ρ, ds, ρ1, R, e1, fun vs H1 I1 s1 R1 d1 => ?_⟩
  show spq X.K bs.tn (List.map Option.isSome cs) fn (vs ++ []) H1 Q E0
  rw [List.append_nil]
  let OB : Addr → Prop := fun a => ∃ i d, i ∈ bs.bs ∧ ρ1[i]? = some (some d) ∧ σ[i]? = some (some (.ref a)) ∧ some i ∉ cs
  let F' : Hp := fun a => if OB a then H1 a else F.F a
  have oI : ∀ a, OB a → I1 a = none ∧ F.F a = none ∧ ∃ o, H1 a = some o := fun a ⟨i, d, h1, h2, h3, h4⟩ => by
    obtain ⟨b, s1, b1, i1, f1⟩ := R1.box i d h2 h1
    rw [h3] at s1; cases s1
    exact ⟨i1, f1, b1.some⟩
  obtain ⟨ads, P, _⟩ := par_of (cs := cs) (F' := F') R1 (fun i a d hi hd hs hc => by
    have hn : ¬ OB a := fun ⟨j, e, h1, h2, h3, h4⟩ => h4 (R1.inj i j d e a hi h1 hd h2 hs h3 ▸ hc)
    show (if OB a then H1 a else F.F a) = none
    rw [if_neg hn]
    obtain ⟨b, s1, _, _, f1⟩ := R1.box i d hd hi
    rw [hs] at s1; cases s1
    exact f1) (fun c m => m) hcb hcs d1 e2
  refine ⟨F', I1, as, ads, d, os, R1.sub, fun a o h => ?_, fun a o h => ?_, R1.sz, ⟨fun x hx c P' e => ?_, fun a xs h => ?_⟩, P, e3, fun v H2 I2 s2 sub2 frm2 dis2 sz2 tab2 out dv => ?_⟩
  · have h : (if OB a then H1 a else F.F a) = some o := h
    by_cases ho : OB a
    · rw [if_pos ho] at h; exact h
    · rw [if_neg ho] at h; exact R1.frm a o h
  · have h : (if OB a then H1 a else F.F a) = some o := h
    by_cases ho : OB a
    · exact (oI a ho).1
    · rw [if_neg ho] at h; exact R1.dis a o h
  · obtain ⟨⟨ps, t1, t2⟩, t3, t4⟩ := R1.tab.1 x hx c P' e
    refine ⟨⟨ps, t1, t2⟩, t3, ?_⟩
    have hn : ¬ OB P' := fun ⟨i, d, h1, h2, h3, h4⟩ => by
      obtain ⟨b, s1, b1, _, _⟩ := R1.box i d h2 h1
      rw [h3] at s1; cases s1
      cases d with
      | list ds => obtain ⟨xs, q, _⟩ := b1; rw [q] at t1; cases t1
      | dict kvs => obtain ⟨kv, q, r⟩ := b1; rw [q] at t1; cases t1; exact False.elim r
      | str x => obtain ⟨_, _, q⟩ := b1; rw [q] at t1; cases t1
      | _ => exact b1.elim
    show (if OB P' then H1 P' else F.F P') = none
    rw [if_neg hn]; exact t4
  · have h : (if OB a then H1 a else F.F a) = some (.tup xs) := h
    by_cases ho : OB a
    · rw [if_pos ho] at h
      obtain ⟨i, d, h1, h2, h3, h4⟩ := ho
      obtain ⟨b, s1, b1, _, _⟩ := R1.box i d h2 h1
      rw [h3] at s1; cases s1
      exact bx_nt b1 xs h
    · rw [if_neg ho] at h; exact R1.tab.2 a xs h
  · have toF' : ∀ a o, F.F a = some o → F' a = some o := fun a o h => by
      have hn : ¬ OB a := fun ho => by rw [(oI a ho).2.1] at h; cases h
      show (if OB a then H1 a else F.F a) = some o
      rw [if_neg hn]; exact h
    obtain ⟨hl, hno, hyes⟩ := putA_spec d1 out e4 hcs
    refine k v H2 I2 (s1.trans s2) ⟨sub2, fun a o h => frm2 a o (toF' a o h), fun a o h => dis2 a o (toF' a o h), sz2, fun i d q hi => ?_, fun i d q hi => ?_, fun i j d e a hi hj q1 q2 => ?_, hl.trans R1.len, R1.anc, ⟨fun x hx c P' e => ⟨(tab2.1 x hx c P' e).1, (tab2.1 x hx c P' e).2.1, (R1.tab.1 x hx c P' e).2.2⟩, R1.tab.2⟩⟩ dv
    · rw [hno i fun m => hi (hcb i m)] at q
      obtain ⟨v, h1, h2⟩ := R1.val i d q hi
      exact ⟨v, h1, Dp.up s2 h2⟩
    · by_cases hc : some i ∈ cs
      · obtain ⟨a, d', h1, h2, h3, h4⟩ := hyes i hc (by rw [← hl]; exact lt_of_get q)
        rw [q] at h2; cases h2
        have hw : ∃ w, ρ1[i]? = some (some w) := fill_some e2 hc
        obtain ⟨w, hw⟩ := hw
        obtain ⟨b, s1, _, _, f1⟩ := R1.box i w hw hi
        rw [h1] at s1; cases s1
        exact ⟨a, h1, h3, h4, f1⟩
      · rw [hno i hc] at q
        obtain ⟨a, h1, h2, h3, h4⟩ := R1.box i d q hi
        have ho : OB a := ⟨i, d, hi, q, h1, hc⟩
        obtain ⟨_, _, o, hO⟩ := oI a ho
        have hF' : F' a = some o := by show (if OB a then H1 a else F.F a) = some o; rw [if_pos ho]; exact hO
        exact ⟨a, h1, h2.up s2 ((frm2 a o hF').trans hO.symm), dis2 a o hF', h4⟩
    · have w : ∀ i d, i ∈ bs.bs → ρ'[i]? = some (some d) → ∃ e, ρ1[i]? = some (some e) := fun i d hi q => by
        by_cases hc : some i ∈ cs
        · exact fill_some e2 hc
        · rw [hno i hc] at q; exact ⟨d, q⟩
      obtain ⟨d', w1⟩ := w i d hi q1
      obtain ⟨e', w2⟩ := w j e hj q2
      exact R1.inj i j d' e' a hi hj w1 w2
end
end L2
namespace L2
open PySem PySem.Spec PyProof.Rows
def skipS : FS := fun ρ => some (.nx, ρ)
def seqS (f g : FS) : FS := fun ρ => (f ρ).bind fun (o, ρ1) => match o with | .nx => g ρ1 | _ => some (o, ρ1)
def exprS (f : FE) : FS := fun ρ => (f ρ).bind fun (_, ρ1) => some (.nx, ρ1)
def retS (f : FE) : FS := fun ρ => (f ρ).bind fun (d, ρ1) => some (.rt d, ρ1)
def retNS : FS := fun ρ => some (.rt .none, ρ)
def brkS : FS := fun ρ => some (.bk, ρ)
def cntS : FS := fun ρ => some (.ct, ρ)
def ifS (t : FT) (f g : FS) : FS := fun ρ => (t ρ).bind fun (b, ρ1) => if b = true then f ρ1 else g ρ1
def setS (i : Nat) (f : FE) : FS := fun ρ => (f ρ).bind fun (d, ρ1) => some (.nx, ρ1.set i (some d))
def asgS (f : FE) (g : FG) : FS := fun ρ => (f ρ).bind fun (d, ρ1) => (g d ρ1).bind fun ρ2 => some (.nx, ρ2)
def par2S (i j : Nat) (f g : FE) : FS := fun ρ => (f ρ).bind fun (d, ρ1) => (g ρ1).bind fun (e, ρ2) => some (.nx, (ρ2.set i (some d)).set j (some e))
def nameG (i : Nat) : FG := fun d ρ => some (ρ.set i (some d))
def nilG : List Dt → Ev → Option Ev
  | [], ρ => some ρ
  | _, _ => none
def consG (g : FG) (gs : List Dt → Ev → Option Ev) : List Dt → Ev → Option Ev
  | d :: ds, ρ => (g d ρ).bind fun ρ1 => gs ds ρ1
  | _, _ => none
def tupG (n : Nat) (gs : List Dt → Ev → Option Ev) : FG := fun d ρ => match d with
  | .tuple ds => if ds.length = n then gs ds ρ else none
  | _ => none
def retB (i : Nat) : FS := fun ρ => match ρ[i]? with
  | some (some (.list ds)) => some (.rt (.list ds), ρ.set i none)
  | _ => none
def tqG' (K : PySem.W.Frag) (bs : Md) (js : List Nat) (g : FG) : TG := fun v σ H Q => ∃ F I ρ d ρ', Rl K bs F σ H I ρ ∧ Dp K I v d ∧ g d ρ = some ρ' ∧ ∀ σ', σ'.length = σ.length → (∀ j, j ∉ js → σ'[j]? = σ[j]?) → Rl K bs F σ' H I ρ' → Q σ' H
def tqGs' (K : PySem.W.Frag) (bs : Md) (js : List Nat) (g : List Dt → Ev → Option Ev) : TGs := fun vs σ H Q => ∃ F I ρ ds ρ', Rl K bs F σ H I ρ ∧ DpAll K I vs ds ∧ g ds ρ = some ρ' ∧ ∀ σ', σ'.length = σ.length → (∀ j, j ∉ js → σ'[j]? = σ[j]?) → Rl K bs F σ' H I ρ' → Q σ' H
structure QJ (X : Cx) (bs : Md) (tg : Expr) (js : List Nat) (g : FG) : Prop where
  mk :: (pg : PG X tg (tqG' X.K bs js g))
structure QJs (X : Cx) (bs : Md) (tg : List Expr) (js : List Nat) (g : List Dt → Ev → Option Ev) : Prop where
  mk :: (pg : PGs X tg (tqGs' X.K bs js g))
section
variable {X : Cx} {bs : Md} {pos : Pos} {a b c e tg : Expr} {es : List Expr} {fa fb fc fe : FE} {ft : FT} {st : Stmt} {rest : List Stmt} {f g : FS} {js : List Nat} {fg : FG}
theorem qj_name (i : Nat) {x : Str} (hN : X.N.Nodup) (hb : i ∉ bs.bs := by decide) (hi : X.N[i]? = some x := by rfl) (hx : Loc X.env.scope x := by first | exact Or.inl rfl | exact Or.inr rfl) (hf : X.fn x = true ∨ X.env.scope.names.lookup x = some .local := by first | exact .inl rfl | exact .inr rfl) :
    QJ X bs (.Name x pos) [i] (nameG i) := ⟨PG.weak (pg_name hN hi hx hf) fun v σ H Q ⟨F, I, ρ, d, ρ', R, dv, e, k⟩ => by
  cases e
  exact k _ (by rw [List.length_set]) (fun j hj => by rw [List.getElem?_set_ne fun z => hj (by simp [z])]) (R.setV hb dv)⟩
theorem qjs_nil : QJs X bs [] [] nilG := ⟨PGs.weak pgs_nil fun vs σ H Q ⟨F, I, ρ, ds, ρ', R, dv, e, k⟩ => by
  cases dv with
  | nil => cases e; exact ⟨rfl, k σ rfl (fun _ _ => rfl) R⟩
  | cons _ _ => cases e⟩
theorem qjs_cons {js1 js2 : List Nat} {gs : List Dt → Ev → Option Ev} (h1 : QJ X bs e js1 fg) (h2 : QJs X bs es js2 gs) (hs : (assignEach (e :: es) X.env).map (·.2) = assign e X.env :: (assignEach es X.env).map (·.2) := by rfl) : QJs X bs (e :: es) (js1 ++ js2) (consG fg gs) :=
  ⟨PGs.weak (pgs_cons h1.pg h2.pg hs) fun vs σ H Q ⟨F, I, ρ, ds, ρ', R, dv, e, k⟩ => by
    cases dv with
    | nil => cases e
    | @cons v vs d ds d1 d2 =>
      obtain ⟨ρ1, e1, e⟩ := bind_some e
      refine ⟨v, vs, rfl, F, I, ρ, d, ρ1, R, d1, e1, fun σ1 l1 k1 R1 => ⟨F, I, ρ1, ds, ρ', R1, d2, e, fun σ2 l2 k2 R2 => k σ2 (l2.trans l1) (fun j hj => ?_) R2⟩⟩
      rw [k2 j fun m => hj (List.mem_append_right _ m), k1 j fun m => hj (List.mem_append_left _ m)]⟩
theorem qj_tup {k n : Nat} {gs : List Dt → Ev → Option Ev} (h : QJs X bs es js gs) (hc : X.calm = true := by rfl) (hn : (assignEach es X.env).length = n := by rfl) (hst : (assignEach es X.env).findIdx? (·.1) = none := by rfl) : QJ X bs (.Tuple es k pos) js (tupG n gs) :=
  ⟨PG.weak (pg_tup hc h.pg hn hst) fun v σ H Q ⟨F, I, ρ, d, ρ', R, dv, e, k⟩ => by
    cases dv with
    | @tup a xs ds h1 h2 =>
      have e : (if ds.length = n then gs ds ρ else none) = some ρ' := e
      by_cases hl : ds.length = n
      · rw [if_pos hl] at e
        exact ⟨a, xs, rfl, SqT.up R.sub h1, by rw [h2.length]; exact hl, F, I, ρ, ds, ρ', R, h2, e, fun σ' l1 k1 R1 => k σ' l1 k1 R1⟩
      · rw [if_neg hl] at e; cases e
    | _ => cases e⟩
theorem qss_nil : QSs X bs [] skipS := ⟨PSs.weak pss_nil fun D σ H ⟨F, I, ρ, o, ρ', R, e, k⟩ => by cases e; exact k σ H I (Same.refl I) R⟩
theorem EndO.mono {K : PySem.W.Frag} {I : Hp} {D D' : Ends} {o : Out} {σ : St} {H : Hp} (h : EndO K I D o σ H) (h1 : o = .nx → ∀ σ H, D.nx σ H → D'.nx σ H) (h2 : D.bk = D'.bk) (h3 : D.ct = D'.ct) (h4 : D.rt = D'.rt) : EndO K I D' o σ H := by
  cases o with
  | nx => exact h1 rfl σ H h
  | bk => show D'.bk σ H; rw [← h2]; exact h
  | ct => show D'.ct σ H; rw [← h3]; exact h
  | rt d => intro v q; rw [← h4]; exact h v q
theorem qss_cons (h1 : QS X bs st f) (h2 : QSs X bs rest g) : QSs X bs (st :: rest) (seqS f g) := ⟨PSs.weak (pss_cons h1.ps h2.ps) fun D σ H ⟨F, I, ρ, o, ρ', R, e, k⟩ => by
  obtain ⟨⟨o1, ρ1⟩, e1, e⟩ := bind_some e
  refine ⟨F, I, ρ, o1, ρ1, R, e1, fun σ1 H1 I1 s1 R1 => ?_⟩
  cases o1 with
  | nx => exact ⟨F, I1, ρ1, o, ρ', R1, e, fun σ2 H2 I2 s2 R2 => k σ2 H2 I2 (s1.trans s2) R2⟩
  | bk => cases e; exact k σ1 H1 I1 s1 R1
  | ct => cases e; exact k σ1 H1 I1 s1 R1
  | rt d => cases e; exact k σ1 H1 I1 s1 R1⟩
theorem qss_one (h1 : QS X bs st f) : QSs X bs [st] f := ⟨pss_one h1.ps⟩
theorem qs_ret (he : QE X bs e fe) : QS X bs (.Return (some e) pos) (retS fe) := ⟨PS.weak (ps_ret he.pe) fun D σ H ⟨F, I, ρ, o, ρ', R, e, k⟩ => by
  obtain ⟨⟨d, ρ1⟩, e1, e⟩ := bind_some e
  cases e
  exact ⟨F, I, ρ, d, _, R, e1, fun v H1 I1 s1 R1 dv => k σ H1 I1 s1 R1 v dv⟩⟩
theorem qs_if {ss ts : List Stmt} (hc : QT X bs c ft) (ha : QSs X bs ss f) (hb : QSs X bs ts g) : QS X bs (.If c ss ts pos) (ifS ft f g) := ⟨PS.weak (ps_if hc.pt ha.ps hb.ps) fun D σ H ⟨F, I, ρ, o, ρ', R, e, k⟩ => by
  obtain ⟨⟨d, ρ1⟩, e1, e⟩ := bind_some e
  refine ⟨F, I, ρ, d, ρ1, R, e1, fun H1 I1 s1 R1 => ?_⟩
  cases d with
  | true => exact iteT ⟨F, I1, ρ1, o, ρ', R1, e, fun σ2 H2 I2 s2 R2 => k σ2 H2 I2 (s1.trans s2) R2⟩
  | false => exact iteF ⟨F, I1, ρ1, o, ρ', R1, e, fun σ2 H2 I2 s2 R2 => k σ2 H2 I2 (s1.trans s2) R2⟩⟩
theorem qs_set (i : Nat) {x : Str} {p : Pos} (hN : X.N.Nodup) (he : QE X bs e fe) (hb : i ∉ bs.bs := by decide) (hi : X.N[i]? = some x := by rfl) (hx : Loc X.env.scope x := by first | exact Or.inl rfl | exact Or.inr rfl) (hs : swapsWith e (some (.Name x p)) pos.line X.env = pure false := by rfl) (hf : X.fn x = true ∨ X.env.scope.names.lookup x = some .local := by first | exact .inl rfl | exact .inr rfl) :
    QS X bs (.Assign [.Name x p] e pos) (setS i fe) := ⟨PS.weak (L2.ps_set hN hi hx he.pe hs hf) fun D σ H ⟨F, I, ρ, o, ρ', R, e, k⟩ => by
  obtain ⟨⟨d, ρ1⟩, e1, e⟩ := bind_some e
  cases e
  exact ⟨F, I, ρ, d, ρ1, R, e1, fun v H1 I1 s1 R1 dv => k _ H1 I1 s1 (R1.setV hb dv)⟩⟩
theorem qs_setB (i : Nat) {x : Str} {p : Pos} (hN : X.N.Nodup) (he : QF X bs e fe) (hb : i ∈ bs.bs := by decide) (hp : bs.np ≤ i := by decide) (hi : X.N[i]? = some x := by rfl) (hx : Loc X.env.scope x := by first | exact Or.inl rfl | exact Or.inr rfl) (hs : swapsWith e (some (.Name x p)) pos.line X.env = pure false := by rfl) (hf : X.fn x = true ∨ X.env.scope.names.lookup x = some .local := by first | exact .inl rfl | exact .inr rfl) :
    QS X bs (.Assign [.Name x p] e pos) (setS i fe) := ⟨PS.weak (L2.ps_set hN hi hx he.pe hs hf) fun D σ H ⟨F, I, ρ, o, ρ', R, e, k⟩ => by
  obtain ⟨⟨d, ρ1⟩, e1, e⟩ := bind_some e
  cases e
  exact ⟨F, I, ρ, d, ρ1, R, e1, fun v H1 I1 s1 R1 O => k _ H1 I1 s1 (R1.setB hb hp O)⟩⟩
theorem qs_asg (he : QE X bs e fe) (hg : QJ X bs tg js fg) (hs : swapsWithSole [tg] e pos.line X.env = pure false := by rfl) (hw : swappedStores [tg] e X.env = pure none := by rfl) (h1 : (assignEach [tg] X.env).map (·.2) = [assign tg X.env] := by rfl) :
    QS X bs (.Assign [tg] e pos) (asgS fe fg) := ⟨PS.weak (ps_asg he.pe hg.pg hs hw h1) fun D σ H ⟨F, I, ρ, o, ρ', R, e, k⟩ => by
  obtain ⟨⟨d, ρ1⟩, e1, e⟩ := bind_some e
  obtain ⟨ρ2, e2, e⟩ := bind_some e
  cases e
  exact ⟨F, I, ρ, d, ρ1, R, e1, fun v H1 I1 s1 R1 dv => ⟨F, I1, ρ1, d, _, R1, dv, e2, fun σ2 _ _ R2 => k σ2 H1 I1 s1 R2⟩⟩⟩
theorem Rl.hide {K : PySem.W.Frag} {F : Fr} {σ : St} {H I : Hp} {ρ : Ev} {p : Addr} {d : Dt} {o : HO} (R : Rl K bs F σ H I ρ) (O : Own K bs F σ H I ρ p d) (ho : H p = some o) : Rl K bs ⟨upd F.F p o, F.G⟩ σ H I ρ :=
  ⟨R.sub, fun b u e => (by
    by_cases z : b = p
    · subst z; have e : upd F.F b o b = some u := e; rw [upd_same] at e; rw [ho]; exact e
    · have e : upd F.F p o b = some u := e; rw [upd_ne z] at e; exact R.frm b u e),
   fun b u e => (by
    by_cases z : b = p
    · subst z; exact O.ni
    · have e : upd F.F p o b = some u := e; rw [upd_ne z] at e; exact R.dis b u e), R.sz, R.val,
   fun i e q hi => (by
    obtain ⟨b, h1, h2, h3, h4⟩ := R.box i e q hi
    have z : b ≠ p := fun z => O.nb i e hi q (z ▸ h1)
    exact ⟨b, h1, h2, h3, by show upd F.F p o b = none; rw [upd_ne z]; exact h4⟩), R.inj, R.len, R.anc, ⟨fun x hx c P e => (by
    obtain ⟨⟨ps, t1, t2⟩, t3, t4⟩ := R.tab.1 x hx c P e
    have ne : P ≠ p := fun z => by
      have b1 := O.bx
      cases d with
      | list ds => obtain ⟨xs, q, _⟩ := b1; rw [z, q] at t1; cases t1
      | dict kvs => obtain ⟨kv, q, r⟩ := b1; rw [z, q] at t1; cases t1; exact False.elim r
      | str x => obtain ⟨_, _, q⟩ := b1; rw [z, q] at t1; cases t1
      | _ => exact b1.elim
    exact ⟨⟨ps, t1, t2⟩, t3, by show upd F.F p o P = none; rw [upd_ne ne]; exact t4⟩), fun b xs e => (by
    by_cases z : b = p
    · subst z; have e : upd F.F b o b = some (.tup xs) := e; rw [upd_same] at e; cases e; exact bx_nt O.bx xs ho
    · have e : upd F.F p o b = some (.tup xs) := e; rw [upd_ne z] at e; exact R.tab.2 b xs e)⟩⟩
theorem Rl.show {K : PySem.W.Frag} {F : Fr} {σ : St} {H I : Hp} {ρ : Ev} {p : Addr} {o : HO} (R : Rl K bs ⟨upd F.F p o, F.G⟩ σ H I ρ) (hp : F.F p = none) : Rl K bs F σ H I ρ ∧ H p = some o ∧ I p = none ∧ ∀ i e, i ∈ bs.bs → ρ[i]? = some (some e) → σ[i]? ≠ some (some (.ref p)) :=
  ⟨⟨R.sub, fun b u e => R.frm b u (show upd F.F p o b = some u by rw [upd_ne (ne_of_none e hp)]; exact e), fun b u e => R.dis b u (show upd F.F p o b = some u by rw [upd_ne (ne_of_none e hp)]; exact e), R.sz, R.val,
    fun i e q hi => (by
      obtain ⟨b, h1, h2, h3, h4⟩ := R.box i e q hi
      have h4 : upd F.F p o b = none := h4
      have z : b ≠ p := fun z => by rw [z, upd_same] at h4; cases h4
      rw [upd_ne z] at h4
      exact ⟨b, h1, h2, h3, h4⟩), R.inj, R.len, R.anc, ⟨fun x hx c P e => (by
      obtain ⟨t1, t3, t4⟩ := R.tab.1 x hx c P e
      have t4 : upd F.F p o P = none := t4
      have z : P ≠ p := fun z => by rw [z, upd_same] at t4; cases t4
      rw [upd_ne z] at t4
      exact ⟨t1, t3, t4⟩), fun b xs e => R.tab.2 b xs (show upd F.F p o b = some (.tup xs) by rw [upd_ne (ne_of_none e hp)]; exact e)⟩⟩,
   R.frm p o upd_same, R.dis p o upd_same, fun i e hi q z => by
    obtain ⟨b, h1, h2, h3, h4⟩ := R.box i e q hi
    rw [z] at h1; cases h1
    have h4 : upd F.F p o p = none := h4
    rw [upd_same] at h4; cases h4⟩
theorem Own.back {K : PySem.W.Frag} {F : Fr} {σ : St} {H H' I I' : Hp} {ρ ρ' : Ev} {p : Addr} {d : Dt} {o : HO} (O : Own K bs F σ H I ρ p d) (ho : H p = some o) (s : Same I I') (R : Rl K bs ⟨upd F.F p o, F.G⟩ σ H' I' ρ') : Rl K bs F σ H' I' ρ' ∧ Own K bs F σ H' I' ρ' p d := by
  obtain ⟨R1, h1, h2, h3⟩ := R.show O.nf
  exact ⟨R1, ⟨O.bx.up s (h1.trans ho.symm), h2, O.nf, h3⟩⟩
def Walk (K : PySem.W.Frag) (bs : Md) (J : It) (I0 : Hp) (ds : List Dt) : Prop := ∀ (i : Nat) (F : Fr) (σ : St) (H I : Hp) (ρ : Ev), Same I0 I → Rl K bs F σ H I ρ →
  (∀ d, ds[i]? = some d → J.go i H ∧ ∀ x H', J.yld i H x H' → ∃ I', Grow H I H' I' ∧ Dp K I' x d) ∧ (ds.length ≤ i → J.stop i H)
abbrev FI := Ev → Option (List Dt × Ev)
def tqI (K : PySem.W.Frag) (bs : Md) (f : FI) : TI := fun σ H R => ∃ F I ρ ds ρ', Rl K bs F σ H I ρ ∧ f ρ = some (ds, ρ') ∧ ∀ J H' I', Same I I' → Rl K bs F σ H' I' ρ' → Walk K bs J I' ds → ds.length ≤ sizeLine → R J H'
structure QI (X : Cx) (bs : Md) (tg iter : Expr) (f : FI) : Prop where
  mk :: (pi : PI X tg iter (tqI X.K bs f))
theorem PI.weak {X : Cx} {tg e : Expr} {t t' : TI} (h : PI X tg e t) (w : ∀ σ H Q, t' σ H Q → t σ H Q) : PI X tg e t' := fun pins s σ H Q I q => h pins s σ H Q I (w σ H Q q)
def seqI (f : FE) : FI := fun ρ => (f ρ).bind fun (d, ρ1) => match d with | .list ds => some (ds, ρ1) | .tuple ds => some (ds, ρ1) | _ => none
theorem walk_lst {K : PySem.W.Frag} {I : Hp} {a : Addr} {xs : List V} {ds : List Dt} (h1 : SqL K I a xs) (h2 : DpAll K I xs ds) : Walk K bs (Itl K a) I ds := by
  intro i F σ H I' ρ s R
  have q := SqL.up (s.trans R.sub) h1
  refine ⟨fun d hd => ?_, fun hi => ⟨xs, q, by rw [h2.length]; exact hi⟩⟩
  obtain ⟨v, h3, h4⟩ := h2.get hd
  refine ⟨⟨xs, v, q, h3⟩, fun x H' ⟨e, y⟩ => ?_⟩
  subst e
  have := y xs q
  rw [h3] at this; cases this
  exact ⟨I', R.gr, Dp.up s h4⟩
theorem walk_tup {K : PySem.W.Frag} {I : Hp} {a : Addr} {xs : List V} {ds : List Dt} (h1 : SqT K I a xs) (h2 : DpAll K I xs ds) : Walk K bs (Itt K a) I ds := by
  intro i F σ H I' ρ s R
  have q := SqT.up (s.trans R.sub) h1
  refine ⟨fun d hd => ?_, fun hi => ⟨xs, q, by rw [h2.length]; exact hi⟩⟩
  obtain ⟨v, h3, h4⟩ := h2.get hd
  refine ⟨⟨xs, v, q, h3⟩, fun x H' ⟨e, y⟩ => ?_⟩
  subst e
  have := y xs q
  rw [h3] at this; cases this
  exact ⟨I', R.gr, Dp.up s h4⟩
def iSeq (K : PySem.W.Frag) (tl : TE) : TI := fun σ H R => tl σ H fun x H1 => ∃ a, x = .ref a ∧ (((∃ xs, SqL K H1 a xs) ∧ R (Itl K a) H1) ∨ ((∃ xs, SqT K H1 a xs) ∧ R (Itt K a) H1))
theorem pi_seq {l : Expr} {tl : TE} (hl : PE X l tl) : PI X tg l (iSeq X.K tl) := by
  intro pins s σ H R I h
  refine thn (hl pins s σ H _ I h) fun v s1 ⟨x, H1, I1, r1, q1⟩ => ?_
  obtain ⟨a, e, q1⟩ := q1
  subst e
  cases r1
  rcases q1 with ⟨⟨xs, hq⟩, q⟩ | ⟨⟨xs, hq⟩, q⟩
  · obtain ⟨its, rv, p, hz⟩ := I1.list hq
    refine wpAny_pyIter_list p.isList ?_
    refine ⟨s1.heap.objs.size, [s1.heap.objs.size], _, _, H1, rfl, I1.kept (t' := s1.toks) fun b o e => Heap.get?_push_of_some _ e, turn_list a _, ⟨_, Heap.get?_push_size _ rfl, rfl, rfl⟩, fun b hb => ?_, q⟩
    have e : b = s1.heap.objs.size := by simpa using hb
    subst e
    exact I1.fpOk (Nat.le_refl _) (I1.hok.fresh (Nat.le_refl _))
  · obtain ⟨its, rv, p, hz⟩ := I1.tuple hq
    refine wpAny_pyIter_tuple (show s1.heap.IsTuple a its.toArray from p) ?_
    refine ⟨s1.heap.objs.size, [s1.heap.objs.size], _, _, H1, rfl, I1.kept (t' := s1.toks) fun b o e => Heap.get?_push_of_some _ e, turn_tuple a _, ⟨_, Heap.get?_push_size _ rfl, rfl, rfl⟩, fun b hb => ?_, q⟩
    have e : b = s1.heap.objs.size := by simpa using hb
    subst e
    exact I1.fpOk (Nat.le_refl _) (I1.hok.fresh (Nat.le_refl _))
theorem qi_seq (he : QE X bs e fe) : QI X bs tg e (seqI fe) := ⟨PI.weak (pi_seq he.pe) fun σ H Q ⟨F, I, ρ, ds, ρ', R, e, k⟩ => by
  obtain ⟨⟨d, ρ1⟩, e1, e⟩ := bind_some e
  refine ⟨F, I, ρ, d, ρ1, R, e1, fun v H1 I1 s1 R1 dv => ?_⟩
  cases dv with
  | @lst a xs ds h1 h2 =>
    cases e
    exact ⟨a, rfl, .inl ⟨⟨xs, SqL.up R1.sub h1⟩, k _ H1 I1 s1 R1 (walk_lst h1 h2) (by rw [← h2.length]; exact SqL.sz R1.sz h1)⟩⟩
  | @tup a xs ds h1 h2 =>
    cases e
    exact ⟨a, rfl, .inr ⟨⟨xs, SqT.up R1.sub h1⟩, k _ H1 I1 s1 R1 (walk_tup h1 h2) (by rw [← h2.length]; exact SqT.sz R1.sz h1)⟩⟩
  | _ => cases e⟩
end
end L2
namespace L2
open PySem PySem.Spec PyProof.Rows
def rngD (lo : Int) (n : Nat) : List Dt := (List.range n).map fun (i : Nat) => PyData.int (lo + i)
theorem rngD_get {lo : Int} {n i : Nat} {d : Dt} : (rngD lo n)[i]? = some d ↔ i < n ∧ d = .int (lo + i) := by
  unfold rngD
  rw [List.getElem?_map]
  by_cases h : i < n
  · rw [List.getElem?_range h]
    constructor
    · intro q; exact ⟨h, (Option.some.inj q).symm⟩
    · rintro ⟨_, rfl⟩; rfl
  · rw [List.getElem?_eq_none (by simpa using h)]
    constructor
    · intro q; cases q
    · rintro ⟨q, _⟩; exact absurd q h
theorem rngD_len {lo : Int} {n : Nat} : (rngD lo n).length = n := by simp [rngD]
def rng1I (fr : FA) : FI := fun ρ => (fr ρ).bind fun (ds, ρ1) => match ds with
  | [.int j] => if -(2 ^ 62) ≤ j ∧ j ≤ 16777216 then some (rngD 0 j.toNat, ρ1) else none
  | _ => none
def rng2I (fr : FA) : FI := fun ρ => (fr ρ).bind fun (ds, ρ1) => match ds with
  | [.int i, .int j] => if -(2 ^ 62) ≤ i ∧ i < 2 ^ 62 ∧ -(2 ^ 62) ≤ j ∧ j < 2 ^ 62 ∧ j - i ≤ 16777216 then some (rngD i (j - i).toNat, ρ1) else none
  | _ => none
section
variable {X : Cx} {bs : Md} {pos p : Pos} {a b c e tg : Expr} {es : List Expr} {fa fb fc fe : FE} {fr : FA} {fi fi1 : FI} {ft ft1 : FT} {st : Stmt} {body rest : List Stmt} {f g : FS} {js js1 : List Nat} {fg fg1 : FG} {cs : List (Option Nat)}
theorem walk_rng {K : PySem.W.Frag} {I : Hp} {lo : Int} {n : Nat} : Walk K bs (Itr lo n) I (rngD lo n) := by
  intro i F σ H I' ρ s R
  refine ⟨fun d hd => ?_, fun hi => by rw [rngD_len] at hi; exact hi⟩
  obtain ⟨h1, rfl⟩ := rngD_get.mp hd
  refine ⟨h1, fun x H' ⟨e, y⟩ => ?_⟩
  subst e; subst y
  exact ⟨I', R.gr, .int _⟩
theorem qi_range1 (hm : X.mg "range" = none) (ha : QA X bs [a] [none] fr) (hg : Gl X "range" := by rfl) (hs : starEach [a] X.env = [(false, eval a X.env)] := by rfl) : QI X bs tg (.Call (.Name "range" p) [a] [] pos) (rng1I fr) :=
  ⟨PI.weak (pi_range1 hg hm ha.pa hs) fun σ H Q ⟨F, I, ρ, ds, ρ', R, e, k⟩ => by
    obtain ⟨⟨as, ρ1⟩, e1, e⟩ := bind_some e
    refine ⟨F, I, ρ, as, ρ1, R, e1, fun vs H1 I1 s1 R1 dv => ?_⟩
    cases dv with
    | val d1 r =>
      cases r
      cases d1 with
      | int j =>
        have e : (if -(2 ^ 62) ≤ j ∧ j ≤ 16777216 then some (rngD 0 j.toNat, ρ1) else none) = some (ds, ρ') := e
        by_cases h : -(2 ^ 62) ≤ j ∧ j ≤ 16777216
        · rw [if_pos h] at e
          cases e
          exact ⟨j, rfl, h.1, by have := h.2; omega, k _ H1 I1 s1 R1 walk_rng (by rw [rngD_len, show sizeLine = 16777216 from sizeLine_eq]; have := h.2; omega)⟩
        · rw [if_neg h] at e; cases e
      | _ => cases e⟩
def loopS (g : FG) (f : FS) : List Dt → FS
  | [] => fun ρ => some (.nx, ρ)
  | d :: ds => fun ρ => (g d ρ).bind fun ρ1 => (f ρ1).bind fun (o, ρ2) => match o with
    | .nx => loopS g f ds ρ2
    | .ct => loopS g f ds ρ2
    | .bk => some (.nx, ρ2)
    | .rt v => some (.rt v, ρ2)
def forS (fi : FI) (g : FG) (f : FS) : FS := fun ρ => (fi ρ).bind fun (ds, ρ1) => loopS g f ds ρ1
theorem drop_get {α : Type} {l : List α} {i : Nat} {d : α} (h : l[i]? = some d) : l.drop i = d :: l.drop (i + 1) := by
  obtain ⟨hi, e⟩ := List.getElem?_eq_some_iff.mp h
  rw [List.drop_eq_getElem_cons hi, e]
theorem qs_for (hi : QI X bs tg e fi) (hg : QJ X bs tg js fg) (hb : QSs X bs body f) (hp : PassesOwn (model X.prog X.w) X.A X.env X.xe := by exact PassesOwn.never) (hc : X.calm = true := by rfl) (hs : ∀ x, foldedSetIterable e X.env x = pure x := by intro _; rfl) : QS X bs (.For tg e body [] pos) (forS fi fg f) :=
  ⟨PS.weak (ps_for hp hc hi.pi hg.pg hb.ps hs) fun D σ H ⟨F, I, ρ, o, ρ', R, e, k⟩ => by
    obtain ⟨⟨ds, ρ1⟩, e1, e⟩ := bind_some e
    refine ⟨F, I, ρ, ds, ρ1, R, e1, fun J H1 I1 s1 R1 W hz => ?_⟩
    refine ⟨fun i m σ H => ∃ I2 ρ2, m = ds.length - i ∧ i ≤ ds.length ∧ Same I1 I2 ∧ Rl X.K bs F σ H I2 ρ2 ∧ loopS fg f (ds.drop i) ρ2 = some (o, ρ'), ⟨ds.length, I1, ρ1, by simp, Nat.zero_le _, Same.refl I1, R1, by simpa using e⟩, ?_⟩
    rintro i m σ2 H2 ⟨I2, ρ2, rfl, hi, s2, R2, e2⟩
    obtain ⟨go, stop⟩ := W i F σ2 H2 I2 ρ2 s2 R2
    by_cases hlt : i < ds.length
    · have hd : ds[i]? = some ds[i] := List.getElem?_eq_getElem hlt
      obtain ⟨g1, g2⟩ := go _ hd
      rw [drop_get hd] at e2
      obtain ⟨ρ3, e3, e2⟩ := bind_some e2
      obtain ⟨⟨o4, ρ4⟩, e4, e2⟩ := bind_some e2
      refine .inr ⟨g1, fun σ' H' => ∃ I2 ρ2, Same I1 I2 ∧ Rl X.K bs F σ' H' I2 ρ2 ∧ loopS fg f (ds.drop (i + 1)) ρ2 = some (o, ρ'), fun σ' H' ⟨I5, ρ5, s5, R5, e5⟩ => ⟨ds.length - (i + 1), by omega, I5, ρ5, rfl, hlt, s5, R5, e5⟩, fun x H3 y => ?_⟩
      obtain ⟨I3, gr, dx⟩ := g2 x H3 y
      refine ⟨F, I3, ρ2, _, ρ3, R2.grow gr, dx, e3, fun σ3 _ _ R3 => ⟨F, I3, ρ3, o4, ρ4, R3, e4, fun σ4 H4 I4 s4 R4 => ?_⟩⟩
      have s14 : Same I1 I4 := s2.trans (gr.ii.trans s4)
      cases o4 with
      | nx => exact ⟨I4, ρ4, s14, R4, e2⟩
      | ct => exact ⟨I4, ρ4, s14, R4, e2⟩
      | bk => cases e2; exact k σ4 H4 I4 (s1.trans s14) R4
      | rt d => cases e2; exact k σ4 H4 I4 (s1.trans s14) R4
    · have : i = ds.length := by omega
      subst this
      rw [List.drop_length] at e2
      cases e2
      exact .inl ⟨stop (Nat.le_refl _), k σ2 H2 I2 (s1.trans s2) R2⟩⟩
def whileS (t : FT) (f : FS) : Nat → FS
  | 0 => fun _ => none
  | n + 1 => fun ρ => (t ρ).bind fun (b, ρ1) => if b = true then (f ρ1).bind fun (o, ρ2) => match o with
    | .nx => whileS t f n ρ2
    | .ct => whileS t f n ρ2
    | .bk => some (.nx, ρ2)
    | .rt v => some (.rt v, ρ2)
    else some (.nx, ρ1)
def wipeE (ρ : Ev) : List Nat → Ev
  | [] => ρ
  | v :: vs => (wipeE ρ vs).set v none
def backE (ρ1 ρ2 : Ev) : List Nat → Ev
  | [] => ρ2
  | v :: vs => (backE ρ1 ρ2 vs).set v (ρ1[v]?.getD none)
theorem wipeE_len (ρ : Ev) : ∀ vs, (wipeE ρ vs).length = ρ.length
  | [] => rfl
  | v :: vs => by unfold wipeE; rw [List.length_set, wipeE_len ρ vs]
theorem backE_len (ρ1 ρ2 : Ev) : ∀ vs, (backE ρ1 ρ2 vs).length = ρ2.length
  | [] => rfl
  | v :: vs => by unfold backE; rw [List.length_set, backE_len ρ1 ρ2 vs]
theorem wipeE_some {ρ : Ev} {i : Nat} {d : Dt} : ∀ {vs : List Nat}, (wipeE ρ vs)[i]? = some (some d) → ρ[i]? = some (some d) ∧ i ∉ vs
  | [], h => ⟨h, by simp⟩
  | v :: vs, h => by
    rcases ev_set h with ⟨_, q⟩ | ⟨ne, q⟩
    · cases q
    · obtain ⟨h1, h2⟩ := wipeE_some q
      exact ⟨h1, by simp only [List.mem_cons, not_or]; exact ⟨fun e => ne e.symm, h2⟩⟩
theorem backE_some {ρ1 ρ2 : Ev} {i : Nat} {d : Dt} : ∀ {vs : List Nat}, (backE ρ1 ρ2 vs)[i]? = some (some d) → (i ∈ vs ∧ ρ1[i]? = some (some d)) ∨ (i ∉ vs ∧ ρ2[i]? = some (some d))
  | [], h => .inr ⟨by simp, h⟩
  | v :: vs, h => by
    rcases ev_set h with ⟨rfl, q⟩ | ⟨ne, q⟩
    · refine .inl ⟨List.mem_cons_self, ?_⟩
      cases e : ρ1[v]? with
      | none => rw [e] at q; cases q
      | some x => rw [e] at q; exact congrArg some q
    · rcases backE_some q with ⟨h1, h2⟩ | ⟨h1, h2⟩
      · exact .inl ⟨List.mem_cons_of_mem _ h1, h2⟩
      · exact .inr ⟨by simp only [List.mem_cons, not_or]; exact ⟨fun e => ne e.symm, h1⟩, h2⟩
theorem wipe_ext {σ σ' : St} {vs : List Nat} (hl : σ'.length = σ.length) (h : ∀ j, j ∉ vs → σ'[j]? = σ[j]?) : wipe σ' vs = wipe σ vs := by
  have at_ : ∀ (τ : St) (vs : List Nat) (j : Nat), (wipe τ vs)[j]? = if j ∈ vs then (if j < τ.length then some none else none) else τ[j]? := by
    intro τ vs j
    induction vs with
    | nil => simp [wipe]
    | cons v vs ih =>
      unfold wipe
      by_cases e : v = j
      · subst e
        by_cases hv : v < τ.length
        · rw [List.getElem?_set_self (by rw [wipe_length]; exact hv)]; simp [hv]
        · rw [List.getElem?_eq_none (by rw [List.length_set, wipe_length]; omega)]; simp [hv]
      · rw [List.getElem?_set_ne e, ih]
        have : (j ∈ v :: vs) = (j ∈ vs) := by simp [Ne.symm e]
        simp only [this]
  refine List.ext_getElem? fun j => ?_
  rw [at_, at_, hl]
  by_cases hj : j ∈ vs
  · rw [if_pos hj, if_pos hj]
  · rw [if_neg hj, if_neg hj, h j hj]
theorem Rl.wipe {K : PySem.W.Frag} {F : Fr} {σ : St} {H I : Hp} {ρ : Ev} {vs : List Nat} (R : Rl K bs F σ H I ρ) (hv : ∀ v ∈ vs, v ∉ bs.bs) : Rl K bs F (L2.wipe σ vs) H I (wipeE ρ vs) :=
  ⟨R.sub, R.frm, R.dis, R.sz, fun i d q hi => (by
    obtain ⟨h1, h2⟩ := wipeE_some q
    rw [wipe_out h2]
    exact R.val i d h1 hi), fun i d q hi => (by
    obtain ⟨h1, h2⟩ := wipeE_some q
    rw [wipe_out h2]
    exact R.box i d h1 hi), fun i j d e a hi hj q1 q2 s1 s2 => (by
    obtain ⟨h1, n1⟩ := wipeE_some q1
    obtain ⟨h2, n2⟩ := wipeE_some q2
    rw [wipe_out n1] at s1
    rw [wipe_out n2] at s2
    exact R.inj i j d e a hi hj h1 h2 s1 s2), by rw [wipeE_len, wipe_length]; exact R.len, fun i a q => (by
    obtain ⟨h1, h2, h3⟩ := R.anc i a q
    exact ⟨by rw [wipe_out fun m => hv i m h2]; exact h1, h2, h3⟩), R.tab⟩
theorem Rl.back {K : PySem.W.Frag} {F : Fr} {σ : St} {H1 I1 H I : Hp} {ρ1 ρ2 : Ev} {vs : List Nat} (R1 : Rl K bs F σ H1 I1 ρ1) (s : Same I1 I) (hv : ∀ v ∈ vs, v ∉ bs.bs) (R : Rl K bs F (L2.wipe σ vs) H I ρ2) : Rl K bs F σ H I (backE ρ1 ρ2 vs) :=
  ⟨R.sub, R.frm, R.dis, R.sz, fun i d q hi => (by
    rcases backE_some q with ⟨h1, h2⟩ | ⟨h1, h2⟩
    · obtain ⟨v, h3, h4⟩ := R1.val i d h2 hi
      exact ⟨v, h3, Dp.up s h4⟩
    · obtain ⟨v, h3, h4⟩ := R.val i d h2 hi
      exact ⟨v, (wipe_some h3).1, h4⟩), fun i d q hi => (by
    rcases backE_some q with ⟨h1, h2⟩ | ⟨h1, h2⟩
    · exact absurd hi (hv i h1)
    · obtain ⟨a, h3, h4⟩ := R.box i d h2 hi
      exact ⟨a, (wipe_some h3).1, h4⟩), fun i j d e a hi hj q1 q2 s1 s2 => (by
    rcases backE_some q1 with ⟨h1, _⟩ | ⟨n1, h1⟩
    · exact absurd hi (hv i h1)
    rcases backE_some q2 with ⟨h2, _⟩ | ⟨n2, h2⟩
    · exact absurd hj (hv j h2)
    exact R.inj i j d e a hi hj h1 h2 (by rw [wipe_out n1]; exact s1) (by rw [wipe_out n2]; exact s2)), by rw [backE_len, R.len, wipe_length], R1.anc, R.tab⟩
theorem Rl.wrt {K : PySem.W.Frag} {F : Fr} {σ : St} {H I : Hp} {ρ : Ev} {D : Addr} {o u : HO} (R : Rl K bs ⟨upd F.F D o, F.G⟩ σ H I ρ) (hF : F.F D = none) (hu : ∀ xs, u ≠ .tup xs := by intro _ h; cases h) : Rl K bs ⟨upd F.F D u, F.G⟩ σ (upd H D u) I ρ := by
  obtain ⟨R6, hD6, hI6, nb6⟩ := R.show hF
  have nI : ∀ b w, I b = some w → b ≠ D := fun b w e z => by rw [z, hI6] at e; cases e
  refine ⟨fun b w e => by rw [upd_ne (nI b w e)]; exact R6.sub b w e, fun b w e => ?_, fun b w e => ?_, R6.sz, R6.val, fun j e q hj => ?_, R6.inj, R6.len, R6.anc, ⟨fun x hx c P e => ?_, fun b xs e => ?_⟩⟩
  · have e : upd F.F D u b = some w := e
    by_cases z : b = D
    · subst z; rw [upd_same] at e ⊢; exact e
    · rw [upd_ne z] at e ⊢; exact R6.frm b w e
  · have e : upd F.F D u b = some w := e
    by_cases z : b = D
    · subst z; exact hI6
    · rw [upd_ne z] at e; exact R6.dis b w e
  · obtain ⟨a, h1, h2, h3, h4⟩ := R6.box j e q hj
    have z : a ≠ D := fun z => nb6 j e hj q (z ▸ h1)
    exact ⟨a, h1, h2.up (Same.refl I) (upd_ne z), h3, by show upd F.F D u a = none; rw [upd_ne z]; exact h4⟩
  · obtain ⟨⟨ps, t1, t2⟩, t3, t4⟩ := R.tab.1 x hx c P e
    have t4 : upd F.F D o P = none := t4
    have z : P ≠ D := fun z => by rw [z, upd_same] at t4; cases t4
    rw [upd_ne z] at t4
    exact ⟨⟨ps, by rw [upd_ne z]; exact t1, t2⟩, t3, by show upd F.F D u P = none; rw [upd_ne z]; exact t4⟩
  · have e : upd F.F D u b = some (.tup xs) := e
    by_cases z : b = D
    · subst z; rw [upd_same] at e; exact hu xs (Option.some.inj e)
    · rw [upd_ne z] at e; exact R6.tab.2 b xs e
def lcL (own : List Nat) (g : FG) (t : FT) (fe : FE) : List Dt → Ev → Option (List Dt × Ev)
  | [] => fun ρ => some ([], ρ)
  | d :: ds => fun ρ => (g d ρ).bind fun ρ1 => (t ρ1).bind fun (b, ρ2) => if b = true then (fe ρ2).bind fun (y, ρ3) => (lcL own g t fe ds (wipeE ρ3 own)).bind fun (ys, ρ4) => some (y :: ys, ρ4)
      else lcL own g t fe ds (wipeE ρ2 own)
def lcF (fi : FI) (own : List Nat) (g : FG) (t : FT) (fe : FE) : FE := fun ρ => (fi ρ).bind fun (ds, ρ1) => (lcL own g t fe ds (wipeE ρ1 own)).bind fun (ys, ρ2) => some (.list ys, backE ρ1 ρ2 own)
def yesT : FT := fun ρ => some (true, ρ)
structure QTs (X : Cx) (bs : Md) (ifs : List Expr) (f : FT) : Prop where
  mk :: (pt : PTs X ifs (tqT X.K bs f))
theorem qts_nil : QTs X bs [] yesT := ⟨fun pins s σ H Q I ⟨F, J, ρ, d, ρ', R, e, k⟩ => by
  cases e
  exact pts_nil pins s σ H Q I (k H J (Same.refl J) R)⟩
theorem qts_one (h : QT X bs c ft) : QTs X bs [c] ft := ⟨pts_one h.pt⟩
theorem tq_lc {K : PySem.W.Frag} {vs : List Nat} {σ : St} {H : Hp} {Q : VK} (hv : ∀ v ∈ vs, v ∉ bs.bs) (hj : ∀ j ∈ js, j ∈ vs) (h : tqF K bs (lcF fi vs fg ft fe) σ H Q) : tLc (tqI K bs fi) (tqG' K bs js fg) (tqT K bs ft) (tq K bs fe) vs σ H Q := by
  obtain ⟨F, I, ρ, d, ρ', R, e, k⟩ := h
  obtain ⟨⟨ds, ρ1⟩, e1, e⟩ := bind_some e
  obtain ⟨⟨all, ρ2⟩, e2, e⟩ := bind_some e
  cases e
  refine ⟨F, I, ρ, ds, ρ1, R, e1, fun J H1 I1 s1 R1 W hz D hD => ?_⟩
  have hFD : F.F D = none := R1.frm.free hD
  refine ⟨fun i m H => ∃ I2 ρ3 acc outs rst, m = ds.length - i ∧ i ≤ ds.length ∧ Same I1 I2 ∧ Rl K bs ⟨upd F.F D (.lst acc), F.G⟩ (wipe σ vs) H I2 ρ3 ∧ DpAll K I2 acc outs ∧ acc.length ≤ i ∧ lcL vs fg ft fe (ds.drop i) ρ3 = some (rst, ρ2) ∧ all = outs ++ rst,
    ⟨ds.length, I1, wipeE ρ1 vs, [], [], all, by simp, Nat.zero_le _, Same.refl I1, ?_, .nil, Nat.zero_le _, by simpa using e2, rfl⟩, ?_⟩
  · obtain ⟨R2, O⟩ := Own.new (R1.wipe hv) hD (.nil : DpAll K I1 [] []) (Nat.zero_le _)
    exact R2.hide O upd_same
  rintro i m H2 ⟨I2, ρ3, acc, outs, rst, rfl, hi, s2, R2, da, la, e3, rfl⟩
  obtain ⟨go, stop⟩ := W i _ _ H2 I2 ρ3 s2 R2
  by_cases hlt : i < ds.length
  · have hd : ds[i]? = some ds[i] := List.getElem?_eq_getElem hlt
    obtain ⟨g1, g2⟩ := go _ hd
    rw [drop_get hd] at e3
    obtain ⟨ρ4, e4, e3⟩ := bind_some e3
    obtain ⟨⟨b, ρ5⟩, e5, e3⟩ := bind_some e3
    refine .inr ⟨g1, fun H' => ∃ I2 ρ3 acc outs' rst', Same I1 I2 ∧ Rl K bs ⟨upd F.F D (.lst acc), F.G⟩ (wipe σ vs) H' I2 ρ3 ∧ DpAll K I2 acc outs' ∧ acc.length ≤ i + 1 ∧ lcL vs fg ft fe (ds.drop (i + 1)) ρ3 = some (rst', ρ2) ∧ outs ++ rst = outs' ++ rst',
      fun H' ⟨I6, ρ6, acc6, outs6, rst6, q1, q2, q3, q4, q5, q6⟩ => ⟨ds.length - (i + 1), by omega, I6, ρ6, acc6, outs6, rst6, rfl, hlt, q1, q2, q3, q4, q5, q6⟩, fun x H3 y => ?_⟩
    obtain ⟨I3, gr, dx⟩ := g2 x H3 y
    refine ⟨_, I3, ρ3, _, ρ4, R2.grow gr, dx, e4, fun σ3 l3 k3 R3 => ?_⟩
    have wz : wipe σ3 vs = wipe σ vs := by
      have w1 : wipe σ3 vs = wipe (wipe σ vs) vs := wipe_ext l3 fun j hj' => k3 j fun m => hj' (hj j m)
      rw [w1]
      refine wipe_ext (wipe_length σ vs) fun j hj' => wipe_out hj'
    refine ⟨wz, _, I3, ρ4, b, ρ5, R3, e5, fun H4 I4 s4 R4 => ?_⟩
    cases b with
    | true =>
      have e3 : ((fe ρ5).bind fun (y, ρ3) => (lcL vs fg ft fe (ds.drop (i + 1)) (wipeE ρ3 vs)).bind fun (ys, ρ4) => some (y :: ys, ρ4)) = some (rst, ρ2) := e3
      obtain ⟨⟨y, ρ6⟩, e6, e3⟩ := bind_some e3
      obtain ⟨⟨ys, ρ7⟩, e7, e3⟩ := bind_some e3
      cases e3
      refine iteT ⟨_, I4, ρ5, y, ρ6, R4, e6, fun v H5 I5 s5 R5 d5 => ?_⟩
      obtain ⟨R6, hD6, hI6, nb6⟩ := R5.show (p := D) (o := .lst acc) hFD
      refine ⟨acc, hD6, by omega, I5, wipeE ρ6 vs, acc ++ [v], outs ++ [y], ys, s2.trans (gr.ii.trans (s4.trans s5)), ?_, (DpAll.up (gr.ii.trans (s4.trans s5)) da).snoc d5, by rw [List.length_append]; simp; omega, e7, by simp⟩
      have R7 := (R5.wrt (u := .lst (acc ++ [v])) hFD).wipe hv
      rw [wz] at R7
      exact R7
    | false =>
      refine iteF ⟨I4, wipeE ρ5 vs, acc, outs, rst, s2.trans (gr.ii.trans s4), ?_, DpAll.up (gr.ii.trans s4) da, by omega, e3, rfl⟩
      have R7 := R4.wipe hv
      rw [wz] at R7
      exact R7
  · have : i = ds.length := by omega
    subst this
    rw [List.drop_length] at e3
    cases e3
    obtain ⟨R6, hD6, hI6, nb6⟩ := R2.show (p := D) (o := .lst acc) hFD
    rw [List.append_nil] at k
    have Rb := R1.back s2 hv R6
    refine .inl ⟨stop (Nat.le_refl _), k D H2 I2 (s1.trans s2) Rb ⟨⟨acc, hD6, da, by omega⟩, hI6, hFD, fun j e hj q z => ?_⟩⟩
    rcases backE_some q with ⟨h1, _⟩ | ⟨n1, h1⟩
    · exact hv j h1 hj
    · exact nb6 j e hj h1 (by rw [wipe_out n1]; exact z)
theorem lcF_list {vs : List Nat} : ∀ ρ d ρ', lcF fi vs fg ft fe ρ = some (d, ρ') → ∃ ds, d = .list ds := fun ρ d ρ' h => by
  obtain ⟨⟨ds, ρ1⟩, e1, e⟩ := bind_some h
  obtain ⟨⟨ys, ρ2⟩, e2, e⟩ := bind_some e
  cases e; exact ⟨ys, rfl⟩
variable {elt iter tg1 iter1 : Expr} {ifs ifs1 : List Expr} {scope : Scope}
theorem qf_lc (own : List (Str × Nat)) (hN : X.N.Nodup) (hi : QI X bs tg iter fi) (ok : BlkOk X.N X.env.scope scope own)
    (hg : ∀ (s : Shared) (H : Hp) (C : Addr) (cl : List (Str × Addr)) (fp : List Addr), QJ (X.blk s H scope (compEnvC scope cl C X.env) fp) bs tg js fg) (ht : ∀ (s : Shared) (H : Hp) (C : Addr) (cl : List (Str × Addr)) (fp : List Addr), QTs (X.blk s H scope (compEnvC scope cl C X.env) fp) bs ifs ft)
    (he : ∀ (s : Shared) (H : Hp) (C : Addr) (cl : List (Str × Addr)) (fp : List Addr), QE (X.blk s H scope (compEnvC scope cl C X.env) fp) bs elt fe) (hv : ∀ v ∈ own.map (·.2), v ∉ bs.bs := by decide) (hj : ∀ j ∈ js, j ∈ own.map (·.2) := by decide) (hc : X.calm = true := by rfl) (hs : ∀ x, foldedSetIterable iter X.env x = pure x := by intro _; rfl) :
    QF X bs (.ListComp elt [⟨tg, iter, ifs, 0⟩] scope pos) (lcF fi (own.map (·.2)) fg ft fe) :=
  ⟨PE.weak (pe_lc hc hN hi.pi ok (fun s H C cl fp => (hg s H C cl fp).pg) (fun s H C cl fp => (ht s H C cl fp).pt) (fun s H C cl fp => (he s H C cl fp).pe) hs) fun σ H Q h => tq_lc hv hj h⟩
theorem qe_lc (own : List (Str × Nat)) (hN : X.N.Nodup) (hi : QI X bs tg iter fi) (ok : BlkOk X.N X.env.scope scope own)
    (hg : ∀ (s : Shared) (H : Hp) (C : Addr) (cl : List (Str × Addr)) (fp : List Addr), QJ (X.blk s H scope (compEnvC scope cl C X.env) fp) bs tg js fg) (ht : ∀ (s : Shared) (H : Hp) (C : Addr) (cl : List (Str × Addr)) (fp : List Addr), QTs (X.blk s H scope (compEnvC scope cl C X.env) fp) bs ifs ft)
    (he : ∀ (s : Shared) (H : Hp) (C : Addr) (cl : List (Str × Addr)) (fp : List Addr), QE (X.blk s H scope (compEnvC scope cl C X.env) fp) bs elt fe) (hv : ∀ v ∈ own.map (·.2), v ∉ bs.bs := by decide) (hj : ∀ j ∈ js, j ∈ own.map (·.2) := by decide) (hc : X.calm = true := by rfl) (hs : ∀ x, foldedSetIterable iter X.env x = pure x := by intro _; rfl) :
    QE X bs (.ListComp elt [⟨tg, iter, ifs, 0⟩] scope pos) (lcF fi (own.map (·.2)) fg ft fe) := (qf_lc own hN hi ok hg ht he hv hj hc hs).frz lcF_list
end
end L2
namespace L2
open PySem PySem.Spec PyProof.Rows
def outsB : List Bool → Ev → Option (List Dt)
  | [], _ => some []
  | false :: bp, _ :: ρ => outsB bp ρ
  | true :: bp, some d :: ρ => (outsB bp ρ).bind fun r => some (d :: r)
  | _, _ => none
def endD : Out → Option Dt
  | .rt d => some d
  | .nx => some .none
  | _ => none
def fnM (n : Nat) (bp : List Bool) (body : FS) : Fn := fun ds => (body (ds.map some ++ List.replicate (n - ds.length) none)).bind fun (o, ρ') => (endD o).bind fun d => (outsB bp ρ').bind fun os => some (d, os)
theorem ParR.at {K : PySem.W.Frag} {I H F : Hp} {bp : List Bool} {vs : List V} {ds : List Dt} {as : List Addr} (h : ParR K I H F bp vs ds as) : ∀ (i : Nat) (d : Dt), ds[i]? = some d →
    ∃ v, vs[i]? = some v ∧ ((bp[i]? = some false ∧ Dp K I v d) ∨ (bp[i]? = some true ∧ ∃ a ∈ as, v = V.ref a ∧ Bx K I H a d ∧ I a = none ∧ F a = none)) := by
  induction h with
  | nil => intro i d e; simp at e
  | val h r ih =>
    intro i d e
    cases i with
    | zero => simp at e; subst e; exact ⟨_, rfl, .inl ⟨rfl, h⟩⟩
    | succ i =>
      obtain ⟨v, h1, h2⟩ := ih i d (by simpa using e)
      exact ⟨v, by simpa using h1, by simpa using h2⟩
  | box h h1 h2 h3 r ih =>
    intro i d e
    cases i with
    | zero => simp at e; subst e; exact ⟨_, rfl, .inr ⟨rfl, _, List.mem_cons_self, rfl, h, h1, h2⟩⟩
    | succ i =>
      obtain ⟨v, q1, q2⟩ := ih i d (by simpa using e)
      refine ⟨v, by simpa using q1, ?_⟩
      rcases q2 with q | ⟨q, a, m, z⟩
      · exact .inl (by simpa using q)
      · exact .inr ⟨by simpa using q, a, List.mem_cons_of_mem _ m, z⟩
theorem ParR.in {K : PySem.W.Frag} {I H F : Hp} {bp : List Bool} {vs : List V} {ds : List Dt} {as : List Addr} (h : ParR K I H F bp vs ds as) {i : Nat} {a : Addr} (hb : bp[i]? = some true) (hv : vs[i]? = some (V.ref a)) : a ∈ as := by
  have hl := h.len
  have hi : i < vs.length := (List.getElem?_eq_some_iff.mp hv).1
  obtain ⟨w, w1, w2⟩ := h.at i _ (List.getElem?_eq_getElem (by rw [hl.2, ← hl.1]; exact hi))
  rw [hv] at w1; cases w1
  rcases w2 with ⟨w2, _⟩ | ⟨_, b, m, e, _⟩
  · rw [hb] at w2; cases w2
  · cases e; exact m
theorem ParR.inj {K : PySem.W.Frag} {I H F : Hp} {bp : List Bool} {vs : List V} {ds : List Dt} {as : List Addr} (h : ParR K I H F bp vs ds as) : ∀ (i j : Nat) (a : Addr), bp[i]? = some true → bp[j]? = some true → vs[i]? = some (V.ref a) → vs[j]? = some (V.ref a) → i = j := by
  induction h with
  | nil => intro i j a h; simp at h
  | val h r ih =>
    intro i j a h1 h2 h3 h4
    cases i with
    | zero => simp at h1
    | succ i =>
      cases j with
      | zero => simp at h2
      | succ j => rw [ih i j a (by simpa using h1) (by simpa using h2) (by simpa using h3) (by simpa using h4)]
  | box h k1 k2 k3 r ih =>
    intro i j a h1 h2 h3 h4
    cases i with
    | zero =>
      cases j with
      | zero => rfl
      | succ j =>
        simp at h3; subst h3
        exact absurd (r.in (i := j) (by simpa using h2) (by simpa using h4)) k3
    | succ i =>
      cases j with
      | zero =>
        simp at h4; subst h4
        exact absurd (r.in (i := i) (by simpa using h1) (by simpa using h3)) k3
      | succ j => rw [ih i j a (by simpa using h1) (by simpa using h2) (by simpa using h3) (by simpa using h4)]
theorem out_of {K : PySem.W.Frag} {I H : Hp} : ∀ {bp : List Bool} {vs : List V} {ρ : Ev} {os : List Dt}, vs.length = bp.length → (∀ (i : Nat) (d : Dt), bp[i]? = some true → ρ[i]? = some (some d) → ∃ a, vs[i]? = some (V.ref a) ∧ Bx K I H a d ∧ I a = none) → outsB bp ρ = some os → OutR K I H bp vs os
  | [], [], _, _, _, _, e => by cases e; exact .nil
  | [], _ :: _, _, _, hl, _, _ => by simp at hl
  | _ :: _, [], _, _, hl, _, _ => by simp at hl
  | false :: bp, v :: vs, [], _, _, _, e => by cases e
  | false :: bp, v :: vs, x :: ρ, os, hl, h, e => .val (out_of (ρ := ρ) (by simpa using hl) (fun i d h1 h2 => by simpa using h (i + 1) d (by simpa using h1) (by simpa using h2)) e)
  | true :: bp, v :: vs, [], _, _, _, e => by cases e
  | true :: bp, v :: vs, none :: ρ, _, _, _, e => by cases e
  | true :: bp, v :: vs, some d :: ρ, os, hl, h, e => by
    obtain ⟨r, e1, e⟩ := bind_some e
    cases e
    obtain ⟨a, h1, h2, h3⟩ := h 0 d rfl rfl
    simp at h1; subst h1
    exact .box h2 h3 (out_of (ρ := ρ) (by simpa using hl) (fun i d h1 h2 => by simpa using h (i + 1) d (by simpa using h1) (by simpa using h2)) e1)
theorem start_get {N : List Str} {vs : List V} {i : Nat} {v : V} : (start N vs)[i]? = some (some v) ↔ vs[i]? = some v := by
  unfold start
  by_cases h : i < vs.length
  · rw [List.getElem?_append_left (by simpa using h), List.getElem?_map]
    cases vs[i]? <;> simp
  · rw [List.getElem?_append_right (by simpa using h), List.getElem?_replicate, List.getElem?_eq_none (by omega)]
    split <;> simp
theorem ev_get {n : Nat} {ds : List Dt} {i : Nat} {d : Dt} : (ds.map some ++ List.replicate n none)[i]? = some (some d) ↔ ds[i]? = some d := by
  by_cases h : i < ds.length
  · rw [List.getElem?_append_left (by simpa using h), List.getElem?_map]
    cases ds[i]? <;> simp
  · rw [List.getElem?_append_right (by simpa using h), List.getElem?_replicate, List.getElem?_eq_none (by omega)]
    split <;> simp
def bpOk (M : Md) (bp : List Bool) : Bool := decide (M.np = bp.length) && (List.range bp.length).all fun i => (decide (i ∈ M.bs)) == (bp[i]?.getD false)
theorem bpOk_at {M : Md} {bp : List Bool} (h : bpOk M bp = true) {i : Nat} {b : Bool} (e : bp[i]? = some b) : (i ∈ M.bs ↔ b = true) ∧ i < M.np := by
  unfold bpOk at h
  simp only [Bool.and_eq_true, decide_eq_true_eq, List.all_eq_true, List.mem_range] at h
  have hi : i < bp.length := (List.getElem?_eq_some_iff.mp e).1
  have q := h.2 i hi
  rw [e] at q
  refine ⟨?_, by omega⟩
  simp only [Option.getD_some, beq_iff_eq] at q
  constructor
  · intro m; rw [← q]; exact decide_eq_true m
  · intro m; rw [m] at q; exact of_decide_eq_true q
section
variable {P : Program} {w : World} {K : PySem.W.Frag} {mg : Str → Option Value} {base : Heap}
theorem Fun.okc {x qual : Str} {st : Stmt} {f : Addr} {fd : FuncData} {N ps : List Str} {k : Nat} {sp : Sp} (F : Fun K x qual st f fd) (hn : PySem.W.nsIn K mainGlobals x = some (some (.ref f))) (S : FnScope N ps (defScope st)) (len : ∀ vs H Q E, sp vs H Q E → vs.length = ps.length)
    (hbody : ∀ (cdv : Value) (A : Around) (outer : List Env) (s : Shared) (H : Hp) (vs : List V) (Q : VK) (E : XK), (∀ c P, PySem.W.tabIn K x = some (c, P) → cdv = .ref c) → Room k (A.deeper (envOfC qual (defScope st) s.heap.objs.size f cdv)) → sp vs H Q E →
      ∃ t, PSs (cxOf CX0 P w K mg base N qual (defScope st) f cdv A outer s H E).nox (defBody st) t ∧ t { nx := fun _ H' => Q .non H', rt := Q } (start N vs) H) : FnOk P w K mg base CX0 (k + 1) f fd ps sp := by
  obtain ⟨oc, od, kV, doc, pm, an, cdv, ct, osl, rfl, lk, hcd⟩ := F.ex
  refine fn_of lk hcd S len fun A outer s H vs Q E hr hsp => ?_
  have hcc : ∀ c P, PySem.W.tabIn K x = some (c, P) → cdv = .ref c := fun c P e => by
    unfold PySem.W.tabIn at e
    rw [hn] at e
    simp only [lk] at e
    cases cdv with
    | ref c' =>
      simp only [PySem.W.fnOf] at e
      split at e
      · split at e
        · cases e; rfl
        · cases e
      · cases e
    | _ => simp [PySem.W.fnOf] at e
  obtain ⟨t, h, q⟩ := hbody cdv A outer s H vs Q E hcc hr hsp
  exact ⟨t, h.nox, q⟩
theorem fn_q {x qual : Str} {st : Stmt} {f : Addr} {fd : FuncData} {N ps : List Str} {k : Nat} {M : Md} {bp : List Bool} {body : FS} (F : Fun K x qual st f fd) (hn : PySem.W.nsIn K mainGlobals x = some (some (.ref f))) (S : FnScope N ps (defScope st)) (hbp : bp.length = ps.length) (hM : bpOk M bp = true)
    (hbody : ∀ (cdv : Value) (A : Around) (outer : List Env) (s : Shared) (H : Hp) (E : XK), (∀ c P, PySem.W.tabIn K x = some (c, P) → cdv = .ref c) → Room k (A.deeper (envOfC qual (defScope st) s.heap.objs.size f cdv)) →
      QSs (cxOf CX0 P w K mg base N qual (defScope st) f cdv A outer s H E).nox M (defBody st) body) : FnOk P w K mg base CX0 (k + 1) f fd ps (spq K M.tn bp (fnM N.length bp body)) := by
  have hnp : M.np = bp.length := by
    unfold bpOk at hM
    simp only [Bool.and_eq_true, decide_eq_true_eq] at hM
    exact hM.1
  refine F.okc hn S (fun vs H Q E h => ?_) (fun cdv A outer s H vs Q E hcc hr h => ?_)
  · obtain ⟨F, I, ds, as, d, os, _, _, _, _, _, p, _⟩ := h
    rw [p.len.1, hbp]
  · obtain ⟨F, I, ds, as, d, os, h1, h2, h3, h4, h5, p, e, k⟩ := h
    obtain ⟨⟨o, ρ'⟩, e1, e⟩ := bind_some e
    obtain ⟨d', e2, e⟩ := bind_some e
    obtain ⟨os', e3, e⟩ := bind_some e
    cases e
    have hlen := p.len
    have hNl : ds.length ≤ N.length := by
      have := congrArg List.length S.pre
      rw [List.length_take] at this
      omega
    let G : Nat → Option Addr := fun i => if bp[i]? = some true then (match vs[i]? with | some (.ref a) => some a | _ => none) else none
    have hG : ∀ i a, G i = some a → bp[i]? = some true ∧ vs[i]? = some (.ref a) := fun i a q => by
      have q : (if bp[i]? = some true then (match vs[i]? with | some (.ref a) => some a | _ => none) else none) = some a := q
      by_cases z : bp[i]? = some true
      · rw [if_pos z] at q
        refine ⟨z, ?_⟩
        split at q
        · cases q; assumption
        · cases q
      · rw [if_neg z] at q; cases q
    refine ⟨_, (hbody cdv A outer s H E hcc hr).ps, ⟨F, G⟩, I, _, o, ρ', ⟨h1, h2, h3, h4, fun i d q hi => ?_, fun i d q hi => ?_, fun i j d e a hi hj q1 q2 s1 s2 => ?_, ?_, fun i a q => ?_, h5⟩, e1, fun σ' H' I' s' R' => ?_⟩
    · obtain ⟨v, q1, q2⟩ := p.at i d (ev_get.mp q)
      rcases q2 with ⟨_, q2⟩ | ⟨q2, _⟩
      · exact ⟨v, start_get.mpr q1, q2⟩
      · exact absurd ((bpOk_at hM q2).1.mpr rfl) hi
    · obtain ⟨v, q1, q2⟩ := p.at i d (ev_get.mp q)
      rcases q2 with ⟨q2, _⟩ | ⟨q2, a, _, rfl, b1, b2, b3⟩
      · exact absurd ((bpOk_at hM q2).1.mp hi) (by simp)
      · exact ⟨a, start_get.mpr q1, b1, b2, b3⟩
    · have key : ∀ i d, i ∈ M.bs → (ds.map some ++ List.replicate (N.length - ds.length) none)[i]? = some (some d) → bp[i]? = some true := fun i d hi q => by
        obtain ⟨v, q1, q2⟩ := p.at i d (ev_get.mp q)
        rcases q2 with ⟨q2, _⟩ | ⟨q2, _⟩
        · exact absurd ((bpOk_at hM q2).1.mp hi) (by simp)
        · exact q2
      exact p.inj i j a (key i d hi q1) (key j e hj q2) (start_get.mp s1) (start_get.mp s2)
    · unfold start
      rw [List.length_append, List.length_append, List.length_map, List.length_map, List.length_replicate, List.length_replicate]
      omega
    · obtain ⟨z1, z2⟩ := hG i a q
      obtain ⟨w1, w2⟩ := bpOk_at hM z1
      exact ⟨start_get.mpr z2, w1.mpr rfl, w2⟩
    · have fin : ∀ v, Dp K I' v d → Q v H' := fun v dv => by
        refine k v H' I' s' R'.sub R'.frm R'.dis R'.sz R'.tab (out_of hlen.1 (fun i e z1 z2 => ?_) e3) dv
        have hib := (bpOk_at hM z1).1.mpr rfl
        obtain ⟨a, q1, q2, q3, _⟩ := R'.box i e z2 hib
        have hi : i < ds.length := by rw [hlen.2]; exact (List.getElem?_eq_some_iff.mp z1).1
        obtain ⟨v0, y1, y2⟩ := p.at i _ (List.getElem?_eq_getElem hi)
        rcases y2 with ⟨y2, _⟩ | ⟨_, b, _, rfl, _⟩
        · rw [z1] at y2; cases y2
        · have hg : G i = some b := by
            show (if bp[i]? = some true then (match vs[i]? with | some (.ref a) => some a | _ => none) else none) = some b
            rw [if_pos z1, y1]
          have := (R'.anc i b hg).1
          rw [q1] at this; cases this
          exact ⟨a, y1, q2, q3⟩
      cases o with
      | nx => cases e2; exact fin .non .non
      | rt d => cases e2; exact fun v dv => fin v dv
      | bk => cases e2
      | ct => cases e2
end
end L2
namespace L2
open PySem PySem.Spec PyProof.Rows
def addD : Dt → Dt → Option Dt
  | .int i, .int j => some (.int (i + j))
  | .tuple a, .tuple b => if a.length + b.length ≤ 16777216 then some (.tuple (a ++ b)) else none
  | .list a, .list b => if a.length + b.length ≤ 16777216 then some (.list (a ++ b)) else none
  | _, _ => none
def subD : Dt → Dt → Option Dt
  | .int i, .int j => some (.int (i - j))
  | _, _ => none
def mulD : Dt → Dt → Option Dt
  | .int i, .int j => if (-(2 ^ 64) < i ∧ i < 2 ^ 64) ∨ (-(2 ^ 64) < j ∧ j < 2 ^ 64) then some (.int (i * j)) else none
  | _, _ => none
def fdivD : Dt → Dt → Option Dt
  | .int i, .int j => if 0 < j ∧ j < 1073741824 then some (.int (i / j)) else none
  | _, _ => none
def modD : Dt → Dt → Option Dt
  | .int i, .int j => if 0 < j then some (.int (i % j)) else none
  | _, _ => none
def leD : Dt → Dt → Option Dt
  | .int i, .int j => some (.bool (decide (i ≤ j)))
  | _, _ => none
def gtD : Dt → Dt → Option Dt
  | .int i, .int j => some (.bool (decide (j < i)))
  | _, _ => none
def geD : Dt → Dt → Option Dt
  | .int i, .int j => some (.bool (decide (j ≤ i)))
  | _, _ => none
mutual
def tame : Nat → Dt → Bool
  | _, .none => true
  | _, .bool _ => true
  | _, .int _ => true
  | _, .str x => PyData.strOk x
  | 0, _ => false
  | n + 1, .list ds => tameAll n ds
  | n + 1, .tuple ds => tameAll n ds
  | _, .dict _ => false
def tameAll : Nat → List Dt → Bool
  | _, [] => true
  | n, d :: ds => tame n d && tameAll n ds
end
mutual
theorem tame_lay : ∀ (n : Nat) (d : Dt), tame n d = true → d.canLay0 = true ∧ d.depth ≤ n
  | _, .none, _ => ⟨rfl, Nat.zero_le _⟩
  | _, .bool _, _ => ⟨rfl, Nat.zero_le _⟩
  | _, .int _, _ => ⟨rfl, Nat.zero_le _⟩
  | n, .str x, h => ⟨by cases n <;> simpa [tame, PyData.canLay0] using h, by simp [PyData.depth]⟩
  | 0, .list ds, h => by simp [tame] at h
  | 0, .tuple ds, h => by simp [tame] at h
  | n + 1, .list ds, h => by
    obtain ⟨h1, h2⟩ := tameAll_lay n ds (by simpa [tame] using h)
    exact ⟨by simpa [PyData.canLay0] using h1, by simp only [PyData.depth]; omega⟩
  | n + 1, .tuple ds, h => by
    obtain ⟨h1, h2⟩ := tameAll_lay n ds (by simpa [tame] using h)
    exact ⟨by simpa [PyData.canLay0] using h1, by simp only [PyData.depth]; omega⟩
  | n, .dict _, h => by cases n <;> simp [tame] at h
theorem tameAll_lay : ∀ (n : Nat) (ds : List Dt), tameAll n ds = true → PyData.canLayAll0 ds = true ∧ PyData.depthAll ds ≤ n
  | n, [], _ => ⟨by simp [PyData.canLayAll0], by simp [PyData.depthAll]⟩
  | n, d :: ds, h => by
    simp only [tameAll, Bool.and_eq_true] at h
    obtain ⟨h1, h2⟩ := tame_lay n d h.1
    obtain ⟨h3, h4⟩ := tameAll_lay n ds h.2
    exact ⟨by simp [PyData.canLayAll0, h1, h3], by simp only [PyData.depthAll]; omega⟩
end
theorem tame_shaped {d : Dt} (h : tame 12 d = true) : SeqAt.shaped d = true := by
  obtain ⟨h1, h2⟩ := tame_lay 12 d h
  unfold SeqAt.shaped
  rw [h1, Bool.true_and]
  exact decide_eq_true (by omega)
def eqD (d e : Dt) : Option Dt := if tame 12 d = true ∧ tame 12 e = true then some (.bool (PyData.eqv d e)) else none
def neD (d e : Dt) : Option Dt := if tame 12 d = true ∧ tame 12 e = true then some (.bool (!PyData.eqv d e)) else none
def inD (d e : Dt) : Option Dt := match e with
  | .list xs => if tame 12 d = true ∧ tameAll 12 xs = true then some (.bool (xs.any fun y => PyData.eqv y d)) else none
  | .tuple xs => if tame 12 d = true ∧ tameAll 12 xs = true then some (.bool (xs.any fun y => PyData.eqv y d)) else none
  | _ => none
def notInD (d e : Dt) : Option Dt := match e with
  | .list xs => if tame 12 d = true ∧ tameAll 12 xs = true then some (.bool (!xs.any fun y => PyData.eqv y d)) else none
  | .tuple xs => if tame 12 d = true ∧ tameAll 12 xs = true then some (.bool (!xs.any fun y => PyData.eqv y d)) else none
  | _ => none
def intsD : List Dt → Option (List Int)
  | [] => some []
  | .int i :: r => (intsD r).bind fun ns => some (i :: ns)
  | _ => none
def ltT : Dt → Dt → Option Dt
  | .int i, .int j => some (.bool (decide (i < j)))
  | .tuple a, .tuple b => (intsD a).bind fun ns => (intsD b).bind fun ms => some (.bool (HT.lexLt ns ms))
  | _, _ => none
section
variable {X : Cx}
theorem oq_sub : OpQ X (binaryOp .Sub) subD := OpQ.of op_sub fun x y H Q ⟨I, d, e, r, s, z, dx, dy, g, k⟩ => by
  cases dx with
  | int i => cases dy with
    | int j => cases g; exact ⟨i, j, rfl, rfl, k _ H I (Grow.refl s z) (.int _)⟩
    | _ => cases g
  | _ => cases g
theorem oq_mul : OpQ X (binaryOp .Mult) mulD := OpQ.of op_mul fun x y H Q ⟨I, d, e, r, s, z, dx, dy, g, k⟩ => by
  cases dx with
  | int i => cases dy with
    | int j =>
      have g : (if (-(2 ^ 64) < i ∧ i < 2 ^ 64) ∨ (-(2 ^ 64) < j ∧ j < 2 ^ 64) then some (PyData.int (i * j)) else none) = some r := g
      by_cases h : (-(2 ^ 64) < i ∧ i < 2 ^ 64) ∨ (-(2 ^ 64) < j ∧ j < 2 ^ 64)
      · rw [if_pos h] at g; cases g; exact ⟨i, j, rfl, rfl, h, k _ H I (Grow.refl s z) (.int _)⟩
      · rw [if_neg h] at g; cases g
    | _ => cases g
  | _ => cases g
theorem oq_fdiv : OpQ X (binaryOp .FloorDiv) fdivD := OpQ.of op_fdiv fun x y H Q ⟨I, d, e, r, s, z, dx, dy, g, k⟩ => by
  cases dx with
  | int i => cases dy with
    | int j =>
      have g : (if 0 < j ∧ j < 1073741824 then some (PyData.int (i / j)) else none) = some r := g
      by_cases h : 0 < j ∧ j < 1073741824
      · rw [if_pos h] at g; cases g; exact ⟨i, j, rfl, rfl, h, k _ H I (Grow.refl s z) (.int _)⟩
      · rw [if_neg h] at g; cases g
    | _ => cases g
  | _ => cases g
theorem oq_mod : OpQ X (binaryOp .Mod) modD := OpQ.of op_mod fun x y H Q ⟨I, d, e, r, s, z, dx, dy, g, k⟩ => by
  cases dx with
  | int i => cases dy with
    | int j =>
      have g : (if 0 < j then some (PyData.int (i % j)) else none) = some r := g
      by_cases h : 0 < j
      · rw [if_pos h] at g; cases g; exact ⟨i, j, rfl, rfl, h, k _ H I (Grow.refl s z) (.int _)⟩
      · rw [if_neg h] at g; cases g
    | _ => cases g
  | _ => cases g
theorem oq_le : OpQ X (compareOp .LtE) leD := OpQ.of op_le fun x y H Q ⟨I, d, e, r, s, z, dx, dy, g, k⟩ => by
  cases dx with
  | int i => cases dy with
    | int j => cases g; exact ⟨i, j, rfl, rfl, k _ H I (Grow.refl s z) (.bl _)⟩
    | _ => cases g
  | _ => cases g
theorem oq_eq (hu : X.A.units + 64 < cLine) : OpQ X (compareOp .Eq) eqD := OpQ.of (op_eqD hu) fun x y H Q ⟨I, d, e, r, s, z, dx, dy, g, k⟩ => by
  unfold eqD at g
  by_cases h : tame 12 d = true ∧ tame 12 e = true
  · rw [if_pos h] at g; cases g
    exact ⟨d, e, Dp.up s dx, Dp.up s dy, tame_shaped h.1, tame_shaped h.2, k _ H I (Grow.refl s z) (.bl _)⟩
  · rw [if_neg h] at g; cases g
theorem oq_ne (hu : X.A.units + 64 < cLine) : OpQ X (compareOp .NotEq) neD := OpQ.of (op_neD hu) fun x y H Q ⟨I, d, e, r, s, z, dx, dy, g, k⟩ => by
  unfold neD at g
  by_cases h : tame 12 d = true ∧ tame 12 e = true
  · rw [if_pos h] at g; cases g
    exact ⟨d, e, Dp.up s dx, Dp.up s dy, tame_shaped h.1, tame_shaped h.2, k _ H I (Grow.refl s z) (.bl _)⟩
  · rw [if_neg h] at g; cases g
theorem oq_in (hu : X.A.units + 64 < cLine) : OpQ X (compareOp .In) inD := ⟨fun pins s σ H x y v u Q J rx ry ⟨I, d, e, r, sm, z, dx, dy, g, k⟩ => by
  obtain ⟨as, r1⟩ := Dp.reads J d x v (Dp.up sm dx) rx
  obtain ⟨bs, r2⟩ := Dp.reads J e y u (Dp.up sm dy) ry
  have room : ∀ xs, tame 12 d = true → tameAll 12 xs = true → X.A.units + 1 + min (PyData.depthAll xs) d.depth < cLine := fun xs h1 h2 => by
    have := (tame_lay 12 d h1).2
    have : min (PyData.depthAll xs) d.depth ≤ d.depth := Nat.min_le_right _ _
    omega
  cases e with
  | list xs =>
    have g : (if tame 12 d = true ∧ tameAll 12 xs = true then some (PyData.bool (xs.any fun y => PyData.eqv y d)) else none) = some r := g
    by_cases h : tame 12 d = true ∧ tameAll 12 xs = true
    · rw [if_pos h] at g; cases g
      exact SeqAt.in_list_reads r2 r1 (tameAll_lay 12 xs h.2).1 (tame_lay 12 d h.1).1 (room xs h.1 h.2) ⟨.bl _, H, J, rfl, k _ H I (Grow.refl sm z) (.bl _)⟩
    · rw [if_neg h] at g; cases g
  | tuple xs =>
    have g : (if tame 12 d = true ∧ tameAll 12 xs = true then some (PyData.bool (xs.any fun y => PyData.eqv y d)) else none) = some r := g
    by_cases h : tame 12 d = true ∧ tameAll 12 xs = true
    · rw [if_pos h] at g; cases g
      exact SeqAt.in_tuple_reads r2 r1 (tameAll_lay 12 xs h.2).1 (tame_lay 12 d h.1).1 (room xs h.1 h.2) ⟨.bl _, H, J, rfl, k _ H I (Grow.refl sm z) (.bl _)⟩
    · rw [if_neg h] at g; cases g
  | _ => cases g⟩
theorem oq_notIn (hu : X.A.units + 64 < cLine) : OpQ X (compareOp .NotIn) notInD := ⟨fun pins s σ H x y v u Q J rx ry ⟨I, d, e, r, sm, z, dx, dy, g, k⟩ => by
  obtain ⟨as, r1⟩ := Dp.reads J d x v (Dp.up sm dx) rx
  obtain ⟨bs, r2⟩ := Dp.reads J e y u (Dp.up sm dy) ry
  have room : ∀ xs, tame 12 d = true → tameAll 12 xs = true → X.A.units + 1 + min (PyData.depthAll xs) d.depth < cLine := fun xs h1 h2 => by
    have := (tame_lay 12 d h1).2
    have : min (PyData.depthAll xs) d.depth ≤ d.depth := Nat.min_le_right _ _
    omega
  cases e with
  | list xs =>
    have g : (if tame 12 d = true ∧ tameAll 12 xs = true then some (PyData.bool (!xs.any fun y => PyData.eqv y d)) else none) = some r := g
    by_cases h : tame 12 d = true ∧ tameAll 12 xs = true
    · rw [if_pos h] at g; cases g
      exact SeqAt.notIn_list_reads r2 r1 (tameAll_lay 12 xs h.2).1 (tame_lay 12 d h.1).1 (room xs h.1 h.2) ⟨.bl _, H, J, rfl, k _ H I (Grow.refl sm z) (.bl _)⟩
    · rw [if_neg h] at g; cases g
  | tuple xs =>
    have g : (if tame 12 d = true ∧ tameAll 12 xs = true then some (PyData.bool (!xs.any fun y => PyData.eqv y d)) else none) = some r := g
    by_cases h : tame 12 d = true ∧ tameAll 12 xs = true
    · rw [if_pos h] at g; cases g
      exact SeqAt.notIn_tuple_reads r2 r1 (tameAll_lay 12 xs h.2).1 (tame_lay 12 d h.1).1 (room xs h.1 h.2) ⟨.bl _, H, J, rfl, k _ H I (Grow.refl sm z) (.bl _)⟩
    · rw [if_neg h] at g; cases g
  | _ => cases g⟩
theorem intsD_all {K : PySem.W.Frag} {I : Hp} : ∀ {a : List Dt} {xs : List V} {ns : List Int}, intsD a = some ns → DpAll K I xs a → xs = ns.map V.int
  | [], _, _, e, h => by cases e; cases h; rfl
  | .int i :: r, _, _, e, h => by
    obtain ⟨ns, e1, e⟩ := bind_some e
    cases e
    cases h with
    | cons h1 h2 => cases h1; rw [intsD_all e1 h2]; rfl
  | .none :: _, _, _, e, _ => by cases e
  | .bool _ :: _, _, _, e, _ => by cases e
  | .str _ :: _, _, _, e, _ => by cases e
  | .list _ :: _, _, _, e, _ => by cases e
  | .tuple _ :: _, _, _, e, _ => by cases e
  | .dict _ :: _, _, _, e, _ => by cases e
theorem oq_ltT (hu : X.A.units + 64 < cLine) : OpQ X (compareOp .Lt) ltT := ⟨fun pins s σ H x y v u Q J rx ry ⟨I, d, e, r, sm, z, dx, dy, g, k⟩ => by
  cases dx with
  | int i => cases dy with
    | int j => cases g; exact op_lt pins s σ H _ _ v u Q J rx ry ⟨i, j, rfl, rfl, k _ H I (Grow.refl sm z) (.bl _)⟩
    | _ => cases g
  | @tup a xs ds h1 h2 => cases dy with
    | @tup b ys es k1 k2 =>
      obtain ⟨ns, e1, g⟩ := bind_some g
      obtain ⟨ms, e2, g⟩ := bind_some g
      cases g
      have q1 := intsD_all e1 h2
      have q2 := intsD_all e2 k2
      subst q1; subst q2
      exact op_ltT (by omega) pins s σ H _ _ v u Q J rx ry ⟨a, b, ns, ms, rfl, rfl, SqT.up sm h1, SqT.up sm k1, k _ H I (Grow.refl sm z) (.bl _)⟩
    | _ => cases g
  | _ => cases g⟩
theorem catT_ok {pins : List (Addr × Obj)} {s : Shared} {σ : St} {H : Hp} {Q : VK} {a b : Addr} {xs ys : List V} (J : Inv X pins σ H s) (h1 : SqT X.K H a xs) (h2 : SqT X.K H b ys) (hz : xs.length + ys.length ≤ sizeLine)
    (q0 : xs = [] → Q (.ref b) H) (q1 : xs ≠ [] → ys = [] → Q (.ref a) H) (q2 : xs ≠ [] → ys ≠ [] → ∀ p, H p = none → Q (.ref p) (upd H p (.tup (xs ++ ys)))) : wpAny (model X.prog X.w) X.A (binaryOp .Add (.ref a) (.ref b)) (EP X pins σ Q) X.xe s := by
  obtain ⟨vs, r1, ht, _⟩ := J.tuple h1
  obtain ⟨ws, r2, hb, _⟩ := J.tuple h2
  obtain ⟨⟨cls, dd, data, sl⟩, ho, hc, n, hd⟩ := id ht
  obtain ⟨⟨cls2, dd2, data2, sl2⟩, ho2, hc2, n2, hd2⟩ := id hb
  simp only at hc hd hc2 hd2
  subst hc hd hc2 hd2
  have e : vs.toArray ++ ws.toArray = (vs ++ ws).toArray := by simp
  by_cases hv : vs = []
  · exact concat_meets ⟨_, ho, rfl⟩ ⟨_, ho2, rfl⟩ noFill_tuple_add seq_tuple_add PySem.F.slot_tuple_add PySem.F.entry_tuple_add (PySem.F.args_tuple_add_2 _ _)
      (tuple_addW0 a b vs.toArray ws.toArray n n2 dd dd2 sl sl2 (by simp [hv])) ⟨ho, ho2, ⟨.ref b, H, J, rfl, q0 (r1.nil_iff.mp hv)⟩⟩
  · have nx : xs ≠ [] := fun z => hv (r1.nil_iff.mpr z)
    by_cases hw : ws = []
    · exact concat_meets ⟨_, ho, rfl⟩ ⟨_, ho2, rfl⟩ noFill_tuple_add seq_tuple_add PySem.F.slot_tuple_add PySem.F.entry_tuple_add (PySem.F.args_tuple_add_2 _ _)
        (tuple_addW1 a b vs.toArray ws.toArray n n2 dd dd2 sl sl2 (by simpa using hv) (by simp [hw])) ⟨ho, ho2, ⟨.ref a, H, J, rfl, q1 nx (r2.nil_iff.mp hw)⟩⟩
    · refine concat_meets ⟨_, ho, rfl⟩ ⟨_, ho2, rfl⟩ noFill_tuple_add seq_tuple_add PySem.F.slot_tuple_add PySem.F.entry_tuple_add (PySem.F.args_tuple_add_2 _ _)
        (tuple_addW2 a b vs.toArray ws.toArray n n2 dd dd2 sl sl2 (by simpa using hv) (by simpa using hw) (by rw [List.size_toArray, List.size_toArray, ← r1.length, ← r2.length]; exact hz)) ⟨ho, ho2, ?_⟩
      rw [e]
      refine ⟨.ref s.heap.objs.size, _, J.laid (t' := s.toks) (o := .tup (xs ++ ys)) (fun b ob q => Heap.get?_push_of_some _ q) (Nat.le_refl _) ?_, rfl, q2 nx (fun w => hw (r2.nil_iff.mpr w)) _ (J.hok.fresh (Nat.le_refl _))⟩
      exact ⟨by rw [List.length_append]; exact hz, _, r1.append r2, IsTupN.new _ _⟩
theorem catL_ok {pins : List (Addr × Obj)} {s : Shared} {σ : St} {H : Hp} {Q : VK} {a b : Addr} {xs ys : List V} (J : Inv X pins σ H s) (h1 : SqL X.K H a xs) (h2 : SqL X.K H b ys) (hz : xs.length + ys.length ≤ sizeLine)
    (q : ∀ p, H p = none → Q (.ref p) (upd H p (.lst (xs ++ ys)))) : wpAny (model X.prog X.w) X.A (binaryOp .Add (.ref a) (.ref b)) (EP X pins σ Q) X.xe s := by
  obtain ⟨vs, r1, ⟨⟨cls, dd, data, sl⟩, n, ho, hc, hdd, hd⟩, _⟩ := J.list h1
  obtain ⟨ws, r2, ⟨⟨cls2, dd2, data2, sl2⟩, n2, ho2, hc2, hdd2, hd2⟩, _⟩ := J.list h2
  simp only at hc hd hc2 hd2 hdd hdd2
  subst hc hd hc2 hd2
  have e : vs.toArray ++ ws.toArray = (vs ++ ws).toArray := by simp
  refine concat_meets ⟨_, ho, rfl⟩ ⟨_, ho2, rfl⟩ noFill_list_add seq_list_add PySem.F.slot_list_add PySem.F.entry_list_add (PySem.F.args_list_add_2 _ _)
    (list_addW a b vs.toArray ws.toArray n n2 dd dd2 sl sl2 (by rw [List.size_toArray, List.size_toArray, ← r1.length, ← r2.length]; exact hz)) ⟨ho, ho2, ?_⟩
  rw [e]
  exact ⟨.ref _, _, J.lnew (t' := s.toks) (r1.append r2) (by rw [List.length_append]; omega), rfl, q _ J.fresh⟩
theorem oq_add : OpQ X (binaryOp .Add) addD := ⟨fun pins s σ H x y v u Q J rx ry ⟨I, d, e, r, sm, z, dx, dy, g, k⟩ => by
  have hs : sizeLine = 16777216 := sizeLine_eq
  cases dx with
  | int i => cases dy with
    | int j => cases g; exact op_add pins s σ H _ _ v u Q J rx ry ⟨i, j, rfl, rfl, k _ H I (Grow.refl sm z) (.int _)⟩
    | _ => cases g
  | @tup a xs ds h1 h2 => cases dy with
    | @tup b ys es k1 k2 =>
      have g : (if ds.length + es.length ≤ 16777216 then some (PyData.tuple (ds ++ es)) else none) = some r := g
      by_cases h : ds.length + es.length ≤ 16777216
      · rw [if_pos h] at g; cases g
        cases rx; cases ry
        have hz : xs.length + ys.length ≤ sizeLine := by rw [h2.length, k2.length]; omega
        refine catT_ok J (SqT.up sm h1) (SqT.up sm k1) hz (fun q => ?_) (fun q1 q2 => ?_) (fun q1 q2 p hp => ?_)
        · subst q; cases h2
          exact k _ H I (Grow.refl sm z) (.tup k1 k2)
        · subst q2; cases k2
          rw [List.append_nil] at k
          exact k _ H I (Grow.refl sm z) (.tup h1 h2)
        · have gr := Grow.tup sm z hp (xs := xs ++ ys) (by rw [List.length_append]; exact hz)
          exact k _ _ _ gr (.tup (.inl upd_same) (DpAll.up gr.ii (h2.append k2)))
      · rw [if_neg h] at g; cases g
    | _ => cases g
  | @lst a xs ds h1 h2 => cases dy with
    | @lst b ys es k1 k2 =>
      have g : (if ds.length + es.length ≤ 16777216 then some (PyData.list (ds ++ es)) else none) = some r := g
      by_cases h : ds.length + es.length ≤ 16777216
      · rw [if_pos h] at g; cases g
        cases rx; cases ry
        have hz : xs.length + ys.length ≤ sizeLine := by rw [h2.length, k2.length]; omega
        refine catL_ok J (SqL.up sm h1) (SqL.up sm k1) hz fun p hp => ?_
        have gr := Grow.lst sm z hp (xs := xs ++ ys) (by rw [List.length_append]; exact hz)
        exact k _ _ _ gr (.lst (.inl (.inl upd_same)) (DpAll.up gr.ii (h2.append k2)))
      · rw [if_neg h] at g; cases g
    | _ => cases g
  | _ => cases g⟩
variable {bs : Md} {pos : Pos} {a b c e : Expr} {fa fb : FE}
def noneD : Dt → Bool
  | .none => true
  | _ => false
def isN (f : FE) : FE := fun ρ => (f ρ).bind fun (d, ρ1) => some (.bool (noneD d), ρ1)
def isNN (f : FE) : FE := fun ρ => (f ρ).bind fun (d, ρ1) => some (.bool (!noneD d), ρ1)
theorem Dp.isN {K : PySem.W.Frag} {I : Hp} {v : V} {d : Dt} (h : Dp K I v d) : decide (v = .non) = noneD d := by cases h <;> simp [noneD]
end
end L2
namespace L2
open PySem PySem.Spec PyProof.Rows
def rcq (K : PySem.W.Frag) (g : List Dt → Option Dt) : List V → Hp → VK → Prop := fun vs H Q => ∃ I ds r, Same I H ∧ SzOk I ∧ DpAll K I vs ds ∧ g ds = some r ∧ ∀ v H' I', Grow H I H' I' → Dp K I' v r → Q v H'
structure CallQ (X : Cx) (f : Value) (g : List Dt → Option Dt) : Prop where
  mk :: (op : CallR X f (rcq X.K g))
def rcqF (K : PySem.W.Frag) (g : List Dt → Option (List Dt)) : List V → Hp → VK → Prop := fun vs H Q => ∃ I ds r, Same I H ∧ SzOk I ∧ DpAll K I vs ds ∧ g ds = some r ∧ ∀ p xs, H p = none → DpAll K I xs r → xs.length ≤ sizeLine → Q (.ref p) (upd H p (.lst xs))
structure CallF (X : Cx) (f : Value) (g : List Dt → Option (List Dt)) : Prop where
  mk :: (op : CallR X f (rcqF X.K g))
theorem CallR.weak {X : Cx} {f : Value} {r r' : List V → Hp → VK → Prop} (h : CallR X f r) (w : ∀ xs H Q, r' xs H Q → r xs H Q) : CallR X f r' := fun pins s σ H xs us Q I rs q => h pins s σ H xs us Q I rs (w xs H Q q)
def bF (g : List Dt → Option Dt) (fr : FA) : FE := fun ρ => (fr ρ).bind fun (ds, ρ1) => (g ds).bind fun r => some (r, ρ1)
def bFl (g : List Dt → Option (List Dt)) (fr : FA) : FE := fun ρ => (fr ρ).bind fun (ds, ρ1) => (g ds).bind fun r => some (.list r, ρ1)
section
variable {X : Cx} {bs : Md} {pos p apos : Pos} {a b c e o : Expr} {es : List Expr} {fa fb fe fo : FE} {fr : FA} {cs : List (Option Nat)} {x : Str} {id T : String} {g : List Dt → Option Dt} {gl : List Dt → Option (List Dt)}
theorem tq_cb {σ : St} {H : Hp} {Q : VK} {K : PySem.W.Frag} (hn : ∀ c ∈ cs, c = none) (h : tq K bs (bF g fr) σ H Q) : tCB (rcq K g) (tqA K bs cs fr) σ H Q := by
  obtain ⟨F, I, ρ, d, ρ', R, e, k⟩ := h
  obtain ⟨⟨ds, ρ1⟩, e1, e⟩ := bind_some e
  obtain ⟨r, e2, e⟩ := bind_some e
  cases e
  exact ⟨F, I, ρ, ds, _, R, e1, fun vs H1 I1 s1 R1 d1 => ⟨I1, ds, d, R1.sub, R1.sz, ArgR.all hn d1, e2, fun v H2 I2 gr dv => k v H2 I2 (s1.trans gr.ii) (R1.grow gr) dv⟩⟩
theorem qe_callB (hc : CallQ X (.builtin id) g) (hm : X.mg x = none) (ha : QA X bs (e :: es) cs fr) (hv : bootBuiltins x = some (.builtin id) := by decide +kernel) (hg : Gl X x := by rfl) (hn : ∀ c ∈ cs, c = none := by simp) (hnn : x ≠ "__name__" := by decide) (hdb : (x == ("__debug__" : Str)) = false := by decide)
    (he : starEach (e :: es) X.env = (false, eval e X.env) :: starEach es X.env := by rfl) (hpl : (backTo pos (starEach es X.env)).any (·.1) = false := by rfl) : QE X bs (.Call (.Name x p) (e :: es) [] pos) (bF g fr) :=
  ⟨PE.weak (pe_callB hc.op hg hm hv ha.pa hnn hdb he hpl) fun _ _ _ h => tq_cb hn h⟩
theorem qe_callT (hc : CallQ X (.type T) g) (hm : X.mg x = none) (ha : QA X bs (e :: es) cs fr) (hv : bootBuiltins x = some (.type T) := by decide +kernel) (hg : Gl X x := by rfl) (hn : ∀ c ∈ cs, c = none := by simp) (hnn : x ≠ "__name__" := by decide) (hdb : (x == ("__debug__" : Str)) = false := by decide)
    (he : starEach (e :: es) X.env = (false, eval e X.env) :: starEach es X.env := by rfl) (hpl : (backTo pos (starEach es X.env)).any (·.1) = false := by rfl) : QE X bs (.Call (.Name x p) (e :: es) [] pos) (bF g fr) :=
  ⟨PE.weak (pe_callTy hc.op hg hm hv ha.pa hnn hdb he hpl) fun _ _ _ h => tq_cb hn h⟩
def lenD : List Dt → Option Dt
  | [.list ds] => some (.int ds.length)
  | [.tuple ds] => some (.int ds.length)
  | _ => none
theorem cq_len : CallQ X (.builtin "len") lenD := ⟨CallR.weak call_len_seq fun xs H Q ⟨I, ds, r, s, z, d, g, k⟩ => by
  cases d with
  | nil => cases g
  | cons d1 d2 =>
    cases d2 with
    | nil =>
      cases d1 with
      | @lst a ys es h1 h2 => cases g; exact ⟨a, ys, rfl, .inl (SqL.up s h1), by rw [h2.length]; exact k _ H I (Grow.refl s z) (.int _)⟩
      | @tup a ys es h1 h2 => cases g; exact ⟨a, ys, rfl, .inr (SqT.up s h1), by rw [h2.length]; exact k _ H I (Grow.refl s z) (.int _)⟩
      | _ => cases g
    | cons _ _ => rename_i q1 _ _ _ _ _ _ _; cases d1 <;> cases g⟩
def tupleD : List Dt → Option Dt
  | [.list ds] => some (.tuple ds)
  | [.tuple ds] => some (.tuple ds)
  | _ => none
theorem cq_tuple : CallQ X (.type "tuple") tupleD := ⟨CallR.weak call_tuple_of fun xs H Q ⟨I, ds, r, s, z, d, g, k⟩ => by
  unfold tupleD at g
  split at g
  · cases g
    cases d with
    | cons d1 d2 =>
      cases d2
      cases d1 with
      | @lst a ys _ h1 h2 =>
        refine ⟨a, ys, rfl, .inl ⟨SqL.up s h1, fun l hl => ?_⟩⟩
        have gr := Grow.tup s z hl (xs := ys) (SqL.sz z h1)
        exact k _ _ _ gr (.tup (.inl upd_same) (DpAll.up gr.ii h2))
  · cases g
    cases d with
    | cons d1 d2 =>
      cases d2
      cases d1 with
      | @tup a ys _ h1 h2 => exact ⟨a, ys, rfl, .inr ⟨SqT.up s h1, k _ H I (Grow.refl s z) (.tup h1 h2)⟩⟩
  · cases g⟩
def listD : List Dt → Option (List Dt)
  | [.list ds] => some ds
  | [.tuple ds] => some ds
  | _ => none
def intD : List Dt → Option Dt
  | [.int i] => some (.int i)
  | [.bool b] => some (.int (if b then 1 else 0))
  | _ => none
theorem cq_int : CallQ X (.type "int") intD := ⟨CallR.weak call_int1 fun xs H Q ⟨I, ds, r, s, z, d, g, k⟩ => by
  unfold intD at g
  split at g
  · cases g
    cases d with | cons d1 d2 => cases d2; cases d1; exact .inl ⟨_, rfl, k _ H I (Grow.refl s z) (.int _)⟩
  · cases g
    cases d with | cons d1 d2 => cases d2; cases d1; exact .inr ⟨_, rfl, k _ H I (Grow.refl s z) (.int _)⟩
  · cases g⟩
def kindD : Dt → String
  | .none => "NoneType"
  | .bool _ => "bool"
  | .int _ => "int"
  | .str _ => "str"
  | .list _ => "list"
  | .tuple _ => "tuple"
  | .dict _ => "dict"
def isinstD (T : String) (d : Dt) : Bool := kindD d == T || (T == "int" && kindD d == "bool")
def isF (T : String) (f : FE) : FE := fun ρ => (f ρ).bind fun (d, ρ1) => some (.bool (isinstD T d), ρ1)
def kinds6 : List String := ["NoneType", "bool", "int", "str", "list", "tuple"]
def types5 : List String := ["bool", "int", "str", "list", "tuple"]
theorem kit_ok (K : PySem.W.Frag) : ∀ k ∈ kinds6, ∀ T ∈ types5, PySem.W.kitOne K (.type k) (.type T) = some (k == T || (T == "int" && k == "bool")) := by
  intro k hk T hT
  simp only [kinds6, List.mem_cons, List.mem_nil_iff, or_false] at hk
  simp only [types5, List.mem_cons, List.mem_nil_iff, or_false] at hT
  rcases hk with rfl | rfl | rfl | rfl | rfl | rfl <;> rcases hT with rfl | rfl | rfl | rfl | rfl <;> kernel_rfl
theorem isinst_dp {pins : List (Addr × Obj)} {σ : St} {H : Hp} {s : Shared} {v : V} {u : Value} {d : Dt} {T : String} {Q : Value → Shared → Prop} {E : Value → Shared → Prop} (J : Inv X pins σ H s) (rx : RelV v u) (dp : Dp X.K H v d) (hT : T ∈ types5)
    (h : ∀ tk, Q (.bool (isinstD T d)) { s with toks := tk }) : wpAny (model X.prog X.w) X.A (call (.builtin "isinstance") [u, .type T]) Q E s := by
  cases dp with
  | non => cases rx; exact PySem.W.kia_one PySem.W.kitx_none J.kIn True.intro (kit_ok _ _ (by decide) T hT) (fun z => nomatch z) h
  | bl y => cases rx; exact PySem.W.kia_one PySem.W.kitx_bool J.kIn True.intro (kit_ok _ _ (by decide) T hT) (fun z => nomatch z) h
  | int i => obtain ⟨t, rfl⟩ := rx; exact PySem.W.kia_one PySem.W.kitx_int J.kIn True.intro (kit_ok _ _ (by decide) T hT) (fun z => nomatch z) h
  | str y => obtain ⟨t, rfl⟩ := rx; exact PySem.W.kia_one PySem.W.kitx_str J.kIn True.intro (kit_ok _ _ (by decide) T hT) (fun z => nomatch z) h
  | lst h1 h2 =>
    cases rx
    obtain ⟨its, rv, ⟨o, n, ho, hc, _, _⟩, _⟩ := J.list h1
    exact PySem.W.kia_one PySem.W.kitx_list J.kIn ⟨_, ho, hc⟩ (kit_ok _ _ (by decide) T hT) (fun z => nomatch z) h
  | tup h1 h2 =>
    cases rx
    obtain ⟨its, rv, ⟨o, ho, hc, _⟩, _⟩ := J.tuple h1
    exact PySem.W.kia_one PySem.W.kitx_tuple J.kIn ⟨_, ho, hc⟩ (kit_ok _ _ (by decide) T hT) (fun z => nomatch z) h
theorem cr_isinst (hT : T ∈ types5) : CallR X (.builtin "isinstance") (fun xs H Q => ∃ v d, xs = [v, .ty T] ∧ Dp X.K H v d ∧ Q (.bl (isinstD T d)) H) := by
  intro pins s σ H xs us Q I r h
  obtain ⟨v, d, rfl, dp, q⟩ := h
  obtain ⟨u, w', rfl, rv, rt⟩ := vals2 r
  cases rt
  exact isinst_dp I rv dp hT fun tk => ⟨.bl _, H, I.tok _, rfl, q⟩
theorem qe_isinst {t : Str} {p1 : Pos} (T : String) (he : QE X bs e fe) (hm : X.mg "isinstance" = none) (hmt : X.mg t = none) (hT : T ∈ types5 := by decide) (hvt : bootBuiltins t = some (.type T) := by decide +kernel) (hg : Gl X "isinstance" := by rfl) (hgt : Gl X t := by rfl) (hnt : t ≠ "__name__" := by decide) (hdt : (t == ("__debug__" : Str)) = false := by decide)
    (h1 : starEach [e, Expr.Name t p1] X.env = (false, eval e X.env) :: starEach [Expr.Name t p1] X.env := by rfl) (h2 : starEach [Expr.Name t p1] X.env = (false, eval (Expr.Name t p1) X.env) :: starEach [] X.env := by rfl) (hpl : (backTo pos (starEach [Expr.Name t p1] X.env)).any (·.1) = false := by rfl) :
    QE X bs (.Call (.Name "isinstance" p) [e, .Name t p1] [] pos) (isF T fe) :=
  ⟨PE.weak (pe_callB (cr_isinst (X := X) hT) hg hm (by decide +kernel) (pa_cons he.pe (pa_cons (pe_bltn hgt hmt hvt (show RelV (.ty T) _ from rfl) hnt hdt) pa_nil h2) h1) (by decide) (by decide) h1 hpl) fun σ H Q ⟨F, I, ρ, d, ρ', R, e, k⟩ => by
    obtain ⟨⟨x, ρ1⟩, e1, e⟩ := bind_some e
    cases e
    exact ⟨F, I, ρ, x, _, R, e1, fun v H1 I1 s1 R1 d1 => ⟨v, x, rfl, Dp.up R1.sub d1, k _ H1 I1 s1 R1 (.bl _)⟩⟩⟩
def ixD : Dt → Dt → Option Dt
  | .list ds, .int i => atI ds i
  | .tuple ds, .int i => atI ds i
  | _, _ => none
theorem DpAll.atI {K : PySem.W.Frag} {I : Hp} {ds : List Dt} {vs : List V} {i : Int} {d : Dt} (h : DpAll K I vs ds) (e : L2.atI ds i = some d) : ∃ v, L2.atI vs i = some v ∧ Dp K I v d := by
  unfold L2.atI at e ⊢
  rw [h.length]
  obtain ⟨j, e1, e2⟩ := bind_some e
  obtain ⟨v, h1, h2⟩ := h.get e2
  exact ⟨v, by rw [e1]; exact h1, h2⟩
theorem qe_ix (ha : QE X bs a fa) (hb : QE X bs b fb) (hs : PlainIx b := by intro _ _; rfl) : QE X bs (.Subscript a b pos) (opF ixD fa fb) :=
  ⟨PE.weak (pe_ix (ix_list.or ix_tup) ha.pe hb.pe hs) fun σ H Q h => by
    obtain ⟨F, I, ρ, d, ρ', R, e, k⟩ := h
    obtain ⟨⟨x, ρ1⟩, e1, e⟩ := bind_some e
    obtain ⟨⟨y, ρ2⟩, e2, e⟩ := bind_some e
    obtain ⟨z, e3, e⟩ := bind_some e
    cases e
    refine ⟨F, I, ρ, x, ρ1, R, e1, fun v H1 I1 s1 R1 d1 => ⟨F, I1, ρ1, y, _, R1, e2, fun w H2 I2 s2 R2 d2 => ?_⟩⟩
    have d1 := Dp.up s2 d1
    cases d1 with
    | @lst p xs ds h1 h2 =>
      cases d2 with
      | int i =>
        obtain ⟨v, q1, q2⟩ := h2.atI e3
        exact .inl ⟨p, xs, i, v, rfl, rfl, SqL.up R2.sub h1, q1, k v H2 I2 (s1.trans s2) R2 q2⟩
      | _ => cases e3
    | @tup p xs ds h1 h2 =>
      cases d2 with
      | int i =>
        obtain ⟨v, q1, q2⟩ := h2.atI e3
        exact .inr ⟨p, xs, i, v, rfl, rfl, SqT.up R2.sub h1, q1, k v H2 I2 (s1.trans s2) R2 q2⟩
      | _ => cases e3
    | _ => cases e3⟩
def cutD (xs : List Dt) (lo hi : Option Int) : List Dt := (xs.drop (HT.sIx xs.length 0 lo)).take (HT.sIx xs.length xs.length hi - HT.sIx xs.length 0 lo)
end
end L2
namespace HT
open PySem PyProof.Rows
section
variable {prog : Program} {w : World} {A : Around} {E : Value → Shared → Prop} {s : Shared}
end
end HT
namespace L2
open PySem PySem.Spec PyProof.Rows
section
variable {X : Cx} {bs : Md} {pos p2 p apos cpos : Pos} {a b c e o : Expr} {es : List Expr} {fa fb fe fo : FE} {fr : FA} {cs : List (Option Nat)} {lo hi : Option Expr}
abbrev FO := Ev → Option (Option Int × Ev)
def noO : FO := fun ρ => some (none, ρ)
def someO (f : FE) : FO := fun ρ => (f ρ).bind fun (d, ρ1) => match d with | .int i => some (some i, ρ1) | _ => none
def tqO (K : PySem.W.Frag) (bs : Md) (f : FO) : TO := fun σ H Q => ∃ F I ρ d ρ', Rl K bs F σ H I ρ ∧ f ρ = some (d, ρ') ∧ ∀ H' I', Same I I' → Rl K bs F σ H' I' ρ' → Q d H'
structure QO (X : Cx) (bs : Md) (e : Option Expr) (f : FO) : Prop where
  mk :: (po : PO X e (tqO X.K bs f))
theorem PO.weak {X : Cx} {e : Option Expr} {t t' : TO} (h : PO X e t) (w : ∀ σ H Q, t' σ H Q → t σ H Q) : PO X e t' := fun pins s σ H Q I q => h pins s σ H Q I (w σ H Q q)
def slD (d : Dt) (lo hi : Option Int) : Option Dt := match d with
  | .tuple ds => some (.tuple (cutD ds lo hi))
  | .list ds => some (.list (cutD ds lo hi))
  | _ => none
def slF (fe : FE) (fl fh : FO) : FE := fun ρ => (fe ρ).bind fun (x, ρ1) => (fl ρ1).bind fun (l, ρ2) => (fh ρ2).bind fun (h, ρ3) => (slD x l h).bind fun r => some (r, ρ3)
theorem Rl.peek {K : PySem.W.Frag} {F : Fr} {σ : St} {H I : Hp} {ρ : Ev} {i : Nat} {ds : List Dt} (R : Rl K bs F σ H I ρ) (hb : i ∈ bs.bs) (h : ρ[i]? = some (some (.list ds))) : ∃ a xs, σ[i]? = some (some (.ref a)) ∧ H a = some (.lst xs) ∧ DpAll K I xs ds ∧ xs.length ≤ sizeLine := by
  obtain ⟨a, h1, ⟨xs, h2, h3, h4⟩, _⟩ := R.box i _ h hb
  exact ⟨a, xs, h1, h2, h3, h4⟩
def boxL (i : Nat) (ρ : Ev) : Option (List Dt) := match ρ[i]? with | some (some (.list ds)) => some ds | _ => none
theorem boxL_some {i : Nat} {ρ : Ev} {ds : List Dt} (h : boxL i ρ = some ds) : ρ[i]? = some (some (.list ds)) := by
  unfold boxL at h
  split at h
  · cases h; assumption
  · cases h
def lenB (i : Nat) : FE := fun ρ => (boxL i ρ).bind fun ds => some (.int ds.length, ρ)
def tupB (i : Nat) : FE := fun ρ => (boxL i ρ).bind fun ds => some (.tuple ds, ρ)
def truB (i : Nat) : FT := fun ρ => (boxL i ρ).bind fun ds => some (!ds.isEmpty, ρ)
def appB (i : Nat) (f : FE) : FS := fun ρ => (boxL i ρ).bind fun _ => (f ρ).bind fun (d, ρ1) => (boxL i ρ1).bind fun ds => if ds.length < 16777216 then some (.nx, ρ1.set i (some (.list (ds ++ [d])))) else none
def popB (i : Nat) (f : FE) : FE := fun ρ => (boxL i ρ).bind fun _ => (f ρ).bind fun (d, ρ1) => match d with
  | .int j => (boxL i ρ1).bind fun ds => (ixN ds.length j).bind fun k => (ds[k]?).bind fun r => some (r, ρ1.set i (some (.list (ds.eraseIdx k))))
  | _ => none
variable {x : Str} (i : Nat)
theorem qe_lenB (hb : i ∈ bs.bs := by decide) (hm : X.mg "len" = none) (hN : X.N[i]? = some x := by rfl) (hv : Vis X.env.scope x := by first | exact Or.inl rfl | exact Or.inr (Or.inl rfl) | exact Or.inr (Or.inr rfl)) (hd : (x == ("__debug__" : Str)) = false := by decide)
    (hcd : (x == ("__classdict__" : Str)) = false := by decide) (hg : Gl X "len" := by rfl) (he : starEach [Expr.Name x p2] X.env = (false, eval (Expr.Name x p2) X.env) :: starEach [] X.env := by rfl) (hpl : (backTo pos (starEach [] X.env)).any (·.1) = false := by rfl) :
    QE X bs (.Call (.Name "len" p) [.Name x p2] [] pos) (lenB i) := ⟨PE.weak (pe_callB call_len_seq hg hm PySem.boot_len (pa_cons (pe_var hN hv hd hcd) pa_nil he) (by decide) (by decide) he hpl) fun σ H Q ⟨F, I, ρ, d, ρ', R, e, k⟩ => by
  obtain ⟨ds, e1, e⟩ := bind_some e
  cases e
  obtain ⟨a, xs, h1, h2, h3, h4⟩ := R.peek hb (boxL_some e1)
  exact ⟨_, h1, a, xs, rfl, .inl (SqL.of h2), by rw [h3.length]; exact k _ H I (Same.refl I) R (.int _)⟩⟩
theorem qs_app (he : QE X bs e fe) (hb : i ∈ bs.bs := by decide) (hN : X.N[i]? = some x := by rfl) (hv : Vis X.env.scope x := by first | exact Or.inl rfl | exact Or.inr (Or.inl rfl) | exact Or.inr (Or.inr rfl)) (hd : (x == ("__debug__" : Str)) = false := by decide)
    (hcd : (x == ("__classdict__" : Str)) = false := by decide) (hbase : attributeBase (Expr.Name x p2) "append" X.env (eval (Expr.Name x p2) X.env) = eval (Expr.Name x p2) X.env := by rfl)
    (hfew : ((backTo cpos (starEach [e] X.env)).all (fun x => !x.1) && (backToKw cpos (keywordEach [] X.env)).all (fun x => x.1.isSome)
      && decide ([e].length + ([] : List Keyword).length + (if ([] : List Keyword).isEmpty then 0 else 1) < 30)) = true := by rfl)
    (hline : (apos.endLine == cpos.line) = true := by rfl) (hs : starEach [e] X.env = (false, eval e X.env) :: starEach [] X.env := by rfl) (hplain : (backTo cpos (starEach [] X.env)).any (·.1) = false := by rfl)
    (hsw : swapsWith (.Call (.Attribute (.Name x p2) "append" apos) [e] [] cpos) none pos.line X.env = pure false := by rfl) :
    QS X bs (.Expr (.Call (.Attribute (.Name x p2) "append" apos) [e] [] cpos) pos) (appB i fe) :=
  ⟨PS.weak (ps_expr (pe_bm PySem.F.plainAttrs_list PySem.F.slot_list_append PySem.F.type_list_append mt_append (pe_var hN hv hd hcd) (pa_cons he.pe pa_nil hs) hbase hfew hline hs hplain) hsw) fun D σ H ⟨F, I, ρ, o, ρ', R, e, k⟩ => by
    obtain ⟨d0, e0, e⟩ := bind_some e
    obtain ⟨⟨y, ρ1⟩, e1, e⟩ := bind_some e
    obtain ⟨ds, e2, e⟩ := bind_some e
    obtain ⟨a0, xs0, h10, h20, _⟩ := R.peek hb (boxL_some e0)
    have hs : sizeLine = 16777216 := sizeLine_eq
    have e : (if ds.length < 16777216 then some (Out.nx, ρ1.set i (some (.list (ds ++ [y])))) else none) = some (o, ρ') := e
    by_cases hl : ds.length < 16777216
    · rw [if_pos hl] at e
      cases e
      refine ⟨_, h10, .inl ⟨rfl, _, SqL.of h20⟩, F, I, ρ, y, ρ1, R, e1, fun w H2 I2 s2 R2 d2 => ?_⟩
      obtain ⟨a, xs, h1, h2, h3, h4⟩ := R2.peek hb (boxL_some e2)
      rw [h10] at h1; cases h1
      have hx : xs.length < sizeLine := by rw [h3.length]; omega
      refine ⟨a0, xs, w, rfl, rfl, h2, hx, ?_⟩
      exact k σ _ I2 s2 (R2.chg hb (boxL_some e2) h10 ⟨xs ++ [w], upd_same, h3.snoc d2, by rw [List.length_append]; exact hx⟩)
    · rw [if_neg hl] at e; cases e⟩
end
end L2
namespace L2
open PySem PySem.Spec PyProof.Rows
section
variable {X : Cx} {bs : Md} {pos p spos : Pos} {a b c d e tg : Expr} {es : List Expr} {fa fb fc fd fe : FE} {fr : FA} {fi fi1 : FI} {ft ft1 : FT} {js js1 : List Nat} {fg fg1 : FG} {cs : List (Option Nat)}
def lc2L (own own1 : List Nat) (g : FG) (t : FT) (fi1 : FI) (g1 : FG) (t1 : FT) (fe : FE) : List Dt → Ev → Option (List Dt × Ev)
  | [] => fun ρ => some ([], ρ)
  | d :: ds => fun ρ => (g d ρ).bind fun ρ1 => (t ρ1).bind fun (b, ρ2) => if b = true then (fi1 ρ2).bind fun (ds1, ρ3) => (lcL own1 g1 t1 fe ds1 (wipeE ρ3 own1)).bind fun (ys, ρ4) =>
        (lc2L own own1 g t fi1 g1 t1 fe ds (wipeE ρ4 own)).bind fun (zs, ρ5) => some (ys ++ zs, ρ5)
      else lc2L own own1 g t fi1 g1 t1 fe ds (wipeE ρ2 own)
def lc2F (fi : FI) (own own1 : List Nat) (g : FG) (t : FT) (fi1 : FI) (g1 : FG) (t1 : FT) (fe : FE) : FE := fun ρ => (fi ρ).bind fun (ds, ρ1) => (lc2L own own1 g t fi1 g1 t1 fe ds (wipeE ρ1 own)).bind fun (ys, ρ2) => if ys.length ≤ 16777216 then some (.list ys, backE ρ1 ρ2 own) else none
variable {elt iter tg1 iter1 : Expr} {ifs ifs1 : List Expr} {scope : Scope} {y : Str} {py : Pos}
end
end L2
namespace L2
open PySem PySem.Spec PyProof.Rows
structure BaseOk (K : PySem.W.Frag) (mg : Str → Option Value) (base : Heap) (tn : List Str) : Prop where
  bm : ∃ bm ob, mg "__builtins__" = some (.ref bm) ∧ bm ≠ builtinsNs ∧ base.get? bm = some ob ∧ ob.cls = .type "module" ∧ ob.dict = some builtinsNs ∧ ob.data = .plain
  cd : ∀ x ∈ tn, ∀ c P, PySem.W.tabIn K x = some (c, P) → PySem.W.CodeHd base c P
section
variable {X : Cx} {pins : List (Addr × Obj)} {σ : St} {H : Hp} {s : Shared}
theorem Inv.gensTo (I : Inv X pins σ H s) {g' : Array GenState} (hg : AllBare g') : Inv X pins σ H { s with gens := g' } := ⟨I.ok, I.os, hg, I.base, I.loc, I.cell, I.free, I.freeC, I.pin, I.hok, I.len⟩
theorem Inv.table {P : Addr} {ps more : Array Value} {h' : Heap} {tk : Nat} (I : Inv X pins σ H s) (hP : H P = some (.tbl ps)) (he : Heap.ExtBut P s.heap h') (hP' : h'.get? P = some (PySem.W.tabObj (ps ++ more))) :
    Inv X pins σ (upd H P (.tbl (ps ++ more))) { s with heap := h', toks := tk } := by
  have nP : ∀ b, H b = none → b ≠ P := fun b n z => by rw [z, hP] at n; cases n
  refine I.un (t' := tk) ⟨fun b o e n _ _ => he b o (nP b n) e, fun b o e n _ _ => ⟨o.slots, he b o (nP b n) e⟩, fun b o e n _ => by rw [upd_ne (nP b n)]; exact n, fun b o e _ => ?_, fun b xs e => ?_, fun b o u e => ?_, fun b qs e => ?_⟩ fun b u e => ?_
  · by_cases z : b = P
    · subst z; exact ⟨_, hP'⟩
    · exact ⟨o, he b o z e⟩
  · have z : b ≠ P := fun z => by rw [z, hP] at e; cases e
    rw [upd_ne z]; exact e
  · have z : b ≠ P := fun z => by rw [z, hP] at e; cases e
    rw [upd_ne z]; exact e
  · by_cases z : b = P
    · subst z
      rw [hP] at e; cases e
      exact ⟨more, upd_same⟩
    · exact ⟨#[], by rw [upd_ne z, e]; simp⟩
  · by_cases z : b = P
    · subst z
      rw [upd_same] at e; cases e
      exact hP'
    · rw [upd_ne z] at e
      refine (I.hok b u e).stay (fun c v hc q => he c v ?_ q) (fun c q => ?_) fun c xs q => ?_
      · rcases hc with rfl | hc
        · exact z
        · exact fun w => by rw [w, hP] at hc; cases hc
      · have w : c ≠ P := fun w => by rw [w, hP] at q; cases q
        rw [upd_ne w]; exact q
      · have w : c ≠ P := fun w => by rw [w, hP] at q; cases q
        rw [upd_ne w]; exact q
end
section
variable {K : PySem.W.Frag} {bs : Md} {F : Fr} {σ : St} {H I : Hp} {ρ : Ev}
theorem Rl.table (R : Rl K bs F σ H I ρ) {x : Str} {c P : Addr} {ps : Array Value} (hx : x ∈ bs.tn) (ht : PySem.W.tabIn K x = some (c, P)) (hp : TabOk I ps) : Rl K bs F σ (upd H P (.tbl ps)) I ρ := by
  obtain ⟨⟨ps0, t1, t2⟩, t3, t4⟩ := R.tab.1 x hx c P ht
  refine ⟨fun b u e => ?_, fun b u e => ?_, R.dis, R.sz, R.val, fun i d q hi => ?_, R.inj, R.len, R.anc, ⟨fun y hy c' P' e => ?_, R.tab.2⟩⟩
  · have z : b ≠ P := fun z => by rw [z, t3] at e; cases e
    rw [upd_ne z]; exact R.sub b u e
  · have z : b ≠ P := fun z => by rw [z, t4] at e; cases e
    rw [upd_ne z]; exact R.frm b u e
  · obtain ⟨a, h1, h2, h3, h4⟩ := R.box i d q hi
    have z : a ≠ P := fun z => by
      cases d with
      | list ds => obtain ⟨xs, q, _⟩ := h2; rw [z, t1] at q; cases q
      | dict kvs => obtain ⟨kv, q, r⟩ := h2; rw [z, t1] at q; cases q; exact False.elim r
      | str x => obtain ⟨_, _, q⟩ := h2; rw [z, t1] at q; cases q
      | _ => exact h2.elim
    exact ⟨a, h1, h2.up (Same.refl I) (upd_ne z), h3, h4⟩
  · obtain ⟨⟨ps', u1, u2⟩, u3, u4⟩ := R.tab.1 y hy c' P' e
    by_cases z : P' = P
    · subst z; exact ⟨⟨ps, upd_same, hp⟩, u3, u4⟩
    · exact ⟨⟨ps', by rw [upd_ne z]; exact u1, u2⟩, u3, u4⟩
end
section
variable {X : Cx} {pins : List (Addr × Obj)} {σ : St} {H : Hp} {s : Shared} {E : Value → Shared → Prop}
theorem gen_code {c P : Addr} {ps : Array Value} {gpos : Pos} {qual : Str} {scope : Scope} {Q : Value → Shared → Prop} (I : Inv X pins σ H s) (hcd : PySem.W.CodeHd X.base c P) (hcode : X.env.code = .ref c) (hP : H P = some (.tbl ps)) (ht : TriplesOk ps.toList)
    (h : ∀ code s' ps', TriplesOk ps'.toList → (ps' = ps ∨ ∃ c', ps' = ps ++ #[rawInt gpos.line, rawInt gpos.col, c']) → Inv X pins σ (upd H P (.tbl ps')) s' → s'.gens = s.gens → s.heap.objs.size ≤ s'.heap.objs.size → (∀ b o, b ≠ P → s.heap.get? b = some o → s'.heap.get? b = some o) → Q code s') : wpAny (model X.prog X.w) X.A (genexprCode X.env gpos qual scope) Q E s := by
  have C : PySem.W.CodeHd s.heap c P := hcd.keeps I.bk
  have hPo : s.heap.get? P = some (PySem.W.tabObj ps) := I.hok P _ hP
  have hok := C.code hPo ht
  cases e : codeAmong gpos ps.toList with
  | some cv =>
    have eH : upd H P (.tbl ps) = H := by
      funext b
      by_cases z : b = P
      · subst z; rw [upd_same, hP]
      · rw [upd_ne z]
    exact wpAny_genexprCode_hit hcode hok e (h cv s ps ht (.inl rfl) (by rw [eH]; exact I) rfl (Nat.le_refl _) fun _ _ _ q => q)
  | none =>
    refine wpAny_genexprCodeX hcode hok (C.tab hPo) e fun c' h' tk he h1 h2 h3 h4 h5 h6 => ?_
    have hsz : s.heap.objs.size ≤ h'.objs.size := by omega
    refine h _ _ (ps ++ #[rawInt gpos.line, rawInt gpos.col, .ref c']) ?_ (.inr ⟨_, rfl⟩) (I.table (more := #[rawInt gpos.line, rawInt gpos.col, .ref c']) hP he h5.2) rfl hsz fun b o z q => he b o z q
    obtain ⟨_, _, _, _, _, _, _, _, _, _, _, _, _, _, _, _, _, _, _, z, _⟩ := h3
    exact z
structure GenOk (N : List Str) (sc scope : Scope) (own : List (Str × Nat)) : Prop where
  blk : BlkOk N sc scope own
  co : scope.isCoroutine = false
  nc : ∀ y ∈ scope.names, y.2 ≠ .cell
  zero : scope.names.lookup (".0" : Str) = some NameKind.local
abbrev Cx.gen (X : Cx) (A : Around) (s : Shared) (H : Hp) (scope : Scope) (cenv : Env) (fp : List Addr) : Cx := { X with A := A, s_0 := s, H_0 := H, env := cenv, outer := X.stack, stack := cenv :: X.stack, ex := fp, fn := fun x => scope.names.lookup x == some .cell, pn := [], xe := fun _ _ => False }
theorem gen_start {scope : Scope} {own : List (Str × Nat)} {fp : List Addr} {code : Value} {A : Around} {h' : Heap} {it : Value} {g' : Array GenState} {tk : Nat} {go : Obj} (I : Inv X pins σ H s) (ok : GenOk X.N X.env.scope scope own) (hN : X.N.Nodup) (hfp : ∀ b ∈ fp, FpOk X pins H b ∧ b < s.heap.objs.size)
    (hA : A.handled = none) (hF : A.frames = some (genEnv scope (cloFrom X.env.cells scope.names []) s.heap.objs.size code builtinsNs X.env :: X.stack)) (hg : AllBare g') (hgo : ∀ v, go.data ≠ .cell v) (hgf : go.isFreed = false)
    (hns : h'.Ns s.heap.objs.size (fun y => if y = ".0" then some it else none)) (hsb : Heap.SameBut s.heap.objs.size (s.heap.push { cls := .type "frame", data := .dict #[] }) h') :
    Inv (X.gen A s H scope (genEnv scope (cloFrom X.env.cells scope.names []) s.heap.objs.size code builtinsNs X.env) fp) [(h'.objs.size, go)] (wipe σ (own.map (·.2))) H { s with heap := h'.push go, gens := g', toks := tk } := by
  have hfree : ∀ y ∈ scope.names, y.2 = .free → ∃ c, X.env.cells.lookup y.1 = some c := fun y hy e => by
    rcases ok.blk.free y hy e with k | k
    · exact I.ok.has _ (.inl k)
    · exact I.ok.has _ (.inr k)
  have hsz : h'.objs.size = s.heap.objs.size + 1 := by rw [hsb.1, Heap.size_push]
  have kp : ∀ b o, s.heap.get? b = some o → (h'.push go).get? b = some o := fun b o e => Heap.get?_push_of_some _ (hsb.extBut b o (Nat.ne_of_lt (Heap.lt_size e)) (Heap.get?_push_of_some _ e))
  have cm : ∀ {y c}, (y, c) ∈ cloFrom X.env.cells scope.names [] → X.env.cells.lookup y = some c ∧ c < s.heap.objs.size := fun {y c} hm => by
    rcases cloFrom_mem hm with hm | ⟨h1, rfl⟩
    · cases hm
    · obtain ⟨c, hc⟩ := hfree _ h1 rfl
      rw [hc]
      obtain ⟨w, z⟩ := I.cell _ _ hc
      exact ⟨rfl, z.lt⟩
  have mem : ∀ {y c}, (cloFrom X.env.cells scope.names []).lookup y = some c → X.env.cells.lookup y = some c ∧ c < s.heap.objs.size := fun e => cm (PySem.mem_of_lookup e)
  have look : ∀ {y}, scope.names.lookup y = some .free → ∃ c, (cloFrom X.env.cells scope.names []).lookup y = some c ∧ X.env.cells.lookup y = some c := fun {y} hl => by
    have hy : (y, NameKind.free) ∈ scope.names := PySem.mem_of_lookup hl
    obtain ⟨c', e'⟩ := mem_lookup (cloFrom_has (cells := X.env.cells) (acc := []) hy)
    exact ⟨c', e', (mem e').1⟩
  have okB : (X.gen A s H scope (genEnv scope (cloFrom X.env.cells scope.names []) s.heap.objs.size code builtinsNs X.env) fp).Ok := by
    refine ⟨I.ok.mod, ok.blk.kind, I.ok.glob, rfl, Nat.le_refl _, fun y z c e1 e2 => ?_, fun y hy => ?_, fun y c z e => ?_, fun _ => hA, hF, .inr ⟨rfl, rfl⟩, fun b hb => ⟨?_, fun y c e z => ?_⟩, I.bs, Nat.le_trans I.ok.bsz I.sz, fun b o e hb => ?_, fun b hb z => ?_, I.stack, I.stkFree⟩
    · exact I.ok.inj y z c (mem e1).1 (mem e2).1
    · have hy : scope.names.lookup y = some .cell ∨ scope.names.lookup y = some .free := hy
      rcases hy with hy | hy
      · exact absurd rfl (ok.nc _ (PySem.mem_of_lookup hy))
      · obtain ⟨c, h1, _⟩ := look hy
        exact ⟨c, h1⟩
    · have z : (scope.names.lookup y == some NameKind.cell) = true := z
      have z : scope.names.lookup y = some .cell := by simpa using z
      exact absurd rfl (ok.nc _ (PySem.mem_of_lookup z))
    · exact Nat.ne_of_lt (hfp b hb).2
    · exact (hfp b hb).1.2.2.2.2.1 y c (mem e).1 z
    · rcases (hfp b hb).1.2.2.2.1 with z | z
      · exact I.ok.noex b o e z
      · exact absurd (Nat.lt_of_lt_of_le (Heap.lt_size e) (Nat.le_trans I.ok.bsz z)) (Nat.lt_irrefl _)
    · rcases List.mem_cons.mp (I.stkSub b z) with z | z
      · exact (hfp b hb).1.2.1 z
      · exact (hfp b hb).1.2.2.1 z
  refine ⟨okB, rfl, hg, Un.kept kp, ⟨_, hns.push _, fun i y av e1 e2 e3 => ?_⟩, fun y c e => ?_, I.hok.fresh (Nat.le_refl _), fun y c e => ?_, fun p hp => ?_, I.hok.kept kp, by rw [wipe_length]; exact I.len⟩
  · obtain ⟨e2, hne⟩ := wipe_some e2
    have e3 : Vis scope y := e3
    have hfr : scope.names.lookup y = some .free := by
      have no : ∀ k, scope.names.lookup y = some k → k = .local ∨ k = .cell → False := fun k hk hh => by
        rcases ok.blk.own _ (PySem.mem_of_lookup hk) hh with e' | e'
        · obtain ⟨p, hp, hpy⟩ := List.mem_map.mp e'
          have e3 := ok.blk.ix p hp
          have : p.1 = y := hpy
          rw [this] at e3
          exact hne (List.mem_map.mpr ⟨p, hp, nodup_ix hN e3 e1⟩)
        · exact e' (List.mem_of_getElem? e1)
      rcases e3 with e3 | e3 | e3
      · exact (no _ e3 (.inl rfl)).elim
      · exact (no _ e3 (.inr rfl)).elim
      · exact e3
    obtain ⟨m, hn, hl⟩ := I.loc
    have hvis : Vis X.env.scope y := (ok.blk.free _ (PySem.mem_of_lookup hfr) rfl).elim (fun k => .inr (.inl k)) (fun k => .inr (.inr k))
    obtain ⟨w, r, q⟩ := hl i y av e1 e2 hvis
    refine ⟨w, r, .inr ⟨.inr hfr, ?_⟩⟩
    obtain ⟨c, h1, h2⟩ := look hfr
    rcases q with ⟨k, _⟩ | ⟨_, c', e', z⟩
    · have k : X.env.scope.names.lookup y = some .local := k
      rcases ok.blk.free _ (PySem.mem_of_lookup hfr) rfl with k' | k' <;> rw [show X.env.scope.names.lookup y = _ from k'] at k <;> cases k
    · rw [h2] at e'; cases e'
      exact ⟨c, h1, z.keeps kp⟩
  · obtain ⟨w, z⟩ := I.cell y c (mem e).1
    exact ⟨w, z.keeps kp⟩
  · exact I.freeC y c (mem e).1
  · have e : p = (h'.objs.size, go) := by simpa using hp
    subst e
    refine ⟨Heap.get?_push_size _ hgf, I.hok.fresh (by rw [hsz]; exact Nat.le_succ _), ?_, fun z => ?_, hgo⟩
    · show h'.objs.size ≠ s.heap.objs.size
      rw [hsz]; exact Nat.succ_ne_self _
    · have z : h'.objs.size ∈ frs X.stack := z
      rcases List.mem_cons.mp (I.stkSub _ z) with z | z
      · have z : h'.objs.size = X.env.locals := z
        have h1 := I.lt
        rw [← z, hsz] at h1
        exact absurd (Nat.lt_of_succ_lt h1) (Nat.lt_irrefl _)
      · exact I.nofs (by rw [hsz]; exact Nat.le_succ _) z
end
end L2
namespace L2
open PySem PySem.Spec PyProof.Rows
theorem setGen_size (s : Shared) (g : Nat) (x : GenState) : (s.setGen g x).gens.size = s.gens.size := by simp [Shared.setGen]
theorem runs_gens {M : Model} {Γ : PySem.Ctx} {p : Pos} {t : Sem Fin} {fs : List Frame} {s s' : Shared} {e : End} (h : Runs M Γ p t fs s e s') : s.gens.size ≤ s'.gens.size := by
  induction h <;> (try simp only [setGen_size, Array.size_push] at *) <;> omega
theorem wakes_gens {M : Model} {Γ : PySem.Ctx} {p : Pos} {g : Nat} {r : Resume} {s s' : Shared} {res : GenResult} (h : Wakes M Γ p g r s res s') : s.gens.size ≤ s'.gens.size := by
  unfold Wakes at h
  split at h
  · exact h.elim
  · split at h
    · obtain ⟨e1, s1, h1, _, _, rfl⟩ := h
      have := runs_gens h1
      simp only [setGen_size] at *; omega
    · obtain ⟨_, rfl⟩ := h; exact Nat.le_refl _
    · obtain ⟨_, rfl⟩ := h; simp only [setGen_size]; exact Nat.le_refl _
  · obtain ⟨e1, s1, h1, _, _, rfl⟩ := h
    have := runs_gens h1
    simp only [setGen_size] at *; omega
  · obtain ⟨_, rfl⟩ := h; exact Nat.le_refl _
  · obtain ⟨_, rfl⟩ := h; exact Nat.le_refl _
theorem wp_gens {M : Model} {Γ : PySem.Ctx} {α : Type} (n : Nat) : ∀ (m : Sem α) (Q : α → Pos → Shared → Prop) (E : Value → Pos → Shared → Prop) (p : Pos) (s : Shared), n ≤ s.gens.size → Sem.wp M Γ m Q E p s →
    Sem.wp M Γ m (fun a p s' => Q a p s' ∧ n ≤ s'.gens.size) (fun e p s' => E e p s' ∧ n ≤ s'.gens.size) p s := by
  intro m
  induction m with
  | pure a => intro Q E p s hn h; rw [Sem.wp] at h ⊢; exact ⟨h, hn⟩
  | raise a => intro Q E p s hn h; rw [Sem.wp] at h ⊢; exact ⟨h, hn⟩
  | unsupported a => intro Q E p s hn h; rw [Sem.wp] at h; exact h.elim
  | finish a => intro Q E p s hn h; rw [Sem.wp] at h; exact h.elim
  | rule t k ih => intro Q E p s hn h; rw [Sem.wp] at h ⊢; exact ih () Q E p s hn h
  | «at» t k ih => intro Q E p s hn h; rw [Sem.wp] at h ⊢; exact ih () Q E _ s hn h
  | load a part k ih => intro Q E p s hn h; rw [Sem.wp] at h ⊢; obtain ⟨o, h1, h2⟩ := h; exact ⟨o, h1, ih o Q E p s hn h2⟩
  | update a part f k ih => intro Q E p s hn h; rw [Sem.wp] at h ⊢; exact ⟨h.1, ih () Q E p _ hn h.2⟩
  | loadIfAlive a k ih => intro Q E p s hn h; rw [Sem.wp] at h ⊢; exact ih _ Q E p s hn h
  | point l k ih => intro Q E p s hn h; rw [Sem.wp] at h ⊢; exact ih _ Q E p s hn h
  | register a k ih => intro Q E p s hn h; rw [Sem.wp] at h; exact h.elim
  | alloc o k ih => intro Q E p s hn h; rw [Sem.wp] at h ⊢; exact ih _ Q E p _ hn h
  | fresh k ih => intro Q E p s hn h; rw [Sem.wp] at h ⊢; exact ih _ Q E p _ hn h
  | ask k ih => intro Q E p s hn h; rw [Sem.wp] at h ⊢; exact ih _ Q E p _ hn h
  | choose src n k ih => intro Q E p s hn h; rw [Sem.wp] at h ⊢; exact ⟨h.1, ih _ Q E p _ hn h.2⟩
  | os q l k ih => intro Q E p s hn h; rw [Sem.wp] at h ⊢; exact ih _ Q E p _ hn h
  | call c hh g l k ih =>
    intro Q E p s hn h
    rw [Sem.wp] at h ⊢
    obtain ⟨r, s', h1, h2⟩ := h
    exact ⟨r, s', h1, ih r Q E p s' (Nat.le_trans hn (runs_gens h1)) h2⟩
  | handled own k ih => intro Q E p s hn h; rw [Sem.wp] at h ⊢; exact ih _ Q E p _ hn h
  | genState g k ih => intro Q E p s hn h; rw [Sem.wp] at h ⊢; obtain ⟨st, h1, h2⟩ := h; exact ⟨st, h1, ih _ Q E p s hn h2⟩
  | newGen c k ih => intro Q E p s hn h; rw [Sem.wp] at h ⊢; exact ih _ Q E p _ (by rw [Array.size_push]; omega) h
  | resume g r l k ih =>
    intro Q E p s hn h
    rw [Sem.wp] at h ⊢
    obtain ⟨res, s', h1, h2⟩ := h
    exact ⟨res, s', h1, ih res Q E p s' (Nat.le_trans hn (wakes_gens h1)) h2⟩
  | yield v g l k ih => intro Q E p s hn h; rw [Sem.wp] at h; exact h.elim
  | stack k ih => intro Q E p s hn h; rw [Sem.wp] at h ⊢; exact ih _ Q E p _ hn h
  | fork => intro Q E p s hn h; rw [Sem.wp] at h; exact h.elim
  | thread k ih => intro Q E p s hn h; rw [Sem.wp] at h ⊢; exact ih _ Q E p _ hn h
  | await => intro Q E p s hn h; rw [Sem.wp] at h; exact h.elim
theorem wpAny_gens {M : Model} {A : Around} {α : Type} {m : Sem α} {Q : α → Shared → Prop} {E : Value → Shared → Prop} {s : Shared} (h : wpAny M A m Q E s) : wpAny M A m (fun a s' => Q a s' ∧ s.gens.size ≤ s'.gens.size) E s := by
  intro Γ p hΓ
  exact Sem.wp_mono M Γ m (fun _ _ _ q => q) (fun _ _ _ q => q.1) p s (wp_gens s.gens.size m _ _ p s (Nat.le_refl _) (h Γ p hΓ))
end L2
namespace L2
open PySem PySem.Spec PyProof.Rows
theorem AllBare.set {G : Array GenState} (h : AllBare G) (g : Nat) {y : GenState} (hy : y.bare = true) : AllBare (G.setIfInBounds g y) := fun z hz => by
  obtain ⟨i, hi, rfl⟩ := Array.mem_iff_getElem.mp hz
  rw [Array.getElem_setIfInBounds (by simpa using hi)]
  split
  · exact hy
  · exact h _ (Array.getElem_mem _)
theorem setGen_self {s : Shared} {g : Nat} {y : GenState} (h : g < s.gens.size) : (s.setGen g y).gens[g]? = some y := by
  simp [Shared.setGen, Array.getElem?_setIfInBounds, h]
section
variable {X : Cx}
def tGn (st : Bool) (wi : TI) (g : TG) (tt : TT) (te : TE) (vs : List Nat) (P : Addr) (gp : Pos) : TE := fun σ H Q => wi σ H fun J H1 => ∃ ps, H1 P = some (.tbl ps) ∧ TriplesOk ps.toList ∧ ∀ ps', TriplesOk ps'.toList → (ps' = ps ∨ ∃ c', ps' = ps ++ #[rawInt gp.line, rawInt gp.col, c']) → ∃ W : Nat → Nat → Hp → Prop, (∃ m, W 0 m (upd H1 P (.tbl ps'))) ∧ ∀ i m H, W i m H →
  (J.stop i H ∧ Q (.bl (!st)) H) ∨ (J.go i H ∧ ∃ Nx : Hp → Prop, (∀ H', Nx H' → ∃ m', m' < m ∧ W (i + 1) m' H') ∧ ∀ x H', J.yld i H x H' → g x (wipe σ vs) H' fun σ2 H2 => wipe σ2 vs = wipe σ vs ∧ tt σ2 H2 fun b H3 =>
    if b = true then te σ2 H3 fun y H4 => ∃ b, y = .bl b ∧ (if b = st then Q (.bl st) H4 else Nx H4) else Nx H3)
abbrev Cx.gn (X : Cx) (s : Shared) (H : Hp) (scope : Scope) (cl : List (Str × Addr)) (C : Addr) (code : Value) (fp : List Addr) : Cx :=
  X.gen (X.A.in1.in1.deeper (genEnv scope cl C code builtinsNs X.env)) s H scope (genEnv scope cl C code builtinsNs X.env) fp
def gnY (GX : Cx) (pl : List (Addr × Obj)) (st : Bool) (Qh : V → Hp → Prop) : Protocol := fun _ _ v s1 k => ∃ σ H b, Inv GX pl σ H s1 ∧ v = .bool b ∧ (if b = st then Qh (.bl st) H else ∀ G, AllBare G → k (.send .none) { s1 with gens := G })
def gnR (GX : Cx) (pl : List (Addr × Obj)) (st : Bool) (Qh : V → Hp → Prop) : GenEnd := fun _ _ r s1 => r = .ok .next ∧ ∃ σ H, Inv GX pl σ H s1 ∧ Qh (.bl (!st)) H
theorem over_gen {A : Around} {elt iter tg : Expr} {ifs : List Expr} {scope : Scope} {pos : Pos} {it acc : Value} {cenv : Env} : A.over (.compLoop (.GeneratorExp elt [⟨tg, iter, ifs, 0⟩] scope pos) 0 it acc cenv) [] = A.deeper cenv := by
  obtain ⟨a, b, c, d, e⟩ := A
  cases c <;> rfl
theorem over_genS {A : Around} {elt iter tg : Expr} {ifs : List Expr} {scope : Scope} {pos : Pos} {it acc : Value} {cenv : Env} : A.over (.compStart (.GeneratorExp elt [⟨tg, iter, ifs, 0⟩] scope pos) 0 it acc cenv) [] = A.deeper cenv := by
  obtain ⟨a, b, c, d, e⟩ := A
  cases c <;> rfl
theorem seg_bw {M : Model} {A A' : Around} {R : GenEnd} {Y : Protocol} {n : Nat} {s0 : Shared} {c : Code} {fs : List Frame} {s : Shared} {α β : Type} {m : Sem α} {K : α → Sem β} {K' : β → Sem PySem.Fin} {H' : Value → Sem PySem.Fin} {gd lv} {Q : α → Shared → Prop}
    (he : A.over c fs = A') (h : wpAny M A' m Q (fun _ _ => False) s) (k : ∀ a s', Q a s' → Seg M A R Y n s0 c ((K a).wrap K' H' gd lv) fs s') : Seg M A R Y n s0 c ((m >>= K).wrap K' H' gd lv) fs s :=
  seg_bind_wrap (by rw [he]; exact thnF h k)
theorem seg_w {M : Model} {A A' : Around} {R : GenEnd} {Y : Protocol} {n : Nat} {s0 : Shared} {c : Code} {fs : List Frame} {s : Shared} {α : Type} {m : Sem α} {K : α → Sem PySem.Fin} {H' : Value → Sem PySem.Fin} {gd lv} {Q : α → Shared → Prop}
    (he : A.over c fs = A') (h : wpAny M A' m Q (fun _ _ => False) s) (k : ∀ a s', Q a s' → Seg M A R Y n s0 c (K a) fs s') : Seg M A R Y n s0 c (m.wrap K H' gd lv) fs s :=
  seg_wrap (by rw [he]; exact thnF h k)
theorem gen_loop {elt tg iter : Expr} {ifs : List Expr} {scope : Scope} {own : List (Str × Nat)} {pos : Pos} {g : TG} {tt : TT} {te : TE} {st : Bool} {Qh : V → Hp → Prop} {σ : St} {J : It} {fp : List Addr} {it : Addr} {tn : Nat → Heap → Prop} {W : Nat → Nat → Hp → Prop}
    {s3 : Shared} {H3 : Hp} {cl : List (Str × Addr)} {C : Addr} {code : Value} {a : Addr} {go : Obj} {R : GenEnd} {Y : Protocol}
    (hc : X.calm = true) (T : Turn X.prog X.w X.K tg J fp it tn) (hco : scope.isCoroutine = false)
    (pg : PG (X.gn s3 H3 scope cl C code fp) tg g) (pt : PTs (X.gn s3 H3 scope cl C code fp) ifs tt) (pe : PE (X.gn s3 H3 scope cl C code fp) elt te)
    (hR : R = gnR (X.gn s3 H3 scope cl C code fp) [(a, go)] st Qh) (hY : Y = gnY (X.gn s3 H3 scope cl C code fp) [(a, go)] st Qh) (ha : ∀ b ∈ fp, a ≠ b)
    (turn : ∀ i m H, W i m H → (J.stop i H ∧ Qh (.bl (!st)) H) ∨ (J.go i H ∧ ∃ Nx : Hp → Prop, (∀ H', Nx H' → ∃ m', m' < m ∧ W (i + 1) m' H') ∧ ∀ x H', J.yld i H x H' → g x (wipe σ (own.map (·.2))) H' fun σ2 H2 => wipe σ2 (own.map (·.2)) = wipe σ (own.map (·.2)) ∧ tt σ2 H2 fun b H3 =>
      if b = true then te σ2 H3 fun y H4 => ∃ b, y = .bl b ∧ (if b = st then Qh (.bl st) H4 else Nx H4) else Nx H3)) :
    ∀ (m n i : Nat) (s0 s5 : Shared) (H5 : Hp), m < n → Inv (X.gn s3 H3 scope cl C code fp) [(a, go)] (wipe σ (own.map (·.2))) H5 s5 → tn i s5.heap → (∀ b ∈ fp, H5 b = none) → W i m H5 →
      Seg (model X.prog X.w) X.A.in1.in1 R Y n s0 (.compLoop (.GeneratorExp elt [⟨tg, iter, ifs, 0⟩] scope pos) 0 (.ref it) .none (genEnv scope cl C code builtinsNs X.env))
        ((model X.prog X.w).den (.compLoop (.GeneratorExp elt [⟨tg, iter, ifs, 0⟩] scope pos) 0 (.ref it) .none (genEnv scope cl C code builtinsNs X.env))) [] s5 := by
  subst hR hY
  have stat : ∀ {σ' : St} {H' : Hp} {s' : Shared}, Inv (X.gn s3 H3 scope cl C code fp) [(a, go)] σ' H' s' → (∀ b ∈ fp, H' b = none) → ∀ b ∈ fp, FpOk (X.gn s3 H3 scope cl C code fp) [(a, go)] H' b := fun {σ' H' s'} I' hn b hb =>
    ⟨hn b hb, (I'.ok.exf b hb).1, I'.ok.exfs b hb, .inl hb, fun x c e => (I'.ok.exf b hb).2 x c e, fun p hp => by
      have e : p = (a, go) := by simpa using hp
      subst e; exact ha b hb⟩
  intro m
  induction m using Nat.strongRecOn with
  | ind m ih =>
    intro n i s0 s5 H5 hmn I5 st5 n5 w5
    show Seg _ X.A.in1.in1 _ _ n s0 _ ((compTurn (.GeneratorExp elt [⟨tg, iter, ifs, 0⟩] scope pos) 0 (.ref it) .none (genEnv scope cl C code builtinsNs X.env)).onRaise (leaving (genEnv scope cl C code builtinsNs X.env))) [] s5
    rw [compTurn_gen, Sem.onRaise_eq_wrap]
    refine seg_bind_wrap (wpAny_standAt ?_)
    rcases turn i m H5 w5 with ⟨stop, qq⟩ | ⟨go', Nx, hNx, step⟩
    · have td := T.done (X.gn s3 H3 scope cl C code fp) rfl rfl rfl hc i [(a, go)] s5 _ H5 (fun _ _ => False) I5 (stat I5 n5) st5 stop
      refine seg_bw over_gen td fun r s6 ⟨hr, I6⟩ => ?_
      subst hr
      exact seg_end (.ok .next) ⟨rfl, _, H5, I6, qq⟩
    · have ti := T.item (X.gn s3 H3 scope cl C code fp) rfl rfl rfl hc i [(a, go)] s5 _ H5 (fun _ _ => False) I5 (stat I5 n5) st5 go'
      refine seg_bw over_gen ti fun r s6 ⟨u, hr, h6⟩ => ?_
      subst hr
      refine seg_bw over_gen h6 fun _ s7 ⟨x, H7, I7, r7, y7, st7, n7⟩ => ?_
      have I7' := I7.pinned (stat I7 n7) (T.obj _ _ st7)
      refine seg_bw over_gen (pg _ s7 _ H7 x u _ I7' r7 (step x H7 y7)) fun _ s8 ⟨σ8, H8, I8, hw8, q8⟩ => ?_
      refine seg_bw over_gen (pt _ s8 σ8 H8 _ I8 q8) fun b s9 ⟨H9, I9, q9⟩ => ?_
      have fin : ∀ {s' : Shared} {H' : Hp} (s0' : Shared) (k : Nat), Inv (X.gn s3 H3 scope cl C code fp) ([(a, go)] ++ pinsAt fp s7.heap) σ8 H' s' → Nx H' → (∀ m', m' < m → m' < k) →
          Seg (model X.prog X.w) X.A.in1.in1 (gnR (X.gn s3 H3 scope cl C code fp) [(a, go)] st Qh) (gnY (X.gn s3 H3 scope cl C code fp) [(a, go)] st Qh) k s0' (.compLoop (.GeneratorExp elt [⟨tg, iter, ifs, 0⟩] scope pos) 0 (.ref it) .none (genEnv scope cl C code builtinsNs X.env))
            ((model X.prog X.w).den (.compLoop (.GeneratorExp elt [⟨tg, iter, ifs, 0⟩] scope pos) 0 (.ref it) .none (genEnv scope cl C code builtinsNs X.env))) [] s' := fun {s' H'} s0' k I' nx hk => by
        obtain ⟨m', hm, w'⟩ := hNx H' nx
        have pin' : ∀ b ∈ fp, ∀ o, s7.heap.get? b = some o → s'.heap.get? b = some o ∧ H' b = none := fun b hb o e =>
          let z := I'.pin (b, o) (List.mem_append_right _ (List.mem_append_right _ (mem_pinsAt hb e)))
          ⟨z.1, z.2.1⟩
        have hl : (wipe σ (own.map (·.2))).length = σ8.length := by rw [← hw8, wipe_length]
        refine ih m' hm k (i + 1) s0' s' H' (hk m' hm) ((I'.unpinned (pins := [(a, go)])).weak hl (fun j v e => ?_)) (T.keep _ _ _ st7 fun b hb o e => (pin' b hb o e).1) (fun b hb => ?_) w'
        · rw [← hw8] at e
          exact (wipe_some e).1
        · obtain ⟨o, e, _⟩ := T.obj _ _ st7 b hb
          exact (pin' b hb o e).2
      cases b with
      | false =>
        simp only [Bool.false_eq_true, if_false] at q9 ⊢
        exact seg_again rfl (fin s0 n I9 q9 fun m' hm => Nat.lt_trans hm hmn)
      | true =>
        simp only [if_true] at q9 ⊢
        have hy : ∀ v, yieldOut (genEnv scope cl C code builtinsNs X.env) v = yieldValue v := fun v => by simp only [yieldOut, show (genEnv scope cl C code builtinsNs X.env).scope.isCoroutine = false from hco, Bool.false_eq_true, if_false]
        simp only [hy]
        rw [Sem.bind_eq_wrap', Sem.bind_eq_wrap', Sem.wrap_wrap, Sem.wrap_wrap]
        refine seg_w over_gen (pe _ s9 σ8 H9 _ I9 q9) fun z s10 ⟨yv, H10, I10, r10, bb, hbb, nx⟩ => ?_
        subst hbb
        cases r10
        obtain ⟨n', rfl⟩ : ∃ n', n = n' + 1 := ⟨n - 1, by omega⟩
        refine seg_at (seg_yield rfl rfl rfl ⟨σ8, H10, bb, I10.unpinned (pins := [(a, go)]), rfl, ?_⟩)
        by_cases e : bb = st
        · rw [if_pos e] at nx ⊢; exact nx
        · rw [if_neg e] at nx ⊢
          exact fun G hG => seg_again rfl (fin _ n' (I10.gensTo hG) nx fun m' hm => by omega)
end
end L2
namespace L2
open PySem PySem.Spec PyProof.Rows
section
variable {X : Cx}
def genGo (X : Cx) (R : GenEnd) (Y : Protocol) (n : Nat) (gs' : GenState) (s' : Shared) : Prop := match n with
  | 0 => False
  | m + 1 => ∀ G, AllBare G → gs'.Goes (model X.prog X.w) X.A.in1.in1 R Y m (.send .none) { s' with gens := G }
theorem gen_next {st : Bool} {Qh : V → Hp → Prop} {GX : Cx} {a : Addr} {go : Obj} {g : Nat} {nm qn : Value} {E : Value → Shared → Prop}
    (hh : X.A.handled = none) (hroom : X.A.depth < recursionLimit) (hgo : go.cls = .type "generator" ∧ go.data = .fields #[.int g 0, nm, qn] ∧ go.slots = #[])
    (hnl : ∀ σ H s, Inv GX [(a, go)] σ H s → s.heap.NoLimit) (n : Nat) (s : Shared) (gs : GenState) (σ : St) (H : Hp) (I : Inv GX [(a, go)] σ H s) (hgs : s.gens[g]? = some gs)
    (hgoes : ∀ G, AllBare G → gs.Goes (model X.prog X.w) X.A.in1.in1 (gnR GX [(a, go)] st Qh) (gnY GX [(a, go)] st Qh) n (.send .none) { s with gens := G }) :
    wpAny (model X.prog X.w) X.A.in1 (pyNext (.ref a)) (fun r s' => (match r with
        | some v => ∃ σ' H' b, Inv GX [(a, go)] σ' H' s' ∧ v = .bool b ∧ (if b = st then Qh (.bl st) H' else ∃ gs', s'.gens[g]? = some gs' ∧ genGo X (gnR GX [(a, go)] st Qh) (gnY GX [(a, go)] st Qh) n gs' s')
        | none => ∃ σ' H' s1 h' G, Inv GX [(a, go)] σ' H' s1 ∧ Qh (.bl (!st)) H' ∧ (∀ c o, s1.heap.get? c = some o → h'.get? c = some o) ∧ AllBare G ∧ s' = { s1 with heap := h', gens := G })) E s := by
  have hG : s.heap.IsGen a g := ⟨go, nm, qn, (I.pin (a, go) (List.mem_append_right _ (List.mem_singleton.mpr rfl))).1, hgo⟩
  have hlt : g < s.gens.size := by
    rcases Nat.lt_or_ge g s.gens.size with h | h
    · exact h
    · rw [Array.getElem?_eq_none h] at hgs; cases hgs
  have nx : wpAny (model X.prog X.w) X.A.in1 (pyNext (.ref a)) (fun r s' => (match r with
      | some v => ∃ σ' H' b, Inv GX [(a, go)] σ' H' s' ∧ v = .bool b ∧ (if b = st then Qh (.bl st) H' else ∃ gs', (g < s'.gens.size → s'.gens[g]? = some gs') ∧ genGo X (gnR GX [(a, go)] st Qh) (gnY GX [(a, go)] st Qh) n gs' s')
      | none => ∃ σ' H' s1 h' G, Inv GX [(a, go)] σ' H' s1 ∧ Qh (.bl (!st)) H' ∧ (∀ c o, s1.heap.get? c = some o → h'.get? c = some o) ∧ AllBare G ∧ s' = { s1 with heap := h', gens := G }) ∧ s.gens.size ≤ s'.gens.size) E s := by
    refine wpAny_gens (wpAny_pyNext_genexpQ (P := fun _ _ s1 => ∃ σ H, Inv GX [(a, go)] σ H s1 ∧ Qh (.bl (!st)) H) (A := X.A.in1) hh (hnl _ _ _ I) hroom hG hgs (hgoes _ (AllBare.set I.bare g rfl)) ?_ ?_)
    · rintro v s1 gs' hb ⟨σ1, H1, b, I1, hv, q⟩
      refine ⟨σ1, H1, b, I1.gensTo (AllBare.set I1.bare g hb), hv, ?_⟩
      by_cases e : b = st
      · rw [if_pos e] at q ⊢; exact q
      · rw [if_neg e] at q ⊢
        refine ⟨gs', fun z => setGen_self (by rw [setGen_size] at z; exact z), ?_⟩
        cases n with
        | zero => exact q _ AllBare.empty
        | succ n => exact fun G hG => q G hG
    · rintro s1 ⟨σ1, H1, I1, q⟩ h' hk
      exact ⟨σ1, H1, s1, h', _, I1, q, hk, AllBare.set I1.bare g rfl, rfl⟩
  refine wpAny_mono nx (fun r s' h => ?_) fun _ _ e => e
  obtain ⟨h, hsz⟩ := h
  cases r with
  | none => exact h
  | some v =>
    obtain ⟨σ', H', b, I', hv, q⟩ := h
    refine ⟨σ', H', b, I', hv, ?_⟩
    by_cases e : b = st
    · rw [if_pos e] at q ⊢; exact q
    · rw [if_neg e] at q ⊢
      obtain ⟨gs', h1, h2⟩ := q
      exact ⟨gs', h1 (Nat.lt_of_lt_of_le hlt hsz), h2⟩
theorem all_eat {Qh : V → Hp → Prop} {GX : Cx} {a : Addr} {go : Obj} {g : Nat} {nm qn : Value} {Q : Value → Shared → Prop} {E : Value → Shared → Prop}
    (hh : X.A.handled = none) (hroom : X.A.depth < recursionLimit) (hgo : go.cls = .type "generator" ∧ go.data = .fields #[.int g 0, nm, qn] ∧ go.slots = #[])
    (hnl : ∀ σ H s, Inv GX [(a, go)] σ H s → s.heap.NoLimit)
    (hfin : ∀ σ H s b h', Inv GX [(a, go)] σ H s → Qh (.bl b) H → (∀ c o, s.heap.get? c = some o → h'.get? c = some o) → ∀ G, AllBare G → Q (.bool b) { s with heap := h', gens := G }) :
    ∀ (n : Nat) (s : Shared) (gs : GenState) (σ : St) (H : Hp), Inv GX [(a, go)] σ H s → s.gens[g]? = some gs → (∀ G, AllBare G → gs.Goes (model X.prog X.w) X.A.in1.in1 (gnR GX [(a, go)] false Qh) (gnY GX [(a, go)] false Qh) n (.send .none) { s with gens := G }) →
      codeAny (model X.prog X.w) X.A (.builtin "all.loop" ⟨[.ref a], []⟩) (fun r s' => match r with | .ok (.ret v) => Q v s' | .ok _ => False | .error e => E e s') s := by
  intro n
  induction n using Nat.strongRecOn with
  | ind n ih =>
    intro s gs σ H I hgs hgoes
    refine codeAny_builtin F.entry_all_loop ?_
    rw [Around.under_plainId F.plain_all_loop _]
    show wpAny _ X.A.in1 (pyNext (.ref a) >>= _) _ _ s
    refine wpAny_bind (wpAny_mono (gen_next hh hroom hgo hnl n s gs σ H I hgs hgoes) (fun r s' h => ?_) fun _ _ e => e)
    cases r with
    | none =>
      obtain ⟨σ1, H1, s1, h', G, I1, q, hk, hG, rfl⟩ := h
      exact wpAny_bind (wpAny_rule (wpAny_pure (hfin σ1 H1 s1 _ h' I1 q hk G hG)))
    | some v =>
      obtain ⟨σ1, H1, b, I1, rfl, q⟩ := h
      refine wpAny_bind (wpAny_holding (wpAny_truthy_bool ?_))
      refine wpAny_bind (wpAny_letGo ?_)
      cases b with
      | false =>
        rw [if_pos rfl] at q
        simp only [Bool.false_eq_true, if_false]
        exact wpAny_bind (wpAny_rule (wpAny_pure (hfin σ1 H1 s' _ s'.heap I1 q (fun _ _ e => e) s'.gens I1.bare)))
      | true =>
        rw [if_neg (by decide)] at q
        obtain ⟨gs', h1, h2⟩ := q
        simp only [if_true]
        cases n with
        | zero => exact h2.elim
        | succ n => exact wpAny_pure ⟨plainId_quiet F.plain_all_loop _, ih n (Nat.lt_succ_self n) s' gs' σ1 H1 I1 h1 h2⟩
end
end L2
namespace L2
open PySem PySem.Spec PyProof.Rows
def BmOk (mg : Str → Option Value) (base : Heap) : Prop := ∃ bm ob, mg "__builtins__" = some (.ref bm) ∧ bm ≠ builtinsNs ∧ base.get? bm = some ob ∧ ob.cls = .type "module" ∧ ob.dict = some builtinsNs ∧ ob.data = .plain
theorem gen_start_seg {prog : Program} {w : World} {A : Around} {R : GenEnd} {Y : Protocol} {n : Nat} {s0 s : Shared} {elt iter tg : Expr} {ifs : List Expr} {scope : Scope} {pos : Pos} {it : Addr} {cenv : Env} 
    (self : ∀ (Q : Value → Shared → Prop) (E : Value → Shared → Prop), Q (.ref it) s → wpAny (model prog w) (A.deeper cenv) (pyIter (.ref it)) Q E s)
    (loop : Seg (model prog w) A R Y n s0 (.compLoop (.GeneratorExp elt [⟨tg, iter, ifs, 0⟩] scope pos) 0 (.ref it) .none cenv) ((model prog w).den (.compLoop (.GeneratorExp elt [⟨tg, iter, ifs, 0⟩] scope pos) 0 (.ref it) .none cenv)) [] s) :
    Seg (model prog w) A R Y n s0 (.compStart (.GeneratorExp elt [⟨tg, iter, ifs, 0⟩] scope pos) 0 (.ref it) .none cenv) ((model prog w).den (.compStart (.GeneratorExp elt [⟨tg, iter, ifs, 0⟩] scope pos) 0 (.ref it) .none cenv)) [] s := by
  have self' : ∀ (Q : Value → Shared → Prop) (E : Value → Shared → Prop), Q (.ref it) s → wpAny (model prog w) (A.over (.compStart (.GeneratorExp elt [⟨tg, iter, ifs, 0⟩] scope pos) 0 (.ref it) .none cenv) []) (pyIter (.ref it)) Q E s := by rw [over_genS]; exact self
  show Seg _ A _ _ _ s0 _ ((compStart (.GeneratorExp elt [⟨tg, iter, ifs, 0⟩] scope pos) 0 (.ref it) .none cenv).onRaise (leaving cenv)) [] s
  unfold compStart
  rw [Sem.onRaise_eq_wrap]
  show Seg _ A _ _ _ s0 _ ((ask >>= _).wrap _ _ _ _) [] s
  refine seg_bind_wrap (wpAny_askSetting ?_)
  split
  · exact seg_again rfl loop
  · first
      | exact seg_bind_wrap (wpAny_rule (seg_bind_wrap (wpAny_standAt (seg_bind_wrap (self' _ _ (seg_again rfl loop))))))
      | (refine seg_bind_wrap (wpAny_rule ?_); show Seg _ A _ _ _ s0 _ ((standAt iter.pos >>= _).wrap _ _ _ _) [] s; exact seg_bind_wrap (wpAny_standAt (seg_bind_wrap (self' _ _ (seg_again rfl loop)))))
section
variable {X : Cx}
theorem pe_allgen {k : Nat} {elt tg iter : Expr} {ifs : List Expr} {scope : Scope} {own : List (Str × Nat)} {gpos pos p : Pos} {wi : TI} {g : TG} {tt : TT} {te : TE} {c P : Addr} (hc : X.calm = true) (hN : X.N.Nodup) (hr : Room k X.A) (hbm : BmOk X.mg X.base)
    (hcd : PySem.W.CodeHd X.base c P) (hcode : X.env.code = .ref c) (hm : X.mg "all" = none) (hi : PI X tg iter wi) (ok : GenOk X.N X.env.scope scope own)
    (hg : ∀ (s : Shared) (H : Hp) (C : Addr) (cl : List (Str × Addr)) (code : Value) (fp : List Addr), PG (X.gn s H scope cl C code fp) tg g) (ht : ∀ (s : Shared) (H : Hp) (C : Addr) (cl : List (Str × Addr)) (code : Value) (fp : List Addr), PTs (X.gn s H scope cl C code fp) ifs tt)
    (he : ∀ (s : Shared) (H : Hp) (C : Addr) (cl : List (Str × Addr)) (code : Value) (fp : List Addr), PE (X.gn s H scope cl C code fp) elt te) (hgl : Gl X "all") (hs : ∀ x, genFold iter X.env x = pure x) :
    PE X (.Call (.Name "all" p) [.GeneratorExp elt [⟨tg, iter, ifs, 0⟩] scope gpos] [] pos) (tGn false wi g tt te (own.map (·.2)) P gpos) := by
  intro pins s σ H Q I h
  have hfree : ∀ y ∈ scope.names, y.2 = .free → ∃ c, X.env.cells.lookup y.1 = some c := fun y hy e => by
    rcases ok.blk.free y hy e with k | k
    · exact I.ok.has _ (.inl k)
    · exact I.ok.has _ (.inr k)
  refine wpAny_Call_Name_kw (ld_blt I hgl hm (by first | rfl | decide) ?_ (by decide) (by decide))
  refine PyProof.Rows.callWith_builtin1 ?_ (by rfl) (by rfl)
  show wpAny _ _ (spliced ((false, eval (.GeneratorExp elt [⟨tg, iter, ifs, 0⟩] scope gpos) X.env) :: [])) _ _ s
  refine Calls.spliced_cons ?_
  refine wpAny_GeneratorExp_make ok.co (closure_ok hfree) ok.nc ok.zero ok.blk.kind hr.depth (thn (hi pins s σ H _ I h) fun xv s1 hx => thn hx fun itv s2 h2 => ?_) hs
  obtain ⟨it, fp, tn, J, H2, e, I2, T, st2, f2, ps, hP, hps, q⟩ := h2
  subst e
  refine ⟨I2.nolimit, gen_code I2 hcd hcode hP hps fun code s3 ps' hps' hgp' I3 hg3 hsz3 hk3 => ?_⟩
  obtain ⟨W, ⟨m0, w0⟩, turn⟩ := q ps' hps' hgp'
  obtain ⟨bm, ob, b1, b2, b3, b4, b5, b6⟩ := hbm
  have hns : s3.heap.Ns X.env.globals X.mg := by rw [I3.ok.glob]; exact I3.ok.mod.glob.keeps I3.bk
  refine wpAny_builtinsFor hns b1 b2 (I3.bk _ _ b3) b4 b5 b6 ?_
  intro h' hn' hs'
  refine Calls.spliced_nil ?_
  have fpP : ∀ b ∈ fp, b ≠ P := fun b hb z => by have := (f2 b hb).1; rw [z, hP] at this; cases this
  have szf : ∀ b ∈ fp, b < s3.heap.objs.size := fun b hb => by
    obtain ⟨o, e, _⟩ := T.obj _ _ st2 b hb
    exact Nat.lt_of_lt_of_le (Heap.lt_size e) hsz3
  have f3 : ∀ b ∈ fp, FpOk X pins (upd H2 P (.tbl ps')) b ∧ b < s3.heap.objs.size := fun b hb =>
    ⟨⟨by rw [upd_ne (fpP b hb)]; exact (f2 b hb).1, (f2 b hb).2⟩, szf b hb⟩
  have st3 : tn 0 s3.heap := T.keep _ _ _ st2 fun b hb o e => hk3 b o (fpP b hb) e
  have hsz : h'.objs.size = s3.heap.objs.size + 1 := by rw [hs'.1, Heap.size_push]
  generalize hGo : ({ cls := .type "generator", data := .fields #[.int s3.gens.size 0, .str "<genexpr>" (s3.toks + 1), .str (X.env.qual ++ "<genexpr>") (s3.toks + 1 + 1)] } : Obj) = go
  have hgo : go.cls = .type "generator" ∧ go.data = .fields #[.int s3.gens.size 0, .str "<genexpr>" (s3.toks + 1), .str (X.env.qual ++ "<genexpr>") (s3.toks + 1 + 1)] ∧ go.slots = #[] := by subst hGo; exact ⟨rfl, rfl, rfl⟩
  have hfr : go.isFreed = false := by subst hGo; rfl
  have I4 := gen_start (A := X.A.in1.in1.deeper (genEnv scope (cloFrom X.env.cells scope.names []) s3.heap.objs.size code builtinsNs X.env)) (it := .ref it) (tk := s3.toks + 1 + 1 + 1) (go := go) (code := code) I3 ok hN f3 (I3.ok.hd hc) (by show (X.A.frames.map _) = _; rw [I3.ok.frames]; rfl)
    (AllBare.push (g := .fresh (.compStart (.GeneratorExp elt [⟨tg, iter, ifs, 0⟩] scope gpos) 0 (.ref it) .none (genEnv scope (cloFrom X.env.cells scope.names []) s3.heap.objs.size code builtinsNs X.env))) I3.bare rfl) (fun v z => by rw [hgo.2.1] at z; cases z) hfr hn' hs'
  have ha : ∀ b ∈ fp, h'.objs.size ≠ b := fun b hb z => by have := szf b hb; rw [← z, hsz] at this; exact absurd (Nat.lt_of_succ_lt this) (Nat.lt_irrefl _)
  have nf3 : ∀ b ∈ fp, (upd H2 P (.tbl ps')) b = none := fun b hb => (f3 b hb).1.1
  have kp : ∀ b o, s3.heap.get? b = some o → (h'.push go).get? b = some o := fun b o e => Heap.get?_push_of_some _ (hs'.extBut b o (Nat.ne_of_lt (Heap.lt_size e)) (Heap.get?_push_of_some _ e))
  have loop := gen_loop (iter := iter) (pos := gpos) hc T ok.co (hg s3 (upd H2 P (.tbl ps')) s3.heap.objs.size (cloFrom X.env.cells scope.names []) code fp) (ht s3 (upd H2 P (.tbl ps')) s3.heap.objs.size (cloFrom X.env.cells scope.names []) code fp) (he s3 (upd H2 P (.tbl ps')) s3.heap.objs.size (cloFrom X.env.cells scope.names []) code fp)
    (a := h'.objs.size) (go := go) (Qh := Q) (st := false) (W := W) (own := own) (σ := σ) rfl rfl ha turn
  have hG : (h'.push go).IsGen h'.objs.size s3.gens.size := ⟨go, _, _, Heap.get?_push_size _ hfr, hgo⟩
  show wpAny _ X.A (call (.builtin "all") [.ref h'.objs.size]) _ _ _
  refine call_function_tree F.kind_all F.plain_all F.entry_all (F.args_all1 _) ?_
  unfold Builtin.«all»
  refine wpAny_bind (m := oneArg "all" _) (wpAny_pure ?_)
  refine wpAny_bind (wpAny_pyIter_gen hG ?_)
  refine wpAny_pure ⟨plainId_quiet F.plain_all_loop _, all_eat (X := X) (GX := X.gn s3 (upd H2 P (.tbl ps')) scope (cloFrom X.env.cells scope.names []) s3.heap.objs.size code fp) (Qh := Q) (I3.ok.hd hc) hr.depth hgo (fun _ _ _ I => I.nolimit) ?_ (m0 + 1) _ _ _ _ I4 (Array.getElem?_push_size ..) fun G hG => ⟨rfl, ?_⟩⟩
  · intro σ5 H5 s5 b h5 I5 q5 hk5 G hG
    have I7 : Inv X pins σ H5 s5 := I3.call' (ch := fp) I5.os I5.base I5.hok I5.bare fun b hb => ⟨(f3 b hb).1.2.2.2.1, (f3 b hb).1.2.1, (f3 b hb).1.2.2.2.2.1, (f3 b hb).1.2.2.2.2.2⟩
    exact ⟨.bl b, H5, (I7.kept (t' := s5.toks) hk5).gensTo hG, rfl, q5⟩
  · have st4 : tn 0 (h'.push go) := T.keep _ _ _ st3 fun b _ o e => kp b o e
    have lp := fun s0 => loop m0 (m0 + 1) 0 s0 _ _ (Nat.lt_succ_self _) (I4.gensTo hG) st4 nf3 w0
    exact gen_start_seg (fun Q E h => T.self _ 0 _ Q E st4 h) (lp _)
end
end L2
namespace L2
open PySem PySem.Spec PyProof.Rows
def gaL (st : Bool) (own : List Nat) (g : FG) (t : FT) (fe : FE) : List Dt → Ev → Option (Bool × Ev)
  | [] => fun ρ => some (!st, ρ)
  | d :: ds => fun ρ => (g d ρ).bind fun ρ1 => (t ρ1).bind fun (b, ρ2) => if b = true then (fe ρ2).bind fun (y, ρ3) => match y with
      | .bool c => if c = st then some (st, wipeE ρ3 own) else gaL st own g t fe ds (wipeE ρ3 own)
      | _ => none
      else gaL st own g t fe ds (wipeE ρ2 own)
def gaF (st : Bool) (fi : FI) (own : List Nat) (g : FG) (t : FT) (fe : FE) : FE := fun ρ => (fi ρ).bind fun (ds, ρ1) => (gaL st own g t fe ds (wipeE ρ1 own)).bind fun (b, ρ2) => some (.bool b, backE ρ1 ρ2 own)
section
variable {X : Cx} {bs : Md} {pos p gpos : Pos} {tg iter elt : Expr} {ifs : List Expr} {scope : Scope} {fi : FI} {ft : FT} {fe : FE} {js : List Nat} {fg : FG}
theorem tq_ga {K : PySem.W.Frag} {vs : List Nat} {σ : St} {H : Hp} {Q : VK} {st : Bool} {x : Str} {c P : Addr} (hx : x ∈ bs.tn) (hP : PySem.W.tabIn K x = some (c, P)) (hlc : lamCol gpos = false) (hv : ∀ v ∈ vs, v ∉ bs.bs) (hj : ∀ j ∈ js, j ∈ vs) (h : tq K bs (gaF st fi vs fg ft fe) σ H Q) :
    tGn st (tqI K bs fi) (tqG' K bs js fg) (tqT K bs ft) (tq K bs fe) vs P gpos σ H Q := by
  obtain ⟨F, I, ρ, d, ρ', R, e, k⟩ := h
  obtain ⟨⟨ds, ρ1⟩, e1, e⟩ := bind_some e
  obtain ⟨⟨bb, ρ2⟩, e2, e⟩ := bind_some e
  cases e
  refine ⟨F, I, ρ, ds, ρ1, R, e1, fun J H1 I1 s1 R1 W hz => ?_⟩
  obtain ⟨⟨ps, t1, t2⟩, t3, t4⟩ := R1.tab.1 x hx c P hP
  refine ⟨ps, t1, t2.1, fun ps' hps' hgp => ?_⟩
  have R1' := R1.table hx hP (show TabOk I1 ps' by
    rcases hgp with rfl | ⟨c', rfl⟩
    · exact t2
    · exact t2.gen hlc hps')
  refine ⟨fun i m H => ∃ I2 ρ3, m = ds.length - i ∧ i ≤ ds.length ∧ Same I1 I2 ∧ Rl K bs F (wipe σ vs) H I2 ρ3 ∧ gaL st vs fg ft fe (ds.drop i) ρ3 = some (bb, ρ2),
    ⟨ds.length, I1, wipeE ρ1 vs, by simp, Nat.zero_le _, Same.refl I1, R1'.wipe hv, by simpa using e2⟩, ?_⟩
  rintro i m H2 ⟨I2, ρ3, rfl, hi, s2, R2, e3⟩
  obtain ⟨go, stop⟩ := W i _ _ H2 I2 ρ3 s2 R2
  by_cases hlt : i < ds.length
  · have hd : ds[i]? = some ds[i] := List.getElem?_eq_getElem hlt
    obtain ⟨g1, g2⟩ := go _ hd
    rw [drop_get hd] at e3
    obtain ⟨ρ4, e4, e3⟩ := bind_some e3
    obtain ⟨⟨b, ρ5⟩, e5, e3⟩ := bind_some e3
    refine .inr ⟨g1, fun H' => ∃ I2 ρ3, Same I1 I2 ∧ Rl K bs F (wipe σ vs) H' I2 ρ3 ∧ gaL st vs fg ft fe (ds.drop (i + 1)) ρ3 = some (bb, ρ2),
      fun H' ⟨I6, ρ6, q1, q2, q3⟩ => ⟨ds.length - (i + 1), by omega, I6, ρ6, rfl, hlt, q1, q2, q3⟩, fun x H3 y => ?_⟩
    obtain ⟨I3, gr, dx⟩ := g2 x H3 y
    refine ⟨_, I3, ρ3, _, ρ4, R2.grow gr, dx, e4, fun σ3 l3 k3 R3 => ?_⟩
    have wz : wipe σ3 vs = wipe σ vs := by
      have w1 : wipe σ3 vs = wipe (wipe σ vs) vs := wipe_ext l3 fun j hj' => k3 j fun m => hj' (hj j m)
      rw [w1]
      refine wipe_ext (wipe_length σ vs) fun j hj' => wipe_out hj'
    refine ⟨wz, _, I3, ρ4, b, ρ5, R3, e5, fun H4 I4 s4 R4 => ?_⟩
    cases b with
    | true =>
      have e3 : ((fe ρ5).bind fun (y, ρ3) => match y with
        | .bool c => if c = st then some (st, wipeE ρ3 vs) else gaL st vs fg ft fe (ds.drop (i + 1)) (wipeE ρ3 vs)
        | _ => none) = some (bb, ρ2) := e3
      obtain ⟨⟨y, ρ6⟩, e6, e3⟩ := bind_some e3
      refine iteT ⟨_, I4, ρ5, y, ρ6, R4, e6, fun v H5 I5 s5 R5 d5 => ?_⟩
      cases y with
      | bool c =>
        cases d5
        refine ⟨c, rfl, ?_⟩
        have e3 : (if c = st then some (st, wipeE ρ6 vs) else gaL st vs fg ft fe (ds.drop (i + 1)) (wipeE ρ6 vs)) = some (bb, ρ2) := e3
        have R7 := R5.wipe hv
        rw [wz] at R7
        by_cases hcs : c = st
        · rw [if_pos hcs] at e3 ⊢
          cases e3
          exact k _ H5 I5 (s1.trans (s2.trans (gr.ii.trans (s4.trans s5)))) (R1.back (s2.trans (gr.ii.trans (s4.trans s5))) hv R7) (.bl _)
        · rw [if_neg hcs] at e3 ⊢
          exact ⟨I5, wipeE ρ6 vs, s2.trans (gr.ii.trans (s4.trans s5)), R7, e3⟩
      | _ => cases e3
    | false =>
      refine iteF ⟨I4, wipeE ρ5 vs, s2.trans (gr.ii.trans s4), ?_, e3⟩
      have R7 := R4.wipe hv
      rw [wz] at R7
      exact R7
  · have : i = ds.length := by omega
    subst this
    rw [List.drop_length] at e3
    cases e3
    exact .inl ⟨stop (Nat.le_refl _), k _ H2 I2 (s1.trans s2) (R1.back s2 hv R2) (.bl _)⟩
structure GenX (X : Cx) (bs : Md) (x : Str) (c P : Addr) : Prop where
  mem : x ∈ bs.tn
  tab : PySem.W.tabIn X.K x = some (c, P)
  hd : PySem.W.CodeHd X.base c P
  code : X.env.code = .ref c
  bm : BmOk X.mg X.base
theorem qe_all {x : Str} {c P : Addr} {k : Nat} (own : List (Str × Nat)) (G : GenX X bs x c P) (hr : Room k X.A) (hm : X.mg "all" = none) (hN : X.N.Nodup) (hi : QI X bs tg iter fi) (ok : GenOk X.N X.env.scope scope own)
    (hg : ∀ (s : Shared) (H : Hp) (C : Addr) (cl : List (Str × Addr)) (code : Value) (fp : List Addr), QJ (X.gn s H scope cl C code fp) bs tg js fg) (ht : ∀ (s : Shared) (H : Hp) (C : Addr) (cl : List (Str × Addr)) (code : Value) (fp : List Addr), QTs (X.gn s H scope cl C code fp) bs ifs ft)
    (he : ∀ (s : Shared) (H : Hp) (C : Addr) (cl : List (Str × Addr)) (code : Value) (fp : List Addr), QE (X.gn s H scope cl C code fp) bs elt fe) (hv : ∀ v ∈ own.map (·.2), v ∉ bs.bs := by decide) (hj : ∀ j ∈ js, j ∈ own.map (·.2) := by decide) (hc : X.calm = true := by rfl) (hlc : lamCol gpos = false := by rfl) (hgl : Gl X "all" := by rfl) (hs : ∀ x, genFold iter X.env x = pure x := by intro _; rfl) :
    QE X bs (.Call (.Name "all" p) [.GeneratorExp elt [⟨tg, iter, ifs, 0⟩] scope gpos] [] pos) (gaF false fi (own.map (·.2)) fg ft fe) :=
  ⟨PE.weak (pe_allgen hc hN hr G.bm G.hd G.code hm hi.pi ok (fun s H C cl code fp => (hg s H C cl code fp).pg) (fun s H C cl code fp => (ht s H C cl code fp).pt) (fun s H C cl code fp => (he s H C cl code fp).pe) hgl hs) fun σ H Q h => tq_ga G.mem G.tab hlc hv hj h⟩
end
end L2
namespace L2
open PySem PySem.Spec PyProof.Rows
def tabsOf (K : PySem.W.Frag) (tn : List Str) : List Addr := tn.filterMap fun x => (PySem.W.tabIn K x).map (·.2)
theorem mem_tabsOf {K : PySem.W.Frag} {tn : List Str} {P : Addr} : P ∈ tabsOf K tn ↔ ∃ x ∈ tn, ∃ c, PySem.W.tabIn K x = some (c, P) := by
  unfold tabsOf
  rw [List.mem_filterMap]
  constructor
  · rintro ⟨x, hx, e⟩
    cases q : PySem.W.tabIn K x with
    | none => rw [q] at e; cases e
    | some cp => obtain ⟨c, P'⟩ := cp; rw [q] at e; cases e; exact ⟨x, hx, c, q⟩
  · rintro ⟨x, hx, c, e⟩
    exact ⟨x, hx, by rw [e]; rfl⟩
structure GBase (K : PySem.W.Frag) (mg : Str → Option Value) (base : Heap) (tn : List Str) : Prop where
  bm : BmOk mg base
  hd : ∀ x ∈ tn, ∀ c P, PySem.W.tabIn K x = some (c, P) → PySem.W.CodeHd base c P
theorem law_callT {P : Program} {w : World} {K : PySem.W.Frag} {mg mb : Str → Option Value} {k : Nat} {fa a : Addr} {fd : FuncData} {x : Str} {tn : List Str} {fn : Fn} {s₁ : Shared} {vs : List Value} {ns : List Int}
    (KX : K.In s₁.heap) (hns : s₁.heap.Ns mainGlobals mg) (hb : s₁.heap.Ns builtinsNs mb) (hbb : ∀ x : Str, x ≠ "__name__" → mb x = bootBuiltins x) (hlim : s₁.heap.NoLimit) (hg : s₁.gens = #[])
    (ha : s₁.heap.get? a = some { cls := .type "list", data := .seq vs.toArray }) (hi : IntsAre vs ns) (hl : ns.length ≤ sizeLine) (hr : Room k callerA)
    (htab : ∀ x ∈ tn, ∀ c P, PySem.W.tabIn K x = some (c, P) → PySem.W.CodeHd s₁.heap c P ∧ s₁.heap.get? P = some (PySem.W.tabObj #[])) (hnt : PySem.W.noTabs K = true) (hbm : BmOk mg s₁.heap)
    (F : ∀ base : Heap, K.In base → base.Ns mainGlobals mg → GBase K mg base tn → FnOk P w K mg base CX0 k fa fd [x] (spq K tn [false] fn)) (hbind : ∀ (s : Shared) (u : Value), BindsTo s fd ⟨[u], []⟩ [(x, u)])
    (hfn : fn [.list (ns.map PyData.int)] = some (.bool true, [])) :
    codeAny (model P w) callerA (.call (.ref fa) ⟨[.ref a], []⟩) (fun r s' => r = .ok (.ret (.bool true)) ∧ OldK s₁.heap s'.heap ∧ s'.os = s₁.os ∧ AllBare s'.gens) s₁ := by
  classical
  have rv := vals_ints hi
  have lenV := hi.length
  let T := tabsOf K tn
  have hT : ∀ P ∈ T, s₁.heap.get? P = some (PySem.W.tabObj #[]) ∧ isCodeTable s₁.heap P := fun P hP => by
    obtain ⟨x, hx, c, e⟩ := mem_tabsOf.mp hP
    obtain ⟨h1, h2⟩ := htab x hx c P e
    exact ⟨h2, (h1.tab h2).isCodeTable⟩
  have haT : a ∉ T := fun m => by have := (hT a m).1; rw [ha] at this; cases this
  let fz : HO := .frz { cls := .type "list", data := .seq vs.toArray } (.lst (ns.map V.int))
  let I : Hp := fun b => if b = a ∧ K.lookup a = none then some fz else none
  let H : Hp := fun b => if b ∈ T then some (.tbl #[]) else I b
  have hI : ∀ b u, I b = some u → b = a ∧ K.lookup a = none ∧ u = fz := fun b u e => by
    have e : (if b = a ∧ K.lookup a = none then some fz else none) = some u := e
    by_cases h : b = a ∧ K.lookup a = none
    · rw [if_pos h] at e; cases e; exact ⟨h.1, h.2, rfl⟩
    · rw [if_neg h] at e; cases e
  have hHT : ∀ b, b ∈ T → H b = some (.tbl #[]) := fun b m => if_pos m
  have hHI : ∀ b, b ∉ T → H b = I b := fun b m => if_neg m
  have hH : ∀ b u, H b = some u → (b ∈ T ∧ u = .tbl #[]) ∨ (b = a ∧ K.lookup a = none ∧ u = fz) := fun b u e => by
    by_cases m : b ∈ T
    · rw [hHT b m] at e; cases e; exact .inl ⟨m, rfl⟩
    · rw [hHI b m] at e; exact .inr (hI b u e)
  have sub : Same I H := fun b u e => by
    obtain ⟨rfl, _, _⟩ := hI b u e
    rw [hHI b haT]; exact e
  have hok : HOk P w H s₁.heap := fun b u e => by
    rcases hH b u e with ⟨m, rfl⟩ | ⟨rfl, _, rfl⟩
    · exact (hT b m).1
    · exact ⟨ha, by rw [List.length_map]; exact hl, vs, _, rv, ha⟩
  have none_of : ∀ {b : Addr} {o : Obj}, s₁.heap.get? b = some o → o.cls ≠ .none → o.cls ≠ .type "list" → H b = none := fun {b o} e h1 h2 => by
    cases q : H b with
    | none => rfl
    | some u =>
      rcases hH b u q with ⟨m, _⟩ | ⟨rfl, _, _⟩
      · have := (hT b m).1; rw [e] at this; cases this; exact absurd rfl h1
      · rw [ha] at e; cases e; exact absurd rfl h2
  have base_of : ∀ {b : Addr} {o : Obj}, s₁.heap.get? b = some o → H b = none → (hidT s₁.heap H).get? b = some o := fun e n => hidT_get e n
  have nsK : ∀ {b : Addr} {m : Str → Option Value}, s₁.heap.Ns b m → (hidT s₁.heap H).Ns b m := fun {b m} ⟨o, es, ep, e, d, r⟩ => ⟨o, es, ep, base_of e (by
    cases q : H b with
    | none => rfl
    | some u =>
      rcases hH b u q with ⟨m, _⟩ | ⟨rfl, _, _⟩
      · have := (hT b m).1; rw [e] at this; cases this; cases d
      · rw [ha] at e; cases e; cases d), d, r⟩
  have hKb : K.In (hidT s₁.heap H) := fun b o e => base_of (KX b o e) (by
    cases q : H b with
    | none => rfl
    | some u =>
      rcases hH b u q with ⟨m, _⟩ | ⟨rfl, n, _⟩
      · have h1 := (hT b m).1
        rw [KX b o e] at h1; cases h1
        have h2 := List.all_eq_true.mp hnt (b, PySem.W.tabObj #[]) (PySem.W.mem_of_lookupK e)
        exact absurd (show false = true from h2) Bool.false_ne_true
      · rw [n] at e; cases e)
  have hM : Mod K mg (hidT s₁.heap H) := ⟨hKb, nsK hns, ⟨mb, nsK hb, hbb⟩, let ⟨mc, h1, h2⟩ := hlim; ⟨mc, nsK h1, h2⟩⟩
  have e0 : Env0 P w K mg (hidT s₁.heap H) callerA [] s₁ H := ⟨rfl, hM, fun b o e => of_hidT e, Nat.le_of_eq (hidT_size _ _), trivial, fun b hb => absurd (show b ∈ ([] : List Addr) from hb) (by simp), hok, .of_eq hg⟩
  have hGB : GBase K mg (hidT s₁.heap H) tn := by
    refine ⟨?_, fun x hx c P e => ?_⟩
    · obtain ⟨bm, ob, b1, b2, b3, b4, b5, b6⟩ := hbm
      exact ⟨bm, ob, b1, b2, base_of b3 (none_of b3 (by rw [b4]; simp) (by rw [b4]; simp)), b4, b5, b6⟩
    · obtain ⟨o, ws, file, tf, flags, tg, inF, text, tt, q1, q2, r⟩ := (htab x hx c P e).1
      exact ⟨o, ws, file, tf, flags, tg, inF, text, tt, base_of q1 (none_of q1 (by rw [q2]; simp) (by rw [q2]; simp)), q2, r⟩
  have szI : SzOk I := fun b xs h => by
    have key : ∀ u, Rd I b u → u = .lst (ns.map V.int) ∨ u = fz := fun u h => by
      rcases h with h | ⟨o, h⟩
      · obtain ⟨_, _, e⟩ := hI b _ h; exact .inr e
      · obtain ⟨_, _, e⟩ := hI b _ h
        have e : HO.frz o u = HO.frz { cls := .type "list", data := .seq vs.toArray } (.lst (ns.map V.int)) := e
        cases e; exact .inl rfl
    rcases h with h | h
    · rcases key _ h with e | e
      · cases e; rw [List.length_map]; exact hl
      · have e : HO.lst xs = HO.frz { cls := .type "list", data := .seq vs.toArray } (.lst (ns.map V.int)) := e
        cases e
    · rcases key _ h with e | e
      · cases e
      · have e : HO.tup xs = HO.frz { cls := .type "list", data := .seq vs.toArray } (.lst (ns.map V.int)) := e
        cases e
  have dpA : Dp K I (.ref a) (.list (ns.map PyData.int)) := by
    refine .lst ?_ (DpAll.of_ints ns)
    cases hk : K.lookup a with
    | none => exact .inl (.inr ⟨_, if_pos ⟨rfl, hk⟩⟩)
    | some o =>
      have e := KX a o hk
      rw [ha] at e
      cases e
      exact .inr ⟨_, vs.toArray, _, hk, rfl, rfl, rfl, by rw [List.size_toArray, lenV]; exact hl, by simpa using rv⟩
  have tabs : Tabs K tn H I (fun _ => none) := ⟨fun x hx c P e => by
    have m : P ∈ T := mem_tabsOf.mpr ⟨x, hx, c, e⟩
    refine ⟨⟨#[], hHT P m, TabOk.nil⟩, ?_, rfl⟩
    cases q : I P with
    | none => rfl
    | some u => obtain ⟨rfl, _, _⟩ := hI P u q; exact absurd m haT, fun _ _ h => by cases h⟩
  refine codeAny_mono ((F _ hKb (nsK hns) hGB).run callerA [] s₁ H ⟨[.ref a], []⟩ [.ref a] [.ref a] (fun v _ => v = .bl true) E0 hr e0 (hbind s₁ (.ref a)) (.cons rfl .nil)
    ⟨fun _ => none, I, [.list (ns.map PyData.int)], [], .bool true, [], sub, fun b o z => absurd z (by simp), fun b o z => absurd z (by simp), szI, tabs, .val dpA .nil, hfn, fun v H' I' _ _ _ _ _ _ _ dv => by cases dv; rfl⟩) fun r s' h => ?_
  cases r with
  | error e => exact False.elim h
  | ok fl =>
    cases fl with
    | next => exact False.elim h
    | brk => exact False.elim h
    | cont => exact False.elim h
    | ret u =>
      obtain ⟨v, H', os, bare, un, hok', r', q⟩ := h
      have q' : v = .bl true := q
      subst q'
      obtain rfl : u = Value.bool true := r'
      refine ⟨rfl, ⟨fun b o e => ?_, fun b o e => un.there b o e (by simp)⟩, os, bare⟩
      cases q : H b with
      | none => exact .inl (un.keep b o e q (by intro z; exact absurd (show b ∈ ([] : List Addr) from z) (by simp)) (by simp))
      | some u =>
        rcases hH b u q with ⟨m, rfl⟩ | ⟨rfl, n, rfl⟩
        · obtain ⟨more, z⟩ := un.tbls b _ q
          have e1 := (hT b m).1
          rw [e] at e1; cases e1
          exact .inr (.inl ⟨(hT b m).2, rfl, #[], more, rfl, hok' b _ z⟩)
        · have z2 := un.frzs _ _ _ q
          obtain ⟨e1, _⟩ := hok _ _ q
          obtain ⟨e2, _⟩ := hok' _ _ z2
          rw [e] at e1; cases e1
          exact .inl e2
end L2
namespace L2
open PySem PySem.W PyProof.Rows
def KW (n : Nat) (an : Nat → Nat → Bool) {α : Type} : KasT α → (α → Prop) → Prop
  | .ret a, Q => Q a
  | .ask i j k, Q => i < n ∧ j < n ∧ KW n an (k (an i j)) Q
theorem KW.bind {n : Nat} {an : Nat → Nat → Bool} {α β : Type} {f : α → KasT β} {Q : β → Prop} : ∀ {t : KasT α}, KW n an t (fun a => KW n an (f a) Q) → KW n an (t.bind f) Q
  | .ret _, h => h
  | .ask i j k, ⟨h1, h2, h3⟩ => ⟨h1, h2, KW.bind (t := k (an i j)) h3⟩
theorem KW.mono {n : Nat} {an : Nat → Nat → Bool} {α : Type} {Q Q' : α → Prop} (h : ∀ a, Q a → Q' a) : ∀ {t : KasT α}, KW n an t Q → KW n an t Q'
  | .ret _, q => h _ q
  | .ask i j k, ⟨h1, h2, h3⟩ => ⟨h1, h2, KW.mono h (t := k (an i j)) h3⟩
theorem KW.wp {n : Nat} {an : Nat → Nat → Bool} {α : Type} {Q : α → Prop} {cmp : Nat → Nat → (Bool → Shared → Prop) → Shared → Prop} {s : Shared} {G : α → Shared → Prop} (hc : ∀ i j C, i < n → j < n → C (an i j) s → cmp i j C s) (hG : ∀ a, Q a → G a s) :
    ∀ {t : KasT α}, KW n an t Q → t.kasWp cmp G s
  | .ret _, q => hG _ q
  | .ask i j k, ⟨h1, h2, h3⟩ => hc i j _ h1 h2 (KW.wp hc hG (t := k (an i j)) h3)
section
variable {O : KeyOrd} {key : Nat → O.α} {n : Nat}
def ky (key : Nat → O.α) (p : Array Nat) (i : Nat) : O.α := key (p.getD i 0)
def Up (key : Nat → O.α) (p : Array Nat) (m : Nat) : Prop := ∀ i j, i ≤ j → j < m → O.kle (ky key p i) (ky key p j)
def Dn (key : Nat → O.α) (p : Array Nat) (m : Nat) : Prop := ∀ i j, i ≤ j → j < m → O.kle (ky key p j) (ky key p i)
structure Bs (n : Nat) (p : Array Nat) : Prop where
  sz : p.size = n
  pos : 0 < n
  perm : p.toList.Perm (List.range n)
theorem Bs.lt {p : Array Nat} (b : Bs n p) (i : Nat) : p.getD i 0 < n := by
  rw [Array.getD_eq_getD_getElem?]
  cases e : p[i]? with
  | none => exact b.pos
  | some x =>
    have : x ∈ p.toList := Array.mem_toList_iff.mpr (Array.mem_of_getElem? e)
    exact List.mem_range.mp (b.perm.mem_iff.mp this)
theorem Up.ext {p : Array Nat} {k : Nat} (u : Up key p k) (hk : 1 ≤ k) (h : O.blt (ky key p k) (ky key p (k - 1)) = false) : Up key p (k + 1) := by
  intro i j hij hj
  by_cases hjk : j < k
  · exact u i j hij hjk
  · have : j = k := by omega
    subst this
    by_cases hi : i = j
    · subst hi; exact KeyOrd.kle_refl _
    · exact KeyOrd.kle_trans (u i (j - 1) (by omega) (by omega)) h
theorem Dn.ext {p : Array Nat} {k : Nat} (u : Dn key p k) (hk : 1 ≤ k) (h : O.kle (ky key p k) (ky key p (k - 1))) : Dn key p (k + 1) := by
  intro i j hij hj
  by_cases hjk : j < k
  · exact u i j hij hjk
  · have : j = k := by omega
    subst this
    by_cases hi : i = j
    · subst hi; exact KeyOrd.kle_refl _
    · exact KeyOrd.kle_trans h (u i (j - 1) (by omega) (by omega))
end
end L2
namespace L2
open PySem PySem.Spec PyProof.Rows
theorem lex_irrefl : ∀ a : List Int, HT.lexLt a a = false
  | [] => rfl
  | x :: xs => by rw [HT.lexLt_cons, if_pos rfl]; exact lex_irrefl xs
theorem lex_trans : ∀ a b c : List Int, HT.lexLt a b = true → HT.lexLt b c = true → HT.lexLt a c = true
  | [], [], _, h, _ => by cases h
  | [], _ :: _, [], _, h => by cases h
  | [], _ :: _, _ :: _, _, _ => rfl
  | _ :: _, [], _, h, _ => by cases h
  | _ :: _, _ :: _, [], _, h => by cases h
  | x :: xs, y :: ys, z :: zs, h1, h2 => by
    rw [HT.lexLt_cons] at h1 h2 ⊢
    by_cases e1 : x = y
    · subst e1
      rw [if_pos rfl] at h1
      by_cases e2 : x = z
      · subst e2
        rw [if_pos rfl] at h2 ⊢
        exact lex_trans xs ys zs h1 h2
      · rw [if_neg e2] at h2 ⊢; exact h2
    · rw [if_neg e1] at h1
      have h1 := of_decide_eq_true h1
      by_cases e2 : y = z
      · subst e2; rw [if_neg e1]; exact decide_eq_true h1
      · rw [if_neg e2] at h2
        have h2 := of_decide_eq_true h2
        rw [if_neg (by omega)]; exact decide_eq_true (by omega)
theorem lex_total : ∀ a b : List Int, HT.lexLt a b = false → HT.lexLt b a = false → a = b
  | [], [], _, _ => rfl
  | [], _ :: _, h, _ => by cases h
  | _ :: _, [], _, h => by cases h
  | x :: xs, y :: ys, h1, h2 => by
    rw [HT.lexLt_cons] at h1 h2
    by_cases e : x = y
    · subst e
      rw [if_pos rfl] at h1 h2
      rw [lex_total xs ys h1 h2]
    · rw [if_neg e] at h1
      rw [if_neg (Ne.symm e)] at h2
      have := of_decide_eq_false h1
      have := of_decide_eq_false h2
      omega
theorem lex_neg (a b c : List Int) (h : HT.lexLt a c = true) : HT.lexLt a b = true ∨ HT.lexLt b c = true := by
  cases h1 : HT.lexLt a b with
  | true => exact .inl rfl
  | false =>
    refine .inr ?_
    cases h2 : HT.lexLt b a with
    | true => exact lex_trans b a c h2 h
    | false => rw [← lex_total a b h1 h2]; exact h
def lexO : KeyOrd := ⟨List Int, HT.lexLt, lex_irrefl, lex_trans, lex_neg, lex_total⟩
section
variable {prog : Program} {w : World} {A : Around} {s : Shared}
end
theorem ObjOk.some {P : Program} {w : World} {H : Hp} {h : Heap} {a : Addr} {o : HO} (x : ObjOk P w H h a o) : ∃ u, h.get? a = some u := by
  cases o with
  | lst xs => obtain ⟨_, _, _, _, e⟩ := x; exact ⟨_, e⟩
  | tup xs => obtain ⟨_, _, _, o, e, _⟩ := x; exact ⟨_, e⟩
  | dK kvs => obtain ⟨_, _, _, _, o, _, _, e, _⟩ := x; exact ⟨_, e⟩
  | dT kvs => obtain ⟨_, _, _, _, o, _, _, e, _⟩ := x; exact ⟨_, e⟩
  | set S n => obtain ⟨o, _, _, _, e, _⟩ := x; exact ⟨_, e⟩
  | ins C dx fs => obtain ⟨_, _, _, e, _⟩ := x; exact ⟨_, e⟩
  | own y => obtain ⟨_, e⟩ := x; exact ⟨_, e⟩
  | xd fs => obtain ⟨_, ⟨_, _, _, e, _⟩, _⟩ := x; exact ⟨_, e⟩
  | rng lo hi => obtain ⟨_, _, _, e⟩ := x; exact ⟨_, e⟩
  | frz ob u => exact ⟨_, x.1⟩
  | tbl ps => exact ⟨_, x⟩
  | met f y => exact ⟨_, x⟩
  | ext φ => obtain ⟨_, ⟨_, e⟩, _⟩ := x; exact ⟨_, e⟩
section
variable {X : Cx}
end
end L2
namespace L2
open PySem PySem.Spec PyProof.Rows PySem.Calls
section
variable {prog : Program} {w : World} {A : Around} {E : Value → Shared → Prop} {s : Shared}
end
section
variable {X : Cx}
end
end L2
namespace L2
open PySem PySem.Spec PyProof.Rows
def sortI (ns : List Int) : List Int := ns.mergeSort fun a b => decide (a ≤ b)
def sortT (ns : List (List Int)) : List (List Int) := ns.mergeSort fun a b => !HT.lexLt b a
theorem sortI_eq {ns ms : List Int} (hp : ms.Perm ns) (hs : ms.Pairwise (· ≤ ·)) : ms = sortI ns := by
  refine List.Perm.eq_of_pairwise (le := (· ≤ ·)) (fun a b _ _ h1 h2 => Int.le_antisymm h1 h2) hs ?_ (hp.trans (List.mergeSort_perm ns _).symm)
  exact (List.pairwise_mergeSort (le := fun a b : Int => decide (a ≤ b)) (fun a b c h1 h2 => by simp at *; omega) (fun a b => by simp; omega) ns).imp (fun h => by simpa using h)
theorem sortT_eq {ns ms : List (List Int)} (hp : ms.Perm ns) (hs : ms.Pairwise (fun a b => HT.lexLt b a = false)) : ms = sortT ns := by
  refine List.Perm.eq_of_pairwise (le := fun a b => HT.lexLt b a = false) (fun a b _ _ h1 h2 => lex_total a b h2 h1) hs ?_ (hp.trans (List.mergeSort_perm ns _).symm)
  refine (List.pairwise_mergeSort (le := fun a b : List Int => !HT.lexLt b a) (fun a b c h1 h2 => ?_) (fun a b => ?_) ns).imp (fun h => by simpa using h)
  · have h1 : HT.lexLt b a = false := by simpa using h1
    have h2 : HT.lexLt c b = false := by simpa using h2
    have : lexO.kle a c := KeyOrd.kle_trans (O := lexO) (a := a) (b := b) (c := c) h1 h2
    have : HT.lexLt c a = false := this
    simp [this]
  · cases e : HT.lexLt b a with
    | false => rfl
    | true =>
      have : lexO.kle b a := KeyOrd.kle_of_klt (O := lexO) e
      have : HT.lexLt a b = false := this
      simp [this]
def tupD (ns : List Int) : Dt := .tuple (ns.map PyData.int)
def tupsD : List Dt → Option (List (List Int))
  | [] => some []
  | .tuple a :: r => (intsD a).bind fun ns => if ns.isEmpty then none else (tupsD r).bind fun nss => some (ns :: nss)
  | _ => none
def sortedD : List Dt → Option (List Dt)
  | [.list ds] => if ds.length < 64 then (match intsD ds with
    | some ns => some ((sortI ns).map PyData.int)
    | none => (match tupsD ds with
      | some nss => some ((sortT nss).map tupD)
      | none => if ds.length < 2 then some ds else none)) else none
  | _ => none
section
variable {X : Cx}
end
end L2
namespace L2
open PySem PySem.Spec PyProof.Rows
section
variable {X : Cx} {bs : Md} {pos p pos2 p2 : Pos} {a b : Expr} {fa fb : FE} {fr : FA}
def lrngF (fr : FA) : FE := fun ρ => (fr ρ).bind fun (ds, ρ1) => match ds with
  | [.int j] => if -(2 ^ 62) ≤ j ∧ j ≤ 16777216 then some (.list (rngD 0 j.toNat), ρ1) else none
  | _ => none
def minI : List Int → Int
  | [] => 0
  | [a] => a
  | a :: b :: r => min a (minI (b :: r))
def maxI : List Int → Int
  | [] => 0
  | [a] => a
  | a :: b :: r => max a (maxI (b :: r))
end
end L2
namespace L2
open PySem PySem.Spec PyProof.Rows
section
variable {prog : Program} {w : World} {A : Around} {E : Value → Shared → Prop} {s : Shared}
end
def maxD : List Dt → Option Dt
  | [.int i, .int j] => some (.int (if j > i then j else i))
  | [.tuple a] => (intsD a).bind fun ns => if ns.isEmpty then none else some (.int (maxI ns))
  | [.list a] => (intsD a).bind fun ns => if ns.isEmpty then none else some (.int (maxI ns))
  | _ => none
def minD : List Dt → Option Dt
  | [.int i, .int j] => some (.int (if j < i then j else i))
  | [.tuple a] => (intsD a).bind fun ns => if ns.isEmpty then none else some (.int (minI ns))
  | [.list a] => (intsD a).bind fun ns => if ns.isEmpty then none else some (.int (minI ns))
  | _ => none
section
variable {X : Cx}
end
end L2
namespace L2
open PySem PySem.Spec PyProof.Rows
section
variable {prog : Program} {w : World} {A : Around} {E : Value → Shared → Prop} {s : Shared}
end
section
variable {X : Cx} {bs : Md} {o e : Expr} {fo fe : FE} {apos cpos : Pos}
def placeI (y : Int) : List Int → Option Nat
  | [] => none
  | n :: ns => if n = y then some 0 else (placeI y ns).map (· + 1)
def idxD (d e : Dt) : Option Dt := match d, e with
  | .tuple ds, .int y => (intsD ds).bind fun ns => (placeI y ns).bind fun j => some (.int j)
  | _, _ => none
def isTup : Dt → Bool
  | .tuple _ => true
  | _ => false
def idxF (fo fe : FE) : FE := fun ρ => (fo ρ).bind fun (d, ρ1) => if isTup d = true then (fe ρ1).bind fun (e, ρ2) => (idxD d e).bind fun r => some (r, ρ2) else none
end
end L2
namespace L2
open PySem PySem.Spec PyProof.Rows
theorem Room.gen {k : Nat} {A : Around} (r : Room (k + 1) A) (env : Env) : Room k (A.in1.in1.deeper env) :=
  ⟨r.hd, by have := r.dp; show A.depth + 1 + 3 * k + 5 < _; omega, by have := r.un; show A.units + 1 + 1 + 3 + 16 * k + 200 < _; omega, r.gd⟩
theorem walkT {l : PySem.W.OpenLaw} {k : Nat} {q : Program} {loose : List Str} {XP : (Str → Option Value) → Heap → Prop} {YP : World → Heap → Prop} {d : DefRec} {K : Params → PySem.W.Frag} {fn : Fn} {x : Str} (tn : List Str)
    (hn : l.most = some 63) (hdf : d.params.defaults = []) (hr : Room k callerA) (hY : ∀ (w : World) (h : Heap), YP w h → (K w.params).In h) (hnt : ∀ w : World, PySem.W.noTabs (K w.params) = true)
    (hrc : (tn.all fun x => ((recsOf q).find? fun e => e.name == x).isSome) = true)
    (F : ∀ (w : World) (mg : Str → Option Value) (fa : Addr) (h : Heap), (K w.params).In h → h.Ns mainGlobals mg → mg d.name = some (.ref fa) →
      ∃ fd : FuncData, (∀ (s : Shared) (u : Value), BindsTo s fd ⟨[u], []⟩ [(x, u)]) ∧ ∀ base : Heap, (K w.params).In base → base.Ns mainGlobals mg → GBase (K w.params) mg base tn → FnOk l.prog w (K w.params) mg base CX0 k fa fd [x] (spq (K w.params) tn [false] fn))
    (hfn : ∀ ns : List Int, ns.length ≤ 63 → fn [.list (ns.map PyData.int)] = some (.bool true, [])) : PySem.W.WalkO q loose XP YP l.row.toRowW d [] (fun f vs => PySem.call f vs) := by
  refine Att.attach_call hn hdf fun w s₀ s₁ mg mb fa o pm cd doc a vs ns G Y ho hd hcd hmg hobj hints hlen hg => ?_
  have KX := hY w _ Y
  obtain ⟨fd, hb, hF⟩ := F w mg fa _ KX G.T.g hmg
  refine law_callT KX G.T.g G.T.b G.T.builtins G.T.nolimit hg hobj hints (Nat.le_trans hlen (by decide)) hr (fun x hx c P e => ?_) (hnt w) G.T.bmain hF hb (hfn ns hlen)
  have := List.all_eq_true.mp hrc x hx
  obtain ⟨d', hd'⟩ := Option.isSome_iff_exists.mp this
  exact PySem.W.tab_of G.T KX hd' e
end L2
namespace L2
open PySem
theorem bb_len : bootBuiltins "len" = some (.builtin "len") := by decide +kernel
theorem bb_tuple : bootBuiltins "tuple" = some (.type "tuple") := by decide +kernel
theorem bb_int : bootBuiltins "int" = some (.type "int") := by decide +kernel
theorem bb_bool : bootBuiltins "bool" = some (.type "bool") := by decide +kernel
end L2
namespace L2
open PySem
section
variable (ρ : Ev)
@[simp] theorem ap_skip : skipS ρ = some (.nx, ρ) := rfl
@[simp] theorem ap_brk : brkS ρ = some (.bk, ρ) := rfl
@[simp] theorem ap_cnt : cntS ρ = some (.ct, ρ) := rfl
@[simp] theorem ap_seq (f g : FS) : seqS f g ρ = (f ρ).bind fun p => match p.1 with | .nx => g p.2 | _ => some p := by
  unfold seqS
  cases f ρ with
  | none => rfl
  | some p => obtain ⟨o, r⟩ := p; cases o <;> rfl
@[simp] theorem ap_expr (f : FE) : exprS f ρ = (f ρ).bind fun p => some (.nx, p.2) := rfl
@[simp] theorem ap_ret (f : FE) : retS f ρ = (f ρ).bind fun p => some (.rt p.1, p.2) := rfl
@[simp] theorem ap_retN : retNS ρ = some (.rt .none, ρ) := rfl
@[simp] theorem ap_if (t : FT) (f g : FS) : ifS t f g ρ = (t ρ).bind fun p => if p.1 = true then f p.2 else g p.2 := rfl
@[simp] theorem ap_set (i : Nat) (f : FE) : setS i f ρ = (f ρ).bind fun p => some (.nx, p.2.set i (some p.1)) := rfl
@[simp] theorem ap_asg (f : FE) (g : FG) : asgS f g ρ = (f ρ).bind fun p => (g p.1 p.2).bind fun r => some (.nx, r) := rfl
@[simp] theorem ap_par (i j : Nat) (f g : FE) : par2S i j f g ρ = (f ρ).bind fun p => (g p.2).bind fun r => some (.nx, (r.2.set i (some p.1)).set j (some r.1)) := rfl
@[simp] theorem ap_nameG (i : Nat) (d : Dt) : nameG i d ρ = some (ρ.set i (some d)) := rfl
@[simp] theorem ap_nilG : nilG [] ρ = some ρ := rfl
@[simp] theorem ap_consG (g : FG) (gs : List Dt → Ev → Option Ev) (d : Dt) (ds : List Dt) : consG g gs (d :: ds) ρ = (g d ρ).bind fun r => gs ds r := rfl
@[simp] theorem ap_name (i : Nat) : nameF i ρ = match ρ[i]? with | some (some d) => some (d, ρ) | _ => none := rfl
@[simp] theorem ap_c (d : Dt) : cF d ρ = some (d, ρ) := rfl
@[simp] theorem ap_op (g : Dt → Dt → Option Dt) (fa fb : FE) : opF g fa fb ρ = (fa ρ).bind fun p => (fb p.2).bind fun r => (g p.1 r.1).bind fun z => some (z, r.2) := rfl
@[simp] theorem ap_tF (f : FE) : tF f ρ = (f ρ).bind fun p => match p.1 with | .bool b => some (b, p.2) | _ => none := by
  unfold tF
  cases f ρ with
  | none => rfl
  | some p => obtain ⟨o, r⟩ := p; cases o <;> rfl
@[simp] theorem ap_truF (f : FE) : truF f ρ = (f ρ).bind fun p => (truD p.1).bind fun b => some (b, p.2) := rfl
@[simp] theorem ap_andT (a b : FT) : andT a b ρ = (a ρ).bind fun p => if p.1 = true then b p.2 else some (false, p.2) := rfl
@[simp] theorem ap_orT (a b : FT) : orT a b ρ = (a ρ).bind fun p => if p.1 = true then some (true, p.2) else b p.2 := rfl
@[simp] theorem ap_notT (a : FT) : notT a ρ = (a ρ).bind fun p => some (!p.1, p.2) := rfl
@[simp] theorem ap_yesT : yesT ρ = some (true, ρ) := rfl
@[simp] theorem ap_ifF (t : FT) (a b : FE) : ifF t a b ρ = (t ρ).bind fun p => if p.1 = true then a p.2 else b p.2 := rfl
@[simp] theorem ap_nilA : nilA ρ = some ([], ρ) := rfl
@[simp] theorem ap_consA (f : FE) (r : FA) : consA f r ρ = (f ρ).bind fun p => (r p.2).bind fun s => some (p.1 :: s.1, s.2) := rfl
@[simp] theorem ap_tup (r : FA) : tupF r ρ = (r ρ).bind fun p => some (.tuple p.1, p.2) := rfl
@[simp] theorem ap_lst (r : FA) : lstF r ρ = (r ρ).bind fun p => some (.list p.1, p.2) := rfl
@[simp] theorem ap_bF (g : List Dt → Option Dt) (r : FA) : bF g r ρ = (r ρ).bind fun p => (g p.1).bind fun z => some (z, p.2) := rfl
@[simp] theorem ap_bFl (g : List Dt → Option (List Dt)) (r : FA) : bFl g r ρ = (r ρ).bind fun p => (g p.1).bind fun z => some (.list z, p.2) := rfl
@[simp] theorem ap_call (fn : Fn) (cs : List (Option Nat)) (r : FA) : callF fn cs r ρ = (r ρ).bind fun p => (fillA cs p.1 p.2).bind fun as => (fn as).bind fun q => (putA cs q.2 p.2).bind fun s => some (q.1, s) := rfl
@[simp] theorem ap_isF (T : String) (f : FE) : isF T f ρ = (f ρ).bind fun p => some (.bool (isinstD T p.1), p.2) := rfl
@[simp] theorem ap_for (fi : FI) (g : FG) (f : FS) : forS fi g f ρ = (fi ρ).bind fun p => loopS g f p.1 p.2 := rfl
@[simp] theorem ap_loop0 (g : FG) (f : FS) : loopS g f [] ρ = some (.nx, ρ) := rfl
theorem ap_loop1 (g : FG) (f : FS) (d : Dt) (ds : List Dt) : loopS g f (d :: ds) ρ = (g d ρ).bind fun r => (f r).bind fun p => match p.1 with | .nx => loopS g f ds p.2 | .ct => loopS g f ds p.2 | .bk => some (.nx, p.2) | .rt v => some (.rt v, p.2) := by
  show ((g d ρ).bind fun ρ1 => (f ρ1).bind fun (o, ρ2) => match o with
    | .nx => loopS g f ds ρ2
    | .ct => loopS g f ds ρ2
    | .bk => some (.nx, ρ2)
    | .rt v => some (.rt v, ρ2)) = _
  congr
theorem ap_while1 (t : FT) (f : FS) (n : Nat) : whileS t f (n + 1) ρ = (t ρ).bind fun q => if q.1 = true then (f q.2).bind fun p => match p.1 with | .nx => whileS t f n p.2 | .ct => whileS t f n p.2 | .bk => some (.nx, p.2) | .rt v => some (.rt v, p.2) else some (.nx, q.2) := by
  show ((t ρ).bind fun (b, ρ1) => if b = true then (f ρ1).bind fun (o, ρ2) => match o with
    | .nx => whileS t f n ρ2
    | .ct => whileS t f n ρ2
    | .bk => some (.nx, ρ2)
    | .rt v => some (.rt v, ρ2)
    else some (.nx, ρ1)) = _
  congr
@[simp] theorem ap_andV (a b : FE) : andV a b ρ = (a ρ).bind fun p => match p.1 with | .bool true => b p.2 | .bool false => some (.bool false, p.2) | _ => none := rfl
@[simp] theorem ap_orV (a b : FE) : orV a b ρ = (a ρ).bind fun p => match p.1 with | .bool true => some (.bool true, p.2) | .bool false => b p.2 | _ => none := rfl
@[simp] theorem ap_notV (a : FE) : notV a ρ = (a ρ).bind fun p => match p.1 with | .bool b => some (.bool !b, p.2) | _ => none := rfl
@[simp] theorem ap_seqI (f : FE) : seqI f ρ = (f ρ).bind fun p => match p.1 with | .list ds => some (ds, p.2) | .tuple ds => some (ds, p.2) | _ => none := rfl
theorem ap_fnM (n : Nat) (bp : List Bool) (b : FS) (ds : List Dt) : fnM n bp b ds = (b (ds.map some ++ List.replicate (n - ds.length) none)).bind fun p => (endD p.1).bind fun d => (outsB bp p.2).bind fun os => some (d, os) := rfl
@[simp] theorem ap_lc (fi : FI) (own : List Nat) (g : FG) (t : FT) (fe : FE) : lcF fi own g t fe ρ = (fi ρ).bind fun p => (lcL own g t fe p.1 (wipeE p.2 own)).bind fun q => some (.list q.1, backE p.2 q.2 own) := rfl
end
end L2
namespace L2
open PySem PySem.Spec PyProof.Rows
section
variable {X : Cx} {e : Expr} {es : List Expr} {te : TE} {t : TA} {pos p : Pos}
end
def tqX (K : PySem.W.Frag) (bs : Md) (f : FA) : TA := fun σ H Q => ∃ F I ρ d ρ', Rl K bs F σ H I ρ ∧ f ρ = some (d, ρ') ∧ ∀ vs H' I', Same I I' → Rl K bs F σ H' I' ρ' → DpAll K I' vs d → Q vs H'
structure QX (X : Cx) (bs : Md) (es : List Expr) (f : FA) : Prop where
  mk :: (pa : PA X es (tqX X.K bs f))
section
variable {X : Cx} {bs : Md} {e : Expr} {es : List Expr} {fe : FE} {fr : FA} {pos p : Pos}
end
end L2
namespace L2
open PySem PySem.Spec PyProof.Rows
def SIt (k : Bool) (h : Heap) (it l : Addr) (i : Nat) : Prop := ∃ o, h.get? it = some o ∧ o.cls = .type (if k then "list_iterator" else "tuple_iterator") ∧ o.data = .fields #[.ref l, .int i 0]
def SSq (k : Bool) (h : Heap) (l : Addr) (xs : Array Value) : Prop := ∃ o, h.get? l = some o ∧ o.cls = .type (if k then "list" else "tuple") ∧ ∃ n, o.data = .seq xs n
theorem SIt.to {k : Bool} {h h' : Heap} {it l : Addr} {i : Nat} (x : SIt k h it l i) (f : ∀ o, h.get? it = some o → h'.get? it = some o) : SIt k h' it l i := let ⟨o, e, r⟩ := x; ⟨o, f o e, r⟩
theorem SSq.to {k : Bool} {h h' : Heap} {l : Addr} {xs : Array Value} (x : SSq k h l xs) (f : ∀ o, h.get? l = some o → h'.get? l = some o) : SSq k h' l xs := let ⟨o, e, r⟩ := x; ⟨o, f o e, r⟩
section
variable {prog : Program} {w : World} {A : Around} {E : Value → Shared → Prop} {s : Shared}
theorem sit_item {k : Bool} {it l : Addr} {i : Nat} {xs : Array Value} {x : Value} {Q : Value → Shared → Prop} (h1 : SIt k s.heap it l i) (h2 : SSq k s.heap l xs) (h3 : xs[i]? = some x) (q : ∀ h', SIt k h' it l (i + 1) → Heap.SameBut it s.heap h' → Q x { s with heap := h' }) : wpAny (model prog w) A (Builtin.SmallTypes.nextOf (.ref it)) Q E s := by
  cases k with
  | true => exact wpAny_nextOf_list_item (show s.heap.IsListIter it l i from h1) (show s.heap.IsList l xs from h2) h3 fun h' a b => q h' a b
  | false =>
    obtain ⟨⟨o, e1, e2, e3⟩, ⟨p, f1, _, n, f3⟩⟩ := And.intro h1 h2
    have ty : s.TypeIs (.ref it) "tuple_iterator" := ⟨o, e1, e2⟩
    have body : wpAny (model prog w) A.in1 (Builtin.«tuple_iterator.__next__» ⟨[.ref it], []⟩) (fun fin s' => ∃ v, fin = .done (.ret v) ∧ wpAny (model prog w) A (pure v) Q E s') E s := by
      refine wpAny_bind (m := field (.ref it) 0) (wpAny_field e1 e3 (x := .ref l) rfl ?_)
      show wpAny _ _ (if (Value.ref l == Value.none) = true then _ else _) _ _ _
      rw [if_neg (show ¬ (Value.ref l == Value.none) = true from nofun)]
      refine wpAny_bind (m := field (.ref it) 1) (wpAny_field e1 e3 (x := .int i 0) rfl (wpAny_bind (m := seqItems? (.ref l)) (wpAny_seqItems f1 f3 ?_)))
      simp only [Int.toNat_natCast, h3]
      refine wpAny_bind (wpAny_setField e1 e3 (by simp) (wpAny_pure ⟨x, rfl, wpAny_pure (q _ ⟨_, Heap.get?_update_self _ e1 (Obj.isFreed_of_fields (Obj.data_mapFields e3 _)), (Obj.cls_mapFields ..).trans e2, ?_⟩ (Heap.SameBut.update ..))⟩))
      rw [Obj.data_mapFields e3]; simp [rawInt]
    unfold Builtin.SmallTypes.nextOf
    exact wpAny_bind (wpAny_callSpecial?_slot (name := Str.ofString "__next__") ty F.slot_tuple_iterator_next (wpAny_call_entry F.slot_tuple_iterator_next ty F.entry_tuple_iterator_next body (F.args_tuple_iterator_next_1 _)))
theorem sit_end {k : Bool} {it l : Addr} {i : Nat} {xs : Array Value} {Q : Value → Shared → Prop} (hh : A.handled = none) (h1 : SIt k s.heap it l i) (h2 : SSq k s.heap l xs) (h3 : xs[i]? = none) (q : ∀ h' e, Heap.ExtBut it s.heap h' → (∃ o, h'.get? e = some o ∧ o.cls = .type "StopIteration") → E (.ref e) { s with heap := h' }) : wpAny (model prog w) A (Builtin.SmallTypes.nextOf (.ref it)) Q E s := by
  cases k with
  | true => exact wpAny_nextOf_list_end hh (show s.heap.IsListIter it l i from h1) (show s.heap.IsList l xs from h2) h3 q
  | false =>
    obtain ⟨⟨o, e1, e2, e3⟩, ⟨p, f1, _, n, f3⟩⟩ := And.intro h1 h2
    have ty : s.TypeIs (.ref it) "tuple_iterator" := ⟨o, e1, e2⟩
    have body : ∀ P : Fin → Shared → Prop, wpAny (model prog w) A.in1 (Builtin.«tuple_iterator.__next__» ⟨[.ref it], []⟩) P E s := fun P => by
      refine wpAny_bind (m := field (.ref it) 0) (wpAny_field e1 e3 (x := .ref l) rfl ?_)
      show wpAny _ _ (if (Value.ref l == Value.none) = true then _ else _) _ _ _
      rw [if_neg (show ¬ (Value.ref l == Value.none) = true from nofun)]
      refine wpAny_bind (m := field (.ref it) 1) (wpAny_field e1 e3 (x := .int i 0) rfl (wpAny_bind (m := seqItems? (.ref l)) (wpAny_seqItems f1 f3 ?_)))
      simp only [Int.toNat_natCast, h3]
      refine wpAny_bind (wpAny_rule (wpAny_bind (wpAny_setField e1 e3 (by simp) (wpAny_bind (m := newExc (.type "StopIteration") []) ?_))))
      simp only [newExc, newTuple]
      refine wpAny_bind (wpAny_newObj_type (wpAny_bind (m := firstArgMember _ _) (wpAny_of_eq (a := Value.none) (by first | rfl | (simp only [firstArgMember]; rfl)) (wpAny_newObj_type ?_ (by size_fits)))) (by size_fits))
      simp only [raiseNew]
      refine wpAny_bind (wpAny_handled ?_)
      rw [show A.in1.handled = none from hh]
      exact wpAny_bind (wpAny_pure (wpAny_throw (q _ _ (((Heap.SameBut.update ..).extBut.push _).push _) ⟨_, Heap.get?_push_size _ rfl, rfl⟩)))
    unfold Builtin.SmallTypes.nextOf
    exact wpAny_bind (wpAny_callSpecial?_slot (name := Str.ofString "__next__") ty F.slot_tuple_iterator_next (wpAny_call_entry F.slot_tuple_iterator_next ty F.entry_tuple_iterator_next (body _) (F.args_tuple_iterator_next_1 _)))
theorem sit_make {k : Bool} {l : Addr} {xs : Array Value} {Q : Value → Shared → Prop} (h : SSq k s.heap l xs) (q : Q (.ref s.heap.objs.size) { s with heap := s.heap.push { cls := .type (if k then "list_iterator" else "tuple_iterator"), data := .fields #[.ref l, .int 0 0] } }) : wpAny (model prog w) A (pyIter (.ref l)) Q E s := by
  cases k with
  | true => exact wpAny_pyIter_list (show s.heap.IsList l xs from h) q
  | false => exact wpAny_pyIter_tuple (show s.heap.IsTuple l xs from h) q
end
end L2
namespace L2
open PySem PySem.Spec PyProof.Rows
structure ZApart (z TI TO i j : Addr) : Prop where
  a : TI ≠ z
  b : TO ≠ z
  c : i ≠ z
  d : j ≠ z
  e : TI ≠ TO
  f : TI ≠ i
  g : TI ≠ j
  h : TO ≠ i
  m : TO ≠ j
  n : i ≠ j
def Away (l : Addr) (z TO i j : Addr) : Prop := l ≠ z ∧ l ≠ TO ∧ l ≠ i ∧ l ≠ j
section
variable {prog : Program} {w : World} {A : Around} {E : Value → Shared → Prop} {s : Shared} {k1 k2 : Bool} {z TI TO i j l1 l2 : Addr} {m : Nat} {xs ys : Array Value} {a b : Value}
theorem SIt.but {k : Bool} {h h' : Heap} {it l c : Addr} {i : Nat} (x : SIt k h it l i) (y : Heap.SameBut c h h') (n : it ≠ c) : SIt k h' it l i := x.to fun o e => y.extBut _ _ n e
theorem SSq.but {k : Bool} {h h' : Heap} {l c : Addr} {xs : Array Value} (x : SSq k h l xs) (y : Heap.SameBut c h h') (n : l ≠ c) : SSq k h' l xs := x.to fun o e => y.extBut _ _ n e
theorem SIt.lt {k : Bool} {h : Heap} {it l : Addr} {i : Nat} (x : SIt k h it l i) : it < h.objs.size := let ⟨_, e, _⟩ := x; Heap.lt_size e
theorem zp_item {x y : Value} {Q : Option Value → Shared → Prop} (D : ZApart z TI TO i j) (D1 : Away l1 z TO i j) (D2 : Away l2 z TO i j) (hz : IsZip s.heap z TI TO .none) (hI : IsPair s.heap TI (.ref i) (.ref j)) (hO : IsPair s.heap TO a b)
    (h1 : SIt k1 s.heap i l1 m) (h2 : SIt k2 s.heap j l2 m) (g1 : SSq k1 s.heap l1 xs) (g2 : SSq k2 s.heap l2 ys) (hx : xs[m]? = some x) (hy : ys[m]? = some y)
    (q : ∀ h', IsZip h' z TI TO (rawInt s.heap.objs.size) → IsPair h' TO x y → SIt k1 h' i l1 (m + 1) → SIt k2 h' j l2 (m + 1) → IsPair h' s.heap.objs.size x y → h'.objs.size = s.heap.objs.size + 1 → (∀ c o, c ≠ z → c ≠ TO → c ≠ i → c ≠ j → s.heap.get? c = some o → h'.get? c = some o) → Q (some (.ref s.heap.objs.size)) { s with heap := h' }) :
    wpAny (model prog w) A (pyNext (.ref z)) Q E s := by
  have ty : s.TypeIs (.ref z) "zip" := ⟨_, hz, rfl⟩
  unfold pyNext
  refine wpAny_bind (wpAny_attempt (wpAny_callSpecial?_slot (name := Str.ofString "__next__") ty F.slot_zip_next (wpAny_call_entry F.slot_zip_next ty F.entry_zip_next ?_ (F.args_zip_next_1 _))))
  refine wpAny_bind (m := field (.ref z) 2) (wpAny_field hz rfl (x := .bool false) rfl (wpAny_bind (m := field (.ref z) 3) (wpAny_field hz rfl (x := .ref TI) rfl (wpAny_bind (wpAny_seqItems hI rfl (wpAny_bind (m := Builtin.SmallTypes.ownedTupleIsFree (.ref z)) ?_))))))
  unfold Builtin.SmallTypes.ownedTupleIsFree
  refine wpAny_bind (wpAny_field hz rfl (x := .none) rfl (wpAny_pure ?_))
  simp only [if_true]
  refine wpAny_bind (wpAny_rule (wpAny_bind (wpAny_field hz rfl (x := .ref TO) rfl (wpAny_bind (wpAny_setField_rec hz (by simp) fun e1 z1 s1 => wpAny_bind ?_)))))
  replace z1 : IsZip e1 z TI TO .ellipsis := z1
  simp only [List.zipIdx_cons, List.zipIdx_nil, List.forIn_cons, List.forIn_nil]
  refine wpAny_bind (wpAny_bind (wpAny_onRaise (wpAny_bind (m := Builtin.SmallTypes.nextOf (.ref i)) (sit_item (h1.but s1 D.c) (g1.but s1 D1.1) hx fun e2 i2 s2 => wpAny_pure ?_))))
  have o2 : IsPair e2 TO a b := s2.extBut _ _ D.h (s1.extBut _ _ D.b hO)
  refine wpAny_bind (wpAny_seqItems o2 rfl (wpAny_bind (wpAny_updateSeq_pair o2 fun e3 o3 s3 => wpAny_bind (wpAny_letGo (wpAny_pure ?_)))))
  replace o3 : IsPair e3 TO x b := o3
  refine wpAny_bind (wpAny_bind (wpAny_onRaise (wpAny_bind (m := Builtin.SmallTypes.nextOf (.ref j)) (sit_item (((h2.but s1 D.d).but s2 D.n.symm).but s3 D.m.symm) (((g2.but s1 D2.1).but s2 D2.2.2.1).but s3 D2.2.1) hy fun e4 i4 s4 => wpAny_pure ?_))))
  have o4 : IsPair e4 TO x b := s4.extBut _ _ D.m o3
  refine wpAny_bind (wpAny_seqItems o4 rfl (wpAny_bind (wpAny_updateSeq_pair o4 fun e5 o5 s5 => wpAny_bind (wpAny_letGo (wpAny_pure (wpAny_pure ?_))))))
  replace o5 : IsPair e5 TO x y := o5
  refine wpAny_bind (wpAny_seqItems o5 rfl (wpAny_bind (wpAny_newTuple ?_)))
  have sz : e5.objs.size = s.heap.objs.size := by rw [s5.1, s4.1, s3.1, s2.1, s1.1]
  have z5 : IsZip e5 z TI TO .ellipsis := s5.extBut _ _ D.b.symm (s4.extBut _ _ D.d.symm (s3.extBut _ _ D.b.symm (s2.extBut _ _ D.c.symm z1)))
  have keep : ∀ c o, c ≠ z → c ≠ TO → c ≠ i → c ≠ j → s.heap.get? c = some o → e5.get? c = some o := fun c o q1 q2 q3 q4 e => s5.extBut _ _ q2 (s4.extBut _ _ q4 (s3.extBut _ _ q2 (s2.extBut _ _ q3 (s1.extBut _ _ q1 e))))
  have i5 : SIt k1 e5 i l1 (m + 1) := ((i2.but s3 D.h.symm).but s4 D.n).but s5 D.h.symm
  have j5 : SIt k2 e5 j l2 (m + 1) := i4.but s5 D.m.symm
  have zl : z < e5.objs.size := Heap.lt_size z5
  refine wpAny_bind (m := Builtin.SmallTypes.ownedTupleHandOut (.ref z) (.ref e5.objs.size)) ?_
  unfold Builtin.SmallTypes.ownedTupleHandOut
  refine wpAny_bind (wpAny_setField_rec (show IsZip (e5.push { cls := .type "tuple", data := .seq #[x, y] }) z TI TO .ellipsis from Heap.get?_push_of_some _ z5) (by simp) fun e7 z7 s7 => ?_)
  replace z7 : IsZip e7 z TI TO (rawInt e5.objs.size) := z7
  refine wpAny_setField_rec z7 (by simp) fun e8 z8 s8 => ?_
  replace z8 : IsZip e8 z TI TO (rawInt e5.objs.size) := z8
  have up : ∀ c o, c ≠ z → e5.get? c = some o → e8.get? c = some o := fun c o n e => s8.extBut _ _ n (s7.extBut _ _ n (Heap.get?_push_of_some _ e))
  have t8 : IsPair e8 e5.objs.size x y := s8.extBut _ _ (Nat.ne_of_gt zl) (s7.extBut _ _ (Nat.ne_of_gt zl) (Heap.get?_push_size _ rfl))
  have n8 : e8.objs.size = e5.objs.size + 1 := by rw [s8.1, s7.1, Heap.size_push]
  rw [sz] at z8 t8 n8
  refine wpAny_pure ⟨_, rfl, wpAny_pure ?_⟩
  show Q (some (.ref e5.objs.size)) _
  rw [sz]
  exact q e8 z8 (up _ _ D.b o5) (i5.to fun o e => up _ o D.c e) (j5.to fun o e => up _ o D.d e) t8 n8 fun c o q1 q2 q3 q4 e => up c o q1 (keep c o q1 q2 q3 q4 e)
theorem zp_end {Q : Option Value → Shared → Prop} (hh : A.handled = none) (D : ZApart z TI TO i j) (D1 : Away l1 z TO i j) (D2 : Away l2 z TO i j) (hz : IsZip s.heap z TI TO .none) (hI : IsPair s.heap TI (.ref i) (.ref j)) (hO : IsPair s.heap TO a b)
    (h1 : SIt k1 s.heap i l1 m) (h2 : SIt k2 s.heap j l2 m) (g1 : SSq k1 s.heap l1 xs) (g2 : SSq k2 s.heap l2 ys) (hn : xs[m]? = none ∨ ys[m]? = none)
    (q : ∀ h', (∀ c o, c ≠ z → c ≠ TO → c ≠ i → c ≠ j → s.heap.get? c = some o → h'.get? c = some o) → Q none { s with heap := h' }) : wpAny (model prog w) A (pyNext (.ref z)) Q E s := by
  have ty : s.TypeIs (.ref z) "zip" := ⟨_, hz, rfl⟩
  unfold pyNext
  refine wpAny_bind (wpAny_attempt (wpAny_callSpecial?_slot (name := Str.ofString "__next__") ty F.slot_zip_next (wpAny_call_entry F.slot_zip_next ty F.entry_zip_next ?_ (F.args_zip_next_1 _))))
  have out : ∀ h' e, (∀ c o, c ≠ z → c ≠ TO → c ≠ i → c ≠ j → s.heap.get? c = some o → h'.get? c = some o) → (∃ o, h'.get? e = some o ∧ o.cls = .type "StopIteration") → wpAny (model prog w) A (isInstance (.ref e) (.type "StopIteration")) (fun r s' => r = true ∧ Q none s') E { s with heap := h' } := fun h' e k1 ⟨o, k2, k3⟩ =>
    wpAny_isInstance (T := "StopIteration") (b := true) ⟨o, k2, k3⟩ isSubtype_stop ⟨rfl, q h' k1⟩
  refine wpAny_bind (m := field (.ref z) 2) (wpAny_field hz rfl (x := .bool false) rfl (wpAny_bind (m := field (.ref z) 3) (wpAny_field hz rfl (x := .ref TI) rfl (wpAny_bind (wpAny_seqItems hI rfl (wpAny_bind (m := Builtin.SmallTypes.ownedTupleIsFree (.ref z)) ?_))))))
  unfold Builtin.SmallTypes.ownedTupleIsFree
  refine wpAny_bind (wpAny_field hz rfl (x := .none) rfl (wpAny_pure ?_))
  simp only [if_true]
  refine wpAny_bind (wpAny_rule (wpAny_bind (wpAny_field hz rfl (x := .ref TO) rfl (wpAny_bind (wpAny_setField_rec hz (by simp) fun e1 z1 s1 => wpAny_bind ?_)))))
  replace z1 : IsZip e1 z TI TO .ellipsis := z1
  simp only [List.zipIdx_cons, List.zipIdx_nil, List.forIn_cons, List.forIn_nil]
  refine wpAny_bind (wpAny_bind (wpAny_onRaise ?_))
  have fin : ∀ h' e, (∀ c o, c ≠ z → c ≠ TO → c ≠ i → c ≠ j → s.heap.get? c = some o → h'.get? c = some o) → (∃ o, h'.get? e = some o ∧ o.cls = .type "StopIteration") → wpAny (model prog w) A (isInstance (.ref e) (.type "StopIteration") >>= fun r => if r = true then pure none else throw (.ref e)) Q E { s with heap := h' } := fun h' e q1 q2 =>
    wpAny_bind (thn (out h' e q1 q2) fun r s' ⟨r1, r2⟩ => by subst r1; exact wpAny_pure r2)
  cases hx : xs[m]? with
  | none =>
    refine wpAny_bind (m := Builtin.SmallTypes.nextOf (.ref i)) (sit_end hh (h1.but s1 D.c) (g1.but s1 D1.1) hx fun e2 e s2 ⟨oe, he, hc⟩ => ?_)
    have z2 : IsZip e2 z TI TO .ellipsis := s2 _ _ D.c.symm z1
    have nz : e ≠ z := fun y => by subst y; rw [z2] at he; cases he; simp at hc
    exact wpAny_setField_rec z2 (by simp) fun e3 _ s3 => fin e3 e (fun c o q1 _ q3 _ y => s3.extBut _ _ q1 (s2 _ _ q3 (s1.extBut _ _ q1 y))) ⟨oe, s3.extBut _ _ nz he, hc⟩
  | some x =>
    have hy : ys[m]? = none := by rcases hn with h | h; rw [hx] at h; cases h; exact h
    refine wpAny_bind (m := Builtin.SmallTypes.nextOf (.ref i)) (sit_item (h1.but s1 D.c) (g1.but s1 D1.1) hx fun e2 i2 s2 => wpAny_pure ?_)
    have o2 : IsPair e2 TO a b := s2.extBut _ _ D.h (s1.extBut _ _ D.b hO)
    refine wpAny_bind (wpAny_seqItems o2 rfl (wpAny_bind (wpAny_updateSeq_pair o2 fun e3 o3 s3 => wpAny_bind (wpAny_letGo (wpAny_pure ?_)))))
    refine wpAny_bind (wpAny_bind (wpAny_onRaise (wpAny_bind (m := Builtin.SmallTypes.nextOf (.ref j)) (sit_end hh (((h2.but s1 D.d).but s2 D.n.symm).but s3 D.m.symm) (((g2.but s1 D2.1).but s2 D2.2.2.1).but s3 D2.2.1) hy fun e4 e s4 ⟨oe, he, hc⟩ => ?_))))
    have z4 : IsZip e4 z TI TO .ellipsis := s4 _ _ D.d.symm (s3.extBut _ _ D.b.symm (s2.extBut _ _ D.c.symm z1))
    have nz : e ≠ z := fun y => by subst y; rw [z4] at he; cases he; simp at hc
    exact wpAny_setField_rec z4 (by simp) fun e5 _ s5 => fin e5 e (fun c o q1 q2 q3 q4 y => s5.extBut _ _ q1 (s4 _ _ q4 (s3.extBut _ _ q2 (s2.extBut _ _ q3 (s1.extBut _ _ q1 y))))) ⟨oe, s5.extBut _ _ nz he, hc⟩
abbrev zHs (k1 k2 : Bool) (h : Heap) (l1 l2 : Addr) : Heap := (((((h.push { cls := .type (if k1 then "list_iterator" else "tuple_iterator"), data := .fields #[.ref l1, .int 0 0] }).push { cls := .type (if k2 then "list_iterator" else "tuple_iterator"), data := .fields #[.ref l2, .int 0 0] }).push
  { cls := .type "tuple", data := .seq #[.ref h.objs.size, .ref (h.push { cls := .type (if k1 then "list_iterator" else "tuple_iterator"), data := .fields #[.ref l1, .int 0 0] }).objs.size] }).push { cls := .type "tuple", data := .seq #[.none, .none] }))
abbrev zH2 (k1 k2 : Bool) (h : Heap) (l1 l2 : Addr) : Heap := (h.push { cls := .type (if k1 then "list_iterator" else "tuple_iterator"), data := .fields #[.ref l1, .int 0 0] }).push { cls := .type (if k2 then "list_iterator" else "tuple_iterator"), data := .fields #[.ref l2, .int 0 0] }
abbrev zH3 (k1 k2 : Bool) (h : Heap) (l1 l2 : Addr) : Heap := (zH2 k1 k2 h l1 l2).push { cls := .type "tuple", data := .seq #[.ref h.objs.size, .ref (h.push { cls := .type (if k1 then "list_iterator" else "tuple_iterator"), data := .fields #[.ref l1, .int 0 0] }).objs.size] }
theorem zp_new (k1 k2 : Bool) (l1 l2 : Addr) (xs ys : Array Value) : Meets (Builtin.«zip.__new__» ⟨[.type "zip", .ref l1, .ref l2], []⟩) (fun _ R s => SSq k1 s.heap l1 xs ∧ SSq k2 s.heap l2 ys ∧ R (.ok (.ret (.ref (zHs k1 k2 s.heap l1 l2).objs.size))) { s with heap := (zHs k1 k2 s.heap l1 l2).push { cls := .type "zip", data := .fields #[.none, .bool false, .bool false, .ref (zH2 k1 k2 s.heap l1 l2).objs.size, .ref (zH3 k1 k2 s.heap l1 l2).objs.size] } }) :=
  .of_wp fun prog w A R s h => by
    obtain ⟨hp, g, d, tk, os⟩ := s
    obtain ⟨f1, f2, h⟩ := h
    have hsub := sub_zip
    have g1 : SSq k1 (Shared.heap ⟨hp, g, d, tk, os⟩) l1 xs := f1
    have g2 : SSq k2 (Shared.heap ⟨hp.push { cls := .type (if k1 then "list_iterator" else "tuple_iterator"), data := .fields #[.ref l1, .int 0 0] }, g, d, tk, os⟩) l2 ys := f2.to fun o e => Heap.get?_push_of_some _ e
    wp_walk using sit_make g1, sit_make g2
    exact ⟨_, rfl, h⟩
theorem zp_call {Q : Value → Shared → Prop} (g1 : SSq k1 s.heap l1 xs) (g2 : SSq k2 s.heap l2 ys)
    (q : ∀ h', IsZip h' (s.heap.objs.size + 4) (s.heap.objs.size + 2) (s.heap.objs.size + 3) .none → IsPair h' (s.heap.objs.size + 2) (.ref s.heap.objs.size) (.ref (s.heap.objs.size + 1)) → IsPair h' (s.heap.objs.size + 3) .none .none → SIt k1 h' s.heap.objs.size l1 0 → SIt k2 h' (s.heap.objs.size + 1) l2 0 →
      (∀ c o, s.heap.get? c = some o → h'.get? c = some o) → Q (.ref (s.heap.objs.size + 4)) { s with heap := h' }) : wpAny (model prog w) A (call (.type "zip") [.ref l1, .ref l2]) Q E s := by
  refine callType_new F.called_zip (by decide) (F.typeCall_zip_2 _ _) (F.newCall_zip_2 _ _) (fun obj => F.args_object_init_3 obj _ _) F.entry_zip_new (zp_new k1 k2 l1 l2 xs ys) ⟨g1, g2, ?_⟩
  have n1 : (s.heap.push { cls := .type (if k1 then "list_iterator" else "tuple_iterator"), data := .fields #[.ref l1, .int 0 0] }).objs.size = s.heap.objs.size + 1 := Heap.size_push ..
  have n2 : (zH2 k1 k2 s.heap l1 l2).objs.size = s.heap.objs.size + 2 := by rw [Heap.size_push, n1]
  have n3 : (zH3 k1 k2 s.heap l1 l2).objs.size = s.heap.objs.size + 3 := by rw [Heap.size_push, n2]
  have n4 : (zHs k1 k2 s.heap l1 l2).objs.size = s.heap.objs.size + 4 := by rw [Heap.size_push, n3]
  generalize hZ : ({ cls := .type "zip", data := .fields #[.none, .bool false, .bool false, .ref (zH2 k1 k2 s.heap l1 l2).objs.size, .ref (zH3 k1 k2 s.heap l1 l2).objs.size] } : Obj) = zo
  have a5 : ((zHs k1 k2 s.heap l1 l2).push zo).get? (zHs k1 k2 s.heap l1 l2).objs.size = some zo := by subst hZ; exact Heap.get?_push_size _ rfl
  have a4 : ((zHs k1 k2 s.heap l1 l2).push zo).get? (zH3 k1 k2 s.heap l1 l2).objs.size = some { cls := .type "tuple", data := .seq #[.none, .none] } := Heap.get?_push_of_some _ (Heap.get?_push_size _ rfl)
  have a3 : ((zHs k1 k2 s.heap l1 l2).push zo).get? (zH2 k1 k2 s.heap l1 l2).objs.size = some { cls := .type "tuple", data := .seq #[.ref s.heap.objs.size, .ref (s.heap.push { cls := .type (if k1 then "list_iterator" else "tuple_iterator"), data := .fields #[.ref l1, .int 0 0] }).objs.size] } := Heap.get?_push_of_some _ (Heap.get?_push_of_some _ (Heap.get?_push_size _ rfl))
  have a2 : ((zHs k1 k2 s.heap l1 l2).push zo).get? (s.heap.push { cls := .type (if k1 then "list_iterator" else "tuple_iterator"), data := .fields #[.ref l1, .int 0 0] }).objs.size = some { cls := .type (if k2 then "list_iterator" else "tuple_iterator"), data := .fields #[.ref l2, .int 0 0] } := Heap.get?_push_of_some _ (Heap.get?_push_of_some _ (Heap.get?_push_of_some _ (Heap.get?_push_size _ rfl)))
  have a1 : ((zHs k1 k2 s.heap l1 l2).push zo).get? s.heap.objs.size = some { cls := .type (if k1 then "list_iterator" else "tuple_iterator"), data := .fields #[.ref l1, .int 0 0] } := Heap.get?_push_of_some _ (Heap.get?_push_of_some _ (Heap.get?_push_of_some _ (Heap.get?_push_of_some _ (Heap.get?_push_size _ rfl))))
  have kp : ∀ c o, s.heap.get? c = some o → ((zHs k1 k2 s.heap l1 l2).push zo).get? c = some o := fun c o x => Heap.get?_push_of_some _ (Heap.get?_push_of_some _ (Heap.get?_push_of_some _ (Heap.get?_push_of_some _ (Heap.get?_push_of_some _ x))))
  rw [n4] at a5
  rw [n1, n2] at a3
  rw [n3] at a4
  rw [n1] at a2
  have hc : zo.cls = .type "zip" := by subst hZ; rfl
  have hz : zo = { cls := .type "zip", dict := none, data := .fields #[.none, .bool false, .bool false, .ref (s.heap.objs.size + 2), .ref (s.heap.objs.size + 3)], slots := #[] } := by subst hZ; rw [n2, n3]
  rw [n4]
  exact ⟨⟨_, a5, hc⟩, q _ (a5.trans (congrArg some hz)) a3 a4 ⟨_, a1, rfl, rfl⟩ ⟨_, a2, rfl, rfl⟩ kp⟩
end
end L2
namespace L2
open PySem PySem.Spec PyProof.Rows
def Sq (K : PySem.W.Frag) (k : Bool) (H : Hp) (a : Addr) (xs : List V) : Prop := match k with | true => SqL K H a xs | false => SqT K H a xs
theorem Inv.sq {X : Cx} {pins : List (Addr × Obj)} {σ : St} {H : Hp} {s : Shared} {k : Bool} {a : Addr} {xs : List V} (I : Inv X pins σ H s) (h : Sq X.K k H a xs) : ∃ its : List Value, Vals xs its ∧ SSq k s.heap a its.toArray := by
  cases k with
  | true => obtain ⟨its, rv, p, _⟩ := I.list h; exact ⟨its, rv, p.isList⟩
  | false => obtain ⟨its, rv, p, _⟩ := I.tuple h; exact ⟨its, rv, (show s.heap.IsTuple a its.toArray from p)⟩
theorem Inv.sq_inj {X : Cx} {pins : List (Addr × Obj)} {σ : St} {H : Hp} {s : Shared} {k : Bool} {a : Addr} {xs ys : List V} (I : Inv X pins σ H s) (h : Sq X.K k H a xs) (h' : Sq X.K k H a ys) : xs = ys := by
  cases k with
  | true => exact I.list_inj h h'
  | false => exact I.tuple_inj h h'
theorem SSq.lt {k : Bool} {h : Heap} {l : Addr} {xs : Array Value} (x : SSq k h l xs) : l < h.objs.size := let ⟨_, e, _⟩ := x; Heap.lt_size e
def Itz2 (K : PySem.W.Frag) (k1 k2 : Bool) (a b : Addr) : It :=
  ⟨fun i H => ∃ (xs ys : List V) (x y : V), Sq K k1 H a xs ∧ Sq K k2 H b ys ∧ xs[i]? = some x ∧ ys[i]? = some y,
   fun i H v H' => ∃ T x y, v = .ref T ∧ H T = none ∧ H' = upd H T (.tup [x, y]) ∧ (∀ xs, Sq K k1 H a xs → xs[i]? = some x) ∧ ∀ ys, Sq K k2 H b ys → ys[i]? = some y,
   fun i H => ∃ xs ys : List V, Sq K k1 H a xs ∧ Sq K k2 H b ys ∧ (xs.length ≤ i ∨ ys.length ≤ i)⟩
theorem turn_zip2 {P : Program} {w : World} {K : PySem.W.Frag} {elts : List Expr} {kk : Nat} {tpos : Pos} {k1 k2 : Bool} {a b z TI TO i1 i2 : Addr} (D : ZApart z TI TO i1 i2) (D1 : Away a z TO i1 i2) (D2 : Away b z TO i1 i2) :
    Turn P w K (.Tuple elts kk tpos) (Itz2 K k1 k2 a b) [z, TI, TO, i1, i2] z (fun i h => IsZip h z TI TO .none ∧ IsPair h TI (.ref i1) (.ref i2) ∧ (∃ x y, IsPair h TO x y) ∧ SIt k1 h i1 a i ∧ SIt k2 h i2 b i) where
  mem := List.mem_cons_self
  obj := fun i h ⟨q1, q2, ⟨x, y, q3⟩, ⟨o1, e1, _, d1⟩, ⟨o2, e2, _, d2⟩⟩ c hc => by
    rcases (by simpa using hc : c = z ∨ c = TI ∨ c = TO ∨ c = i1 ∨ c = i2) with rfl | rfl | rfl | rfl | rfl
    · exact ⟨_, q1, nofun⟩
    · exact ⟨_, q2, nofun⟩
    · exact ⟨_, q3, nofun⟩
    · exact ⟨o1, e1, by rw [d1]; exact nofun⟩
    · exact ⟨o2, e2, by rw [d2]; exact nofun⟩
  keep := fun i h h' ⟨q1, q2, ⟨x, y, q3⟩, q4, q5⟩ k => ⟨k z (by simp) _ q1, k TI (by simp) _ q2, ⟨x, y, k TO (by simp) _ q3⟩, q4.to fun o e => k i1 (by simp) o e, q5.to fun o e => k i2 (by simp) o e⟩
  item := by
    intro X hP hw hK hc i pins s σ H E I hf ⟨q1, q2, ⟨x0, y0, q3⟩, q4, q5⟩ ⟨xs, ys, x, y, hqx, hqy, hx, hy⟩
    subst hP hw hK
    obtain ⟨its, rv, p⟩ := I.sq hqx
    obtain ⟨its2, rv2, p2⟩ := I.sq hqy
    obtain ⟨u, hu, ru⟩ := rv.get hx
    obtain ⟨u2, hu2, ru2⟩ := rv2.get hy
    have zl : z < s.heap.objs.size := Heap.lt_size q1
    refine zp_item D D1 D2 q1 q2 q3 q4 q5 p p2 (x := u) (y := u2) (by simpa using hu) (by simpa using hu2) fun h' z' O' j1 j2 hT hsz hk => ?_
    refine ⟨_, rfl, wpAny_letOwnedTupleGo_zip (s := { s with heap := h' }) z' fun h'' z'' sb => ?_⟩
    have hT2 : h''.get? s.heap.objs.size = some { cls := .type "tuple", data := .seq #[u, u2] } := (sb.2 _ (Nat.ne_of_gt zl)).trans hT
    have new : ObjOk X.prog X.w (upd H s.heap.objs.size (.tup [x, y])) h'' s.heap.objs.size (.tup [x, y]) := ⟨show 2 ≤ sizeLine by decide, [u, u2], .cons ru (.cons ru2 .nil), ⟨_, hT2, ⟨rfl, _, rfl⟩, rfl⟩⟩
    have I1 : Inv X pins σ (upd H s.heap.objs.size (.tup [x, y])) { s with heap := h'' } := I.turnedNew (t' := s.toks) (ch := [z, TI, TO, i1, i2]) (fun c o hb q => by
      simp only [List.mem_cons, List.not_mem_nil, or_false, not_or] at hb
      exact (sb.2 c hb.1).trans (hk c o hb.1 hb.2.2.1 hb.2.2.2.1 hb.2.2.2.2 q)) hf (Nat.le_refl _) new
    refine ⟨.ref s.heap.objs.size, _, I1, rfl, ⟨_, x, y, rfl, I.hok.fresh (Nat.le_refl _), rfl, fun l hl => by rw [I.sq_inj hl hqx]; exact hx, fun l hl => by rw [I.sq_inj hl hqy]; exact hy⟩, ⟨z'', ?_, ⟨u, u2, ?_⟩, ?_, ?_⟩, fun c hcm => ?_⟩
    · exact (sb.2 _ D.a).trans (hk _ _ D.a D.e D.f D.g q2)
    · exact (sb.2 _ D.b).trans O'
    · exact j1.to fun o q => (sb.2 _ D.c).trans q
    · exact j2.to fun o q => (sb.2 _ D.d).trans q
    · have hlt : c < s.heap.objs.size := by
        rcases (by simpa using hcm : c = z ∨ c = TI ∨ c = TO ∨ c = i1 ∨ c = i2) with rfl | rfl | rfl | rfl | rfl
        · exact zl
        · exact Heap.lt_size q2
        · exact Heap.lt_size q3
        · exact q4.lt
        · exact q5.lt
      rw [upd_ne (Nat.ne_of_lt hlt)]
      exact (hf c hcm).1
  done := by
    intro X hP hw hK hc i pins s σ H E I hf ⟨q1, q2, ⟨x0, y0, q3⟩, q4, q5⟩ ⟨xs, ys, hqx, hqy, hend⟩
    subst hP hw hK
    obtain ⟨its, rv, p⟩ := I.sq hqx
    obtain ⟨its2, rv2, p2⟩ := I.sq hqy
    have l1 := rv.length
    have l2 := rv2.length
    refine zp_end (I.ok.hd hc) D D1 D2 q1 q2 q3 q4 q5 p p2 (hend.imp (fun q => by simp; omega) fun q => by simp; omega) fun h' hk => ⟨rfl, I.turnedL (t' := s.toks) (ch := [z, TI, TO, i1, i2]) (fun c o hb q => ?_) hf⟩
    simp only [List.mem_cons, List.not_mem_nil, or_false, not_or] at hb
    exact hk c o hb.1 hb.2.2.1 hb.2.2.2.1 hb.2.2.2.2 q
  self := fun A i s Q E st h => wpAny_pyIter_zip st.1 h
def iZip2 (K : PySem.W.Frag) (ta : TA) : TI := fun σ H R => ta σ H fun vs H1 => ∃ k1 k2 a b xs ys, vs = [.ref a, .ref b] ∧ Sq K k1 H1 a xs ∧ Sq K k2 H1 b ys ∧ R (Itz2 K k1 k2 a b) H1
theorem pi_zip2 {X : Cx} {e e2 : Expr} {ta : TA} {p pos tpos : Pos} {elts : List Expr} {kk : Nat} (hg : Gl X "zip") (hm : X.mg "zip" = none) (ha : PA X [e, e2] ta) (hs : starEach [e, e2] X.env = (false, eval e X.env) :: starEach [e2] X.env := by rfl) (hpl : (backTo pos (starEach [e2] X.env)).any (·.1) = false := by rfl) :
    PI X (.Tuple elts kk tpos) (.Call (.Name "zip" p) [e, e2] [] pos) (iZip2 X.K ta) := by
  intro pins s σ H R I h
  refine Call_ (ld_blt I hg hm boot_zip5 (PyProof.Rows.callWith_type1 (thn (ha pos pins s σ H _ I h) fun us s1 ⟨vs, H1, I1, r1, k1, k2, a, b, xs, ys, ex, hqx, hqy, q⟩ => ?_) hs hpl))
  subst ex
  cases r1 with
  | cons r rr =>
    cases rr with
    | cons r' rr =>
      cases rr; cases r; cases r'
      obtain ⟨its, rv, p1⟩ := I1.sq hqx
      obtain ⟨its2, rv2, p2⟩ := I1.sq hqy
      have la := p1.lt
      have lb := p2.lt
      refine zp_call p1 p2 fun h' z1 z2 z3 j1 j2 hk => wpAny_pyIter_zip z1 ?_
      have I2 : Inv X pins σ H1 { s1 with heap := h' } := I1.kept (t' := s1.toks) hk
      have ne : ∀ {m n : Nat}, m ≠ n → s1.heap.objs.size + m ≠ s1.heap.objs.size + n := fun h e => h (Nat.add_left_cancel e)
      have lt : ∀ {c : Addr} (m : Nat), c < s1.heap.objs.size → c ≠ s1.heap.objs.size + m := fun m h => Nat.ne_of_lt (Nat.lt_of_lt_of_le h (Nat.le_add_right _ m))
      refine ⟨s1.heap.objs.size + 4, [s1.heap.objs.size + 4, s1.heap.objs.size + 2, s1.heap.objs.size + 3, s1.heap.objs.size, s1.heap.objs.size + 1], _, _, H1, rfl, I2,
        turn_zip2 ⟨ne (by decide), ne (by decide), ne (m := 0) (by decide), ne (by decide), ne (by decide), ne (n := 0) (by decide), ne (by decide), ne (n := 0) (by decide), ne (by decide), ne (m := 0) (by decide)⟩ ⟨lt 4 la, lt 3 la, lt 0 la, lt 1 la⟩ ⟨lt 4 lb, lt 3 lb, lt 0 lb, lt 1 lb⟩, ⟨z1, z2, ⟨_, _, z3⟩, j1, j2⟩, fun c hcm => ?_, q⟩
      have hle : s1.heap.objs.size ≤ c := by
        rcases (by simpa using hcm : c = s1.heap.objs.size + 4 ∨ c = s1.heap.objs.size + 2 ∨ c = s1.heap.objs.size + 3 ∨ c = s1.heap.objs.size ∨ c = s1.heap.objs.size + 1) with rfl | rfl | rfl | rfl | rfl
        · exact Nat.le_add_right _ _
        · exact Nat.le_add_right _ _
        · exact Nat.le_add_right _ _
        · exact Nat.le_refl _
        · exact Nat.le_add_right _ _
      exact I1.fpOk hle (I1.hok.fresh hle)
def seqD : Dt → Option (List Dt)
  | .list ds => some ds
  | .tuple ds => some ds
  | _ => none
theorem seqD_sq {K : PySem.W.Frag} {I : Hp} {v : V} {d : Dt} {ds : List Dt} (h : Dp K I v d) (e : seqD d = some ds) : ∃ k a xs, v = .ref a ∧ Sq K k I a xs ∧ DpAll K I xs ds := by
  cases h with
  | @lst a xs es h1 h2 => cases e; exact ⟨true, a, xs, rfl, h1, h2⟩
  | @tup a xs es h1 h2 => cases e; exact ⟨false, a, xs, rfl, h1, h2⟩
  | _ => cases e
theorem Sq.up {K : PySem.W.Frag} {I I' : Hp} {k : Bool} {a : Addr} {xs : List V} (s : Same I I') (h : Sq K k I a xs) : Sq K k I' a xs := by
  cases k with
  | true => exact SqL.up s h
  | false => exact SqT.up s h
theorem Sq.sz {K : PySem.W.Frag} {I : Hp} {k : Bool} {a : Addr} {xs : List V} (z : SzOk I) (h : Sq K k I a xs) : xs.length ≤ sizeLine := by
  cases k with
  | true => exact SqL.sz z h
  | false => exact SqT.sz z h
def pairD (d e : Dt) : Dt := .tuple [d, e]
def zipI (fr : FA) : FI := fun ρ => (fr ρ).bind fun (ds, ρ1) => match ds with
  | [x, y] => (seqD x).bind fun xs => (seqD y).bind fun ys => some (List.zipWith pairD xs ys, ρ1)
  | _ => none
section
variable {bs : Md}
theorem walk_zip {K : PySem.W.Frag} {I : Hp} {k1 k2 : Bool} {a b : Addr} {xs ys : List V} {ds es : List Dt} (h1 : Sq K k1 I a xs) (g1 : DpAll K I xs ds) (h2 : Sq K k2 I b ys) (g2 : DpAll K I ys es) : Walk K bs (Itz2 K k1 k2 a b) I (List.zipWith pairD ds es) := by
  intro i F σ H I' ρ s R
  have q1 := Sq.up (s.trans R.sub) h1
  have q2 := Sq.up (s.trans R.sub) h2
  refine ⟨fun d hd => ?_, fun hi => ⟨xs, ys, q1, q2, ?_⟩⟩
  · rw [List.getElem?_zipWith] at hd
    cases e1 : ds[i]? with
    | none => rw [e1] at hd; cases hd
    | some x =>
      cases e2 : es[i]? with
      | none => rw [e1, e2] at hd; cases hd
      | some y =>
        rw [e1, e2] at hd; cases hd
        obtain ⟨v, v1, v2⟩ := g1.get e1
        obtain ⟨u, u1, u2⟩ := g2.get e2
        refine ⟨⟨xs, ys, v, u, q1, q2, v1, u1⟩, fun x' H' ⟨T, x2, y2, ex, hT, hH, k1', k2'⟩ => ?_⟩
        subst ex hH
        have w1 := k1' xs q1
        have w2 := k2' ys q2
        rw [v1] at w1; rw [u1] at w2; cases w1; cases w2
        have gr := Grow.tup R.sub R.sz hT (xs := [v, u]) (show 2 ≤ sizeLine by decide)
        exact ⟨_, gr, .tup (.inl upd_same) (.cons (Dp.up gr.ii (Dp.up s v2)) (.cons (Dp.up gr.ii (Dp.up s u2)) .nil))⟩
  · rw [List.length_zipWith] at hi
    rw [g1.length, g2.length]; omega
theorem qi_zip {X : Cx} {a b : Expr} {p pos tpos : Pos} {elts : List Expr} {kk : Nat} {fr : FA} (hm : X.mg "zip" = none) (ha : QA X bs [a, b] [none, none] fr) (hg : Gl X "zip" := by rfl) (hs : starEach [a, b] X.env = (false, eval a X.env) :: starEach [b] X.env := by rfl) (hpl : (backTo pos (starEach [b] X.env)).any (·.1) = false := by rfl) :
    QI X bs (.Tuple elts kk tpos) (.Call (.Name "zip" p) [a, b] [] pos) (zipI fr) :=
  ⟨PI.weak (pi_zip2 hg hm ha.pa hs hpl) fun σ H Q ⟨F, I, ρ, ds, ρ', R, e, k⟩ => by
    obtain ⟨⟨as, ρ1⟩, e1, e⟩ := bind_some e
    refine ⟨F, I, ρ, as, ρ1, R, e1, fun vs H1 I1 s1 R1 dv => ?_⟩
    cases dv with
    | val d1 r =>
      cases r with
      | val d2 r =>
        cases r
        obtain ⟨xs, e2, e⟩ := bind_some (show ((seqD _).bind fun xs => (seqD _).bind fun ys => some (List.zipWith pairD xs ys, ρ1)) = some (ds, ρ') from e)
        obtain ⟨ys, e3, e⟩ := bind_some e
        cases e
        obtain ⟨k1, a1, us, rfl, w1, w2⟩ := seqD_sq d1 e2
        obtain ⟨k2, a2, ws, rfl, w3, w4⟩ := seqD_sq d2 e3
        refine ⟨k1, k2, a1, a2, us, ws, rfl, w1.up R1.sub, w3.up R1.sub, k _ H1 I1 s1 R1 (walk_zip w1 w2 w3 w4) ?_⟩
        have := w1.sz R1.sz
        rw [List.length_zipWith, ← w2.length]; omega⟩
end
end L2
namespace L2
open PySem PySem.Spec PyProof.Rows
section
variable {prog : Program} {w : World} {A : Around} {E : Value → Shared → Prop} {s : Shared} {k : Bool} {en it l : Addr} {m : Nat} {xs : Array Value} {old : Value}
theorem en_item {x : Value} {Q : Option Value → Shared → Prop} (he : IsEnum s.heap en it m old) (h1 : SIt k s.heap it l m) (g1 : SSq k s.heap l xs) (hx : xs[m]? = some x) (ne : en ≠ it)
    (q : ∀ h', IsEnumOut h' en it ((m : Int) + 1) x s.heap.objs.size → SIt k h' it l (m + 1) → h'.get? s.heap.objs.size = some { cls := .type "tuple", data := .seq #[.int m s.toks, x] } → h'.objs.size = s.heap.objs.size + 1 → (∀ b o, b ≠ en → b ≠ it → s.heap.get? b = some o → h'.get? b = some o) → Q (some (.ref s.heap.objs.size)) { s with heap := h', toks := s.toks + 1 }) :
    wpAny (model prog w) A (pyNext (.ref en)) Q E s := by
  have ty : s.TypeIs (.ref en) "enumerate" := ⟨_, he, rfl⟩
  unfold pyNext
  refine wpAny_bind (wpAny_attempt (wpAny_callSpecial?_slot (name := Str.ofString "__next__") ty F.slot_enumerate_next (wpAny_call_entry F.slot_enumerate_next ty F.entry_enumerate_next ?_ (F.args_enumerate_next_1 _))))
  obtain ⟨hp, gg, dd, tk, os⟩ := s
  refine wpAny_bind (m := field (.ref en) 2) (wpAny_field he rfl (x := .ref it) rfl (wpAny_bind (sit_item h1 g1 hx fun e1 i1 s1 => ?_)))
  replace s1 : Heap.SameBut it hp e1 := s1
  have n1 : IsEnum e1 en it m old := (s1.2 en ne).trans he
  refine wpAny_bind (m := field (.ref en) 3) (s := ⟨e1, gg, dd, tk, os⟩) (wpAny_field n1 rfl (x := rawInt m) rfl ?_)
  refine wpAny_bind (m := field (.ref en) 4) (s := ⟨e1, gg, dd, tk, os⟩) (wpAny_field n1 rfl (x := .none) rfl ?_)
  refine wpAny_bind (m := mkInt m) (s := ⟨e1, gg, dd, tk, os⟩) (wpAny_mkInt ?_)
  refine wpAny_bind (m := setField (.ref en) 3 (rawInt ((m : Int) + 1))) (s := ⟨e1, gg, dd, tk + 1, os⟩) (wpAny_setField_rec n1 (by simp) fun e2 n2 s2 => ?_)
  replace s2 : Heap.SameBut en e1 e2 := s2
  replace n2 : IsEnum e2 en it ((m : Int) + 1) old := n2
  refine wpAny_bind (m := setField (.ref en) 4 .none) (s := ⟨e2, gg, dd, tk + 1, os⟩) (wpAny_setField_rec n2 (by simp) fun e3 n3 s3 => ?_)
  replace s3 : Heap.SameBut en e2 e3 := s3
  replace n3 : IsEnum e3 en it ((m : Int) + 1) old := n3
  refine wpAny_bind (m := newTuple [.int m tk, x]) (s := ⟨e3, gg, dd, tk + 1, os⟩) (wpAny_newTuple ?_)
  have n4 : IsEnum (e3.push { cls := .type "tuple", data := .seq #[.int m tk, x] }) en it ((m : Int) + 1) old := Heap.get?_push_of_some _ n3
  generalize hq : e3.push { cls := .type "tuple", data := .seq #[.int m tk, x] } = e4 at n4
  have sz : e3.objs.size = hp.objs.size := by rw [s3.1, s2.1, s1.1]
  have el : en < hp.objs.size := Heap.lt_size he
  have t4 : e4.get? hp.objs.size = some { cls := .type "tuple", data := .seq #[.int m tk, x] } := by rw [← hq, ← sz]; exact Heap.get?_push_size _ rfl
  have z4 : e4.objs.size = hp.objs.size + 1 := by rw [← hq, Heap.size_push, sz]
  have k4 : ∀ b o, b ≠ en → b ≠ it → hp.get? b = some o → e4.get? b = some o := fun b o b1 b2 e => by
    rw [← hq]; exact Heap.get?_push_of_some _ (s3.extBut b o b1 (s2.extBut b o b1 (s1.extBut b o b2 e)))
  have i4 : SIt k e4 it l (m + 1) := by rw [← hq]; exact ((i1.but s2 ne.symm).but s3 ne.symm).to fun o e => Heap.get?_push_of_some _ e
  refine wpAny_bind (m := Builtin.SmallTypes.ownedTupleIsFree (.ref en)) (s := ⟨e4, gg, dd, tk + 1, os⟩) ?_
  rw [sz]
  clear hq n3 s3 n2 s2 n1 s1 i1 sz e3 e2 e1
  unfold Builtin.SmallTypes.ownedTupleIsFree
  refine wpAny_bind (wpAny_field n4 rfl (x := .none) rfl (wpAny_pure ?_))
  simp only [if_true]
  refine wpAny_bind (wpAny_rule (wpAny_bind (wpAny_field n4 rfl (x := old) rfl (wpAny_bind (wpAny_setField_rec n4 (by simp) fun e5 n5 s5 => ?_)))))
  replace s5 : Heap.SameBut en e4 e5 := s5
  replace n5 : IsEnum e5 en it ((m : Int) + 1) x := n5
  refine wpAny_bind (m := Builtin.SmallTypes.ownedTupleHandOut (.ref en) (.ref hp.objs.size)) (s := ⟨e5, gg, dd, tk + 1, os⟩) ?_
  unfold Builtin.SmallTypes.ownedTupleHandOut
  refine wpAny_bind (wpAny_setField_rec n5 (by simp) fun e6 n6 s6 => ?_)
  replace s6 : Heap.SameBut en e5 e6 := s6
  replace n6 : IsEnumOut e6 en it ((m : Int) + 1) x hp.objs.size := n6
  refine wpAny_setField_rec n6 (by simp) fun e7 n7 s7 => ?_
  replace s7 : Heap.SameBut en e6 e7 := s7
  replace n7 : IsEnumOut e7 en it ((m : Int) + 1) x hp.objs.size := n7
  have up : ∀ b o, b ≠ en → e4.get? b = some o → e7.get? b = some o := fun b o b1 e => s7.extBut b o b1 (s6.extBut b o b1 (s5.extBut b o b1 e))
  exact wpAny_bind (wpAny_letGo (wpAny_pure ⟨_, rfl, wpAny_pure (q e7 n7 (i4.to fun o e => up it o ne.symm e) (up _ _ (Nat.ne_of_gt el) t4) (by rw [s7.1, s6.1, s5.1, z4]) fun b o b1 b2 e => up b o b1 (k4 b o b1 b2 e))⟩))
theorem en_end {Q : Option Value → Shared → Prop} {n : Int} (hh : A.handled = none) (he : IsEnum s.heap en it n old) (h1 : SIt k s.heap it l m) (g1 : SSq k s.heap l xs) (hx : xs[m]? = none) (q : ∀ h', Heap.ExtBut it s.heap h' → Q none { s with heap := h' }) : wpAny (model prog w) A (pyNext (.ref en)) Q E s := by
  have ty : s.TypeIs (.ref en) "enumerate" := ⟨_, he, rfl⟩
  unfold pyNext
  refine wpAny_bind (wpAny_attempt (wpAny_callSpecial?_slot (name := Str.ofString "__next__") ty F.slot_enumerate_next (wpAny_call_entry F.slot_enumerate_next ty F.entry_enumerate_next ?_ (F.args_enumerate_next_1 _))))
  refine wpAny_bind (m := field (.ref en) 2) (wpAny_field he rfl (x := .ref it) rfl (wpAny_bind (sit_end hh h1 g1 hx fun h' x k1 ⟨o, k2, k3⟩ => ?_)))
  exact wpAny_bind (wpAny_isInstance (T := "StopIteration") (b := true) ⟨o, k2, k3⟩ isSubtype_stop (wpAny_pure (q _ k1)))
theorem en_new (k : Bool) (l : Addr) (xs : Array Value) : Meets (Builtin.«enumerate.__new__» ⟨[.type "enumerate", .ref l], []⟩) (fun _ R s => SSq k s.heap l xs ∧ R (.ok (.ret (.ref (s.heap.push { cls := .type (if k then "list_iterator" else "tuple_iterator"), data := .fields #[.ref l, .int 0 0] }).objs.size)))
    { s with heap := (s.heap.push { cls := .type (if k then "list_iterator" else "tuple_iterator"), data := .fields #[.ref l, .int 0 0] }).push { cls := .type "enumerate", data := .fields #[.none, .bool false, .ref s.heap.objs.size, rawInt 0, .none, .none] } }) :=
  .of_wp fun prog w A R s h => by
    obtain ⟨hp, g, d, tk, os⟩ := s
    obtain ⟨f1, h⟩ := h
    have hsub := sub_enumerate
    have g1 : SSq k (Shared.heap ⟨hp, g, d, tk, os⟩) l xs := f1
    wp_walk
    refine wpAny_stack_any fun st => wpAny_pure ?_
    split
    · rename_i c _ _ _ _ _
      cases (c == Value.type "enumerate") <;> (wp_walk using sit_make g1; exact ⟨_, rfl, h⟩)
    · wp_walk using sit_make g1
      exact ⟨_, rfl, h⟩
theorem en_call {Q : Value → Shared → Prop} (g1 : SSq k s.heap l xs) (q : ∀ h', IsEnum h' (s.heap.objs.size + 1) s.heap.objs.size 0 .none → SIt k h' s.heap.objs.size l 0 → (∀ b o, s.heap.get? b = some o → h'.get? b = some o) → Q (.ref (s.heap.objs.size + 1)) { s with heap := h' }) :
    wpAny (model prog w) A (call (.type "enumerate") [.ref l]) Q E s := by
  refine callType_new F.called_enumerate (by decide) (F.typeCall_enumerate_1 _) (F.newCall_enumerate_1 _) (fun obj => F.args_object_init_2 obj _) F.entry_enumerate_new (en_new k l xs) ⟨g1, ?_⟩
  have n1 : (s.heap.push { cls := .type (if k then "list_iterator" else "tuple_iterator"), data := .fields #[.ref l, .int 0 0] }).objs.size = s.heap.objs.size + 1 := Heap.size_push ..
  have a1 : ((s.heap.push { cls := .type (if k then "list_iterator" else "tuple_iterator"), data := .fields #[.ref l, .int 0 0] }).push { cls := .type "enumerate", data := .fields #[.none, .bool false, .ref s.heap.objs.size, rawInt 0, .none, .none] }).get? (s.heap.push { cls := .type (if k then "list_iterator" else "tuple_iterator"), data := .fields #[.ref l, .int 0 0] }).objs.size = some { cls := .type "enumerate", data := .fields #[.none, .bool false, .ref s.heap.objs.size, rawInt 0, .none, .none] } := Heap.get?_push_size _ rfl
  rw [n1] at a1 ⊢
  exact ⟨⟨_, a1, rfl⟩, q _ a1 ⟨_, Heap.get?_push_of_some _ (Heap.get?_push_size _ rfl), rfl, rfl⟩ fun b o x => Heap.get?_push_of_some _ (Heap.get?_push_of_some _ x)⟩
end
def Ite2 (K : PySem.W.Frag) (k : Bool) (a : Addr) : It :=
  ⟨fun i H => ∃ (xs : List V) (x : V), Sq K k H a xs ∧ xs[i]? = some x, fun i H v H' => ∃ T x, v = .ref T ∧ H T = none ∧ H' = upd H T (.tup [.int (i : Nat), x]) ∧ ∀ xs, Sq K k H a xs → xs[i]? = some x, fun i H => ∃ xs : List V, Sq K k H a xs ∧ xs.length ≤ i⟩
theorem turn_enum2 {P : Program} {w : World} {K : PySem.W.Frag} {elts : List Expr} {kk : Nat} {tpos : Pos} {k : Bool} (a e it : Addr) : Turn P w K (.Tuple elts kk tpos) (Ite2 K k a) [e, it] e (fun i h => (∃ old, IsEnum h e it ((i : Nat) : Int) old) ∧ SIt k h it a i ∧ e ≠ it) where
  mem := List.mem_cons_self
  obj := fun i h ⟨⟨old, he⟩, ⟨o, ho, hc, hd⟩, _⟩ b hb => by
    rcases (by simpa using hb : b = e ∨ b = it) with rfl | rfl
    · exact ⟨_, he, nofun⟩
    · exact ⟨o, ho, by rw [hd]; exact nofun⟩
  keep := fun i h h' ⟨⟨old, he⟩, hi, hne⟩ k => ⟨⟨old, k e (by simp) _ he⟩, hi.to fun o q => k it (by simp) o q, hne⟩
  item := by
    intro X hP hw hK hc i pins s σ H E I hf ⟨⟨old, he⟩, hit, hne⟩ ⟨xs, x, hq, hx⟩
    subst hP hw hK
    obtain ⟨its, rv, p⟩ := I.sq hq
    obtain ⟨u, hu, ru⟩ := rv.get hx
    have hel : e < s.heap.objs.size := Heap.lt_size he
    have hil : it < s.heap.objs.size := hit.lt
    refine en_item he hit p (x := u) (by simpa using hu) hne fun h' ho hit' hT hsz hk => ⟨_, rfl, wpAny_letOwnedTupleGo_enum (s := { s with heap := h', toks := s.toks + 1 }) ho fun h'' he' sb => ?_⟩
    have hT2 : h''.get? s.heap.objs.size = some { cls := .type "tuple", data := .seq #[.int i s.toks, u] } := (sb.2 _ (Nat.ne_of_gt hel)).trans hT
    have new : ObjOk X.prog X.w (upd H s.heap.objs.size (.tup [.int (i : Nat), x])) h'' s.heap.objs.size (.tup [.int (i : Nat), x]) := ⟨show 2 ≤ sizeLine by decide, [.int i s.toks, u], .cons ⟨_, rfl⟩ (.cons ru .nil), ⟨_, hT2, ⟨rfl, _, rfl⟩, rfl⟩⟩
    have I1 : Inv X pins σ (upd H s.heap.objs.size (.tup [.int (i : Nat), x])) { s with heap := h'', toks := s.toks + 1 } := I.turnedNew (ch := [e, it]) (fun b ob hb q => by
      simp only [List.mem_cons, List.not_mem_nil, or_false, not_or] at hb
      exact (sb.2 b hb.1).trans (hk b ob hb.1 hb.2 q)) hf (Nat.le_refl _) new
    refine ⟨.ref s.heap.objs.size, _, I1, rfl, ⟨_, x, rfl, I.hok.fresh (Nat.le_refl _), rfl, fun ys hy => by rw [I.sq_inj hy hq]; exact hx⟩, ⟨⟨u, ?_⟩, hit'.to fun o q => (sb.2 it (Ne.symm hne)).trans q, hne⟩, fun b hb => ?_⟩
    · rw [show ((i + 1 : Nat) : Int) = (i : Int) + 1 by omega]; exact he'
    · have hb' : b < s.heap.objs.size := by
        rcases (by simpa using hb : b = e ∨ b = it) with rfl | rfl
        · exact hel
        · exact hil
      rw [upd_ne (Nat.ne_of_lt hb')]
      exact (hf b hb).1
  done := by
    intro X hP hw hK hc i pins s σ H E I hf ⟨⟨old, he⟩, hit, hne⟩ ⟨xs, hq, hx⟩
    subst hP hw hK
    obtain ⟨its, rv, p⟩ := I.sq hq
    obtain ⟨f0, f1, f2, f3, f4, f5⟩ := hf it (by simp)
    have hl := rv.length
    exact en_end (I.ok.hd hc) he hit p (by simp; omega) fun h' eb => ⟨rfl, I.turned (t' := s.toks) (fun b o hb q => eb b o hb q) f0 f1 f3 f4 f5⟩
  self := fun A i s Q E ⟨⟨_, he⟩, _⟩ h => wpAny_pyIter_enum he h
def iEnum2 (K : PySem.W.Frag) (ta : TA) : TI := fun σ H R => ta σ H fun vs H1 => ∃ k a xs, vs = [.ref a] ∧ Sq K k H1 a xs ∧ R (Ite2 K k a) H1
theorem pi_enum2 {X : Cx} {e : Expr} {ta : TA} {p pos tpos : Pos} {elts : List Expr} {kk : Nat} (hg : Gl X "enumerate") (hm : X.mg "enumerate" = none) (ha : PA X [e] ta) (hs : starEach [e] X.env = [(false, eval e X.env)] := by rfl) : PI X (.Tuple elts kk tpos) (.Call (.Name "enumerate" p) [e] [] pos) (iEnum2 X.K ta) := by
  intro pins s σ H R I h
  refine Call_ (ld_blt I hg hm boot_enumerate (PyProof.Rows.callWith_type1 (thn (ha pos pins s σ H _ I h) fun us s1 ⟨vs, H1, I1, r1, k, a, xs, ex, hq, q⟩ => ?_) hs rfl))
  subst ex
  cases r1 with
  | cons r rr =>
    cases rr; cases r
    obtain ⟨its, rv, p'⟩ := I1.sq hq
    refine en_call p' fun h' he hit hk => wpAny_pyIter_enum he ?_
    have I2 : Inv X pins σ H1 { s1 with heap := h' } := I1.kept (t' := s1.toks) hk
    refine ⟨s1.heap.objs.size + 1, [s1.heap.objs.size + 1, s1.heap.objs.size], _, _, H1, rfl, I2, turn_enum2 a (s1.heap.objs.size + 1) s1.heap.objs.size, ⟨⟨.none, he⟩, hit, Nat.succ_ne_self _⟩, fun b hb => ?_, q⟩
    have hle : s1.heap.objs.size ≤ b := by
      rcases (by simpa using hb : b = s1.heap.objs.size + 1 ∨ b = s1.heap.objs.size) with rfl | rfl
      · exact Nat.le_add_right _ _
      · exact Nat.le_refl _
    exact I1.fpOk hle (I1.hok.fresh hle)
def enumD (ds : List Dt) : List Dt := List.zipWith (fun (i : Nat) d => pairD (.int i) d) (List.range ds.length) ds
theorem enumD_len (ds : List Dt) : (enumD ds).length = ds.length := by unfold enumD; rw [List.length_zipWith, List.length_range]; omega
theorem enumD_get {ds : List Dt} {i : Nat} {d : Dt} (h : (enumD ds)[i]? = some d) : ∃ x, ds[i]? = some x ∧ d = pairD (.int (i : Nat)) x := by
  unfold enumD at h
  rw [List.getElem?_zipWith] at h
  cases e : ds[i]? with
  | none => rw [e] at h; cases q : (List.range ds.length)[i]? <;> rw [q] at h <;> cases h
  | some x =>
    have hi := (List.getElem?_eq_some_iff.mp e).1
    rw [e, List.getElem?_range hi] at h
    cases h; exact ⟨x, rfl, rfl⟩
def enumI (fr : FA) : FI := fun ρ => (fr ρ).bind fun (ds, ρ1) => match ds with
  | [x] => (seqD x).bind fun xs => some (enumD xs, ρ1)
  | _ => none
section
variable {bs : Md}
theorem walk_enum {K : PySem.W.Frag} {I : Hp} {k : Bool} {a : Addr} {xs : List V} {ds : List Dt} (h1 : Sq K k I a xs) (g1 : DpAll K I xs ds) : Walk K bs (Ite2 K k a) I (enumD ds) := by
  intro i F σ H I' ρ s R
  have q1 := Sq.up (s.trans R.sub) h1
  refine ⟨fun d hd => ?_, fun hi => ⟨xs, q1, by rw [enumD_len] at hi; rw [g1.length]; exact hi⟩⟩
  obtain ⟨x, e1, rfl⟩ := enumD_get hd
  obtain ⟨v, v1, v2⟩ := g1.get e1
  refine ⟨⟨xs, v, q1, v1⟩, fun x' H' ⟨T, x2, ex, hT, hH, k1'⟩ => ?_⟩
  subst ex hH
  have w1 := k1' xs q1
  rw [v1] at w1; cases w1
  have gr := Grow.tup R.sub R.sz hT (xs := [.int (i : Nat), v]) (show 2 ≤ sizeLine by decide)
  exact ⟨_, gr, .tup (.inl upd_same) (.cons (.int _) (.cons (Dp.up gr.ii (Dp.up s v2)) .nil))⟩
theorem qi_enum {X : Cx} {a : Expr} {p pos tpos : Pos} {elts : List Expr} {kk : Nat} {fr : FA} (hm : X.mg "enumerate" = none) (ha : QA X bs [a] [none] fr) (hg : Gl X "enumerate" := by rfl) (hs : starEach [a] X.env = [(false, eval a X.env)] := by rfl) : QI X bs (.Tuple elts kk tpos) (.Call (.Name "enumerate" p) [a] [] pos) (enumI fr) :=
  ⟨PI.weak (pi_enum2 hg hm ha.pa hs) fun σ H Q ⟨F, I, ρ, ds, ρ', R, e, k⟩ => by
    obtain ⟨⟨as, ρ1⟩, e1, e⟩ := bind_some e
    refine ⟨F, I, ρ, as, ρ1, R, e1, fun vs H1 I1 s1 R1 dv => ?_⟩
    cases dv with
    | val d1 r =>
      cases r
      obtain ⟨xs, e2, e⟩ := bind_some (show ((seqD _).bind fun xs => some (enumD xs, ρ1)) = some (ds, ρ') from e)
      cases e
      obtain ⟨k1, a1, us, rfl, w1, w2⟩ := seqD_sq d1 e2
      refine ⟨k1, a1, us, rfl, w1.up R1.sub, k _ H1 I1 s1 R1 (walk_enum w1 w2) ?_⟩
      have := w1.sz R1.sz
      rw [enumD_len, ← w2.length]; omega⟩
end
end L2
namespace L2
open PySem PySem.Spec PyProof.Rows
section
variable {prog : Program} {w : World} {A : Around} {E : Value → Shared → Prop} {s : Shared}
open AutoSeq1 (wpAny_loadPart')
end
section
variable {X : Cx} {bs : Md} {pos p pos2 p2 : Pos} {a b : Expr} {fa fb : FE} {fr : FA}
def trngF (fr : FA) : FE := fun ρ => (fr ρ).bind fun (ds, ρ1) => match ds with
  | [.int j] => if -(2 ^ 62) ≤ j ∧ j ≤ 16777216 then some (.tuple (rngD 0 j.toNat), ρ1) else none
  | _ => none
end
end L2
namespace L2
open PySem PySem.Spec PyProof.Rows
section
variable {prog : Program} {w : World} {A : Around} {E : Value → Shared → Prop} {s : Shared}
end
end L2
namespace L2
open PySem PySem.Spec PyProof.Rows
abbrev gfBd (c elt : Expr) (yp ep ip : Pos) : List Stmt := [.If c [.Expr (.Yield (some elt) yp) ep] [] ip]
end L2
namespace L2
open PySem PySem.Spec PyProof.Rows
end L2
namespace L2
open PySem PySem.Spec PyProof.Rows
abbrev Cx.gf (X : Cx) (A : Around) (N : List Str) (qual : Str) (scope : Scope) (f : Addr) (cd : Value) (s : Shared) (H : Hp) : Cx := (cxOf CX0 X.prog X.w X.K X.mg X.base N qual scope f cd A X.stack s H E0).nox
section
variable {X : Cx} {pins : List (Addr × Obj)} {σ : St} {H : Hp} {s : Shared} {x qual : Str} {st : Stmt} {f : Addr} {fd : FuncData} {N ps : List Str} {A : Around}
end
section
variable {GX X : Cx} {A : Around} {a : Addr} {go : Obj} {g : Nat} {C : V → Hp → (Hp → Prop) → Prop} {Eq : Hp → Prop}
end
end L2
namespace L2
open PySem PySem.Spec PyProof.Rows
section
variable {GX : Cx} {A : Around} {a S : Addr} {go : Obj} {g : Nat} {Eq : Hp → Prop}
end
end L2
namespace L2
open PySem PySem.Spec PyProof.Rows
structure GfAt (X : Cx) (A : Around) (x : Str) (st : Stmt) (f : Addr) (fd : FuncData) (N ps : List Str) (tg iter c elt : Expr) (yp ep ip fpos : Pos) (wi : TI) (g : TG) (tt : TT) (te : TE) : Prop where
  F : Fun X.K x x st f fd
  S : FnSc N ps (defScope st)
  co : (defScope st).isCoroutine = false
  gen : (defScope st).isGenerator = true
  bd : Binds X.K fd ps []
  body : defBody st = [.For tg iter (gfBd c elt yp ep ip) [] fpos]
  int : ∀ (cd : Value) (s : Shared) (H : Hp), interactive (X.gf A N x (defScope st) f cd s H).env = false
  fold : ∀ (cd : Value) (s : Shared) (H : Hp), ∀ v, foldedSetIterable iter (X.gf A N x (defScope st) f cd s H).env v = pure v
  pi : ∀ (cd : Value) (s : Shared) (H : Hp), PI (X.gf A N x (defScope st) f cd s H) tg iter wi
  pg : ∀ (cd : Value) (s : Shared) (H : Hp), PG (X.gf A N x (defScope st) f cd s H) tg g
  pt : ∀ (cd : Value) (s : Shared) (H : Hp), PT (X.gf A N x (defScope st) f cd s H) c tt
  pe : ∀ (cd : Value) (s : Shared) (H : Hp), PE (X.gf A N x (defScope st) f cd s H) elt te
section
variable {X : Cx} {x y : Str} {st : Stmt} {f : Addr} {fd : FuncData} {N ps : List Str} {tg iter c elt : Expr} {yp ep ip fpos p pos p2 pos2 : Pos} {wi : TI} {g : TG} {tt : TT} {te : TE} {e : Expr} {es : List Expr} {ta : TA}
end
end L2
namespace L2
open PySem PySem.Spec PyProof.Rows
section
variable {K : PySem.W.Frag} {bs M : Md} {F : Fr} {σ : St} {H I H' I' : Hp} {ρ : Ev} {vs : List V} {ds : List Dt} {N : List Str}
end
structure GfQ (X : Cx) (A : Around) (M : Md) (x : Str) (st : Stmt) (f : Addr) (fd : FuncData) (N ps : List Str) (tg iter c elt : Expr) (yp ep ip fpos : Pos) (fi : FI) (js : List Nat) (fg : FG) (ft : FT) (fe : FE) : Prop where
  F : Fun X.K x x st f fd
  S : FnSc N ps (defScope st)
  co : (defScope st).isCoroutine = false
  gen : (defScope st).isGenerator = true
  bd : Binds X.K fd ps []
  body : defBody st = [.For tg iter (gfBd c elt yp ep ip) [] fpos]
  int : ∀ (cd : Value) (s : Shared) (H : Hp), interactive (X.gf A N x (defScope st) f cd s H).env = false
  fold : ∀ (cd : Value) (s : Shared) (H : Hp), ∀ v, foldedSetIterable iter (X.gf A N x (defScope st) f cd s H).env v = pure v
  nobox : M.bs = []
  qi : ∀ (cd : Value) (s : Shared) (H : Hp), QI (X.gf A N x (defScope st) f cd s H) M tg iter fi
  qj : ∀ (cd : Value) (s : Shared) (H : Hp), QJ (X.gf A N x (defScope st) f cd s H) M tg js fg
  qt : ∀ (cd : Value) (s : Shared) (H : Hp), QT (X.gf A N x (defScope st) f cd s H) M c ft
  qe : ∀ (cd : Value) (s : Shared) (H : Hp), QE (X.gf A N x (defScope st) f cd s H) M elt fe
section
variable {X : Cx} {A : Around} {bs M : Md} {x y : Str} {st : Stmt} {f : Addr} {fd : FuncData} {N ps : List Str} {tg iter c elt : Expr} {yp ep ip fpos p pos p2 pos2 : Pos} {fi : FI} {js : List Nat} {fg : FG} {ft : FT} {fe : FE} {e : Expr} {es : List Expr} {fr : FA} {cs : List (Option Nat)}
theorem GfQ.at (G : GfQ X A M x st f fd N ps tg iter c elt yp ep ip fpos fi js fg ft fe) : GfAt X A x st f fd N ps tg iter c elt yp ep ip fpos (tqI X.K M fi) (tqG' X.K M js fg) (tqT X.K M ft) (tq X.K M fe) :=
  ⟨G.F, G.S, G.co, G.gen, G.bd, G.body, G.int, G.fold, fun cd s H => (G.qi cd s H).pi, fun cd s H => (G.qj cd s H).pg, fun cd s H => (G.qt cd s H).pt, fun cd s H => (G.qe cd s H).pe⟩
def tupGF (fn : List Dt → Option (List Dt)) (fr : FA) : FE := fun ρ => (fr ρ).bind fun (ds, ρ1) => (fn ds).bind fun ys => if ys.length ≤ 16777216 then some (.tuple ys, ρ1) else none
end
end L2
namespace L2
open PySem PySem.Spec PyProof.Rows
def isBD : Dt → Dt → Option Dt
  | .bool c, .bool d => some (.bool (c == d))
  | _, _ => none
def isntBD : Dt → Dt → Option Dt
  | .bool c, .bool d => some (.bool (c != d))
  | _, _ => none
def negU : Dt → Option Dt
  | .int i => some (.int (-i))
  | _ => none
section
variable {X : Cx}
variable {bs : Md} {pos p p2 : Pos} {a b c e tg : Expr} {fa fb fe : FE} {fr : FA}
def unF (g : Dt → Option Dt) (fa : FE) : FE := fun ρ => (fa ρ).bind fun (x, ρ1) => (g x).bind fun z => some (z, ρ1)
def augS (i : Nat) (g : Dt → Dt → Option Dt) (fe : FE) : FS := fun ρ => match ρ[i]? with
  | some (some d) => (fe ρ).bind fun (y, ρ1) => (g d y).bind fun z => some (.nx, ρ1.set i (some z))
  | _ => none
def repF (fa fb : FE) : FE := fun ρ => (fa ρ).bind fun (x, ρ1) => (fb ρ1).bind fun (y, ρ2) => match x, y with
  | .list ds, .int k => if k ≤ 16777216 ∧ -16777216 ≤ k ∧ ds.length * k.toNat ≤ 16777216 then some (.list (List.replicate k.toNat ds).flatten, ρ2) else none
  | _, _ => none
theorem DpAll.rep {K : PySem.W.Frag} {I : Hp} {vs : List V} {ds : List Dt} (h : DpAll K I vs ds) : ∀ k : Nat, DpAll K I (List.replicate k vs).flatten (List.replicate k ds).flatten
  | 0 => .nil
  | k + 1 => by rw [List.replicate_succ, List.replicate_succ, List.flatten_cons, List.flatten_cons]; exact h.append (DpAll.rep h k)
theorem repF_list : ∀ ρ d ρ', repF fa fb ρ = some (d, ρ') → ∃ ds, d = .list ds := fun ρ d ρ' h => by
  obtain ⟨⟨x, ρ1⟩, e1, e⟩ := bind_some h
  obtain ⟨⟨y, ρ2⟩, e2, e⟩ := bind_some e
  match x, y, e with
  | .list ds, .int k, e =>
    have e : (if k ≤ 16777216 ∧ -16777216 ≤ k ∧ ds.length * k.toNat ≤ 16777216 then some (PyData.list (List.replicate k.toNat ds).flatten, ρ2) else none) = some (d, ρ') := e
    split at e
    · cases e; exact ⟨_, rfl⟩
    · cases e
theorem qf_rep (ha : QF X bs a fa) (hb : QE X bs b fb) : QF X bs (.BinOp a .Mult b pos) (repF fa fb) :=
  ⟨PE.weak (pe_op op_rep ha.pe hb.pe) fun σ H Q ⟨F, I, ρ, d, ρ', R, e, k⟩ => by
    obtain ⟨⟨x, ρ1⟩, e1, e⟩ := bind_some e
    obtain ⟨⟨y, ρ2⟩, e2, e⟩ := bind_some e
    have hsz : sizeLine = 16777216 := sizeLine_eq
    refine ⟨F, I, ρ, x, ρ1, R, e1, fun p H1 I1 s1 R1 O1 => ?_⟩
    obtain ⟨o, ho⟩ := O1.bx.some
    refine ⟨⟨upd F.F p o, F.G⟩, I1, ρ1, y, ρ2, R1.hide O1 ho, e2, fun w H2 I2 s2 R2 d2 => ?_⟩
    obtain ⟨R3, O3⟩ := O1.back ho s2 R2
    match x, y, e, O3, d2 with
    | .list ds, .int j, e, O3, d2 =>
      have e : (if j ≤ 16777216 ∧ -16777216 ≤ j ∧ ds.length * j.toNat ≤ 16777216 then some (PyData.list (List.replicate j.toNat ds).flatten, ρ2) else none) = some (d, ρ') := e
      by_cases h : j ≤ 16777216 ∧ -16777216 ≤ j ∧ ds.length * j.toNat ≤ 16777216
      · rw [if_pos h] at e
        cases e
        cases d2
        obtain ⟨xs, h1, h2, h3⟩ := O3.bx
        refine ⟨p, j, xs, rfl, rfl, h1, by omega, by omega, by rw [h2.length]; omega, fun q hq => ?_⟩
        obtain ⟨R4, O4⟩ := Own.new R3 hq (h2.rep j.toNat) (by rw [len_rep, h2.length, Nat.mul_comm]; omega)
        exact k q _ I2 (s1.trans s2) R4 O4
      · rw [if_neg h] at e; cases e⟩
end
end L2
namespace L2
open PySem PySem.Spec PyProof.Rows
theorem FnOk.never {P : Program} {w : World} {K : PySem.W.Frag} {mg : Str → Option Value} {base : Heap} {k : Nat} {f : Addr} {fd : FuncData} {ps : List Str} {tn : List Str} {bp : List Bool} : FnOk P w K mg base CX0 k f fd ps (spq K tn bp fun _ => none) :=
  ⟨fun vs H Q E h => (by obtain ⟨_, _, _, _, _, _, _, _, _, _, _, _, e, _⟩ := h; cases e), fun A outer s H args us vs Q E _ _ _ _ h => (by obtain ⟨_, _, _, _, _, _, _, _, _, _, _, _, e, _⟩ := h; cases e)⟩
end L2
namespace L2
open PySem PySem.Spec PyProof.Rows
section
variable {X : Cx} {bs : Md} {elt tg iter tg1 iter1 : Expr} {ifs ifs1 : List Expr} {scope : Scope} {pos spos py : Pos} {y : Str} {fi fi1 : FI} {js js1 : List Nat} {fg fg1 : FG} {ft ft1 : FT} {fe : FE}
end
mutual
def noList : Dt → Bool
  | .list _ => false
  | .dict _ => false
  | .tuple ds => noLists ds
  | _ => true
def noLists : List Dt → Bool
  | [] => true
  | d :: ds => noList d && noLists ds
end
section
variable {K : PySem.W.Frag} {bs : Md} {F : Fr} {σ : St} {H I H' I' : Hp} {ρ : Ev}
def IsBx (bs : Md) (σ : St) (ρ : Ev) (a : Addr) : Prop := ∃ i ds, i ∈ bs.bs ∧ ρ[i]? = some (some (.list ds)) ∧ σ[i]? = some (some (.ref a))
open Classical in
noncomputable def unB (bs : Md) (σ : St) (I : Hp) (ρ : Ev) : Hp := fun a => if IsBx bs σ ρ a then none else I a
theorem unB_neg {a : Addr} (h : ¬ IsBx bs σ ρ a) : unB bs σ I ρ a = I a := by unfold unB; exact if_neg h
theorem IsBx.own {a : Addr} (h : IsBx bs σ ρ a) : ∃ i d, i ∈ bs.bs ∧ ρ[i]? = some (some d) ∧ σ[i]? = some (some (.ref a)) := let ⟨i, ds, h1, h2, h3⟩ := h; ⟨i, _, h1, h2, h3⟩
abbrev Md.no (bs : Md) : Md := { bs := [], np := bs.np, tn := bs.tn }
theorem SqT.un {a : Addr} {xs : List V} (hb : ∀ a, IsBx bs σ ρ a → ∃ ys, I' a = some (.lst ys)) (h : SqT K I' a xs) : SqT K (unB bs σ I' ρ) a xs := by
  rcases h with h | h
  · left
    have z : ¬ IsBx bs σ ρ a := fun z => by
      obtain ⟨ys, e⟩ := hb a z
      rw [e] at h; cases h
    exact (unB_neg z).trans h
  · exact .inr h
mutual
theorem Dp.un (hb : ∀ a, IsBx bs σ ρ a → ∃ ys, I' a = some (.lst ys)) : ∀ {d : Dt} {v : V}, noList d = true → Dp K I' v d → Dp K (unB bs σ I' ρ) v d
  | .none, _, _, h => by cases h; exact .non
  | .bool b, _, _, h => by cases h; exact .bl b
  | .int i, _, _, h => by cases h; exact .int i
  | .str x, _, _, h => by cases h; exact .str x
  | .list ds, _, n, h => by cases n
  | .tuple ds, _, n, h => by cases h with | tup h1 h2 => exact .tup (SqT.un hb h1) (DpAll.un hb n h2)
  | .dict _, _, _, h => by cases h
theorem DpAll.un (hb : ∀ a, IsBx bs σ ρ a → ∃ ys, I' a = some (.lst ys)) : ∀ {ds : List Dt} {vs : List V}, noLists ds = true → DpAll K I' vs ds → DpAll K (unB bs σ I' ρ) vs ds
  | [], _, _, h => by cases h; exact .nil
  | d :: ds, _, n, h => by
    have n : (noList d && noLists ds) = true := n
    rw [Bool.and_eq_true] at n
    cases h with | cons h1 h2 => exact .cons (Dp.un hb n.1 h1) (DpAll.un hb n.2 h2)
end
end
def listAt : Option (Option Dt) → Bool
  | some (some (.list _)) => true
  | some (some _) => false
  | _ => true
def stillF (bs : List Nat) (f : FE) : FE := fun ρ => if bs.all fun i => listAt ρ[i]? then (f ρ).bind fun (d, _) => if noList d then some (d, ρ) else none else none
def stillT (bs : List Nat) (f : FT) : FT := fun ρ => if bs.all fun i => listAt ρ[i]? then (f ρ).bind fun (b, _) => some (b, ρ) else none
section
variable {X : Cx} {bs : Md} {e c : Expr} {f : FE} {t : FT}
end
end L2
namespace L2
open PySem PySem.Spec PyProof.Rows
section
variable {X : Cx} {bs : Md} {pos : Pos} {a b c e : Expr} {fa fb : FE}
end
end L2
namespace L2
open PySem PySem.Spec PyProof.Rows
end L2
namespace L2
open PySem PySem.W PyProof.Rows
section
variable {M : Model} {A : Around} {E : Value → Shared → Prop} {s : Shared} {O : KeyOrd} {key : Keyed → O.α} {G : Keyed → Prop} {κ : SortKind}
end
end L2
namespace L2
open PySem PySem.W PyProof.Rows
section
variable {M : Model} {A : Around} {E : Value → Shared → Prop} {s : Shared} {O : KeyOrd} {key : Keyed → O.α} {G : Keyed → Prop} {κ : SortKind}
def LEk (O : KeyOrd) (key : Keyed → O.α) (x y : Keyed) : Prop := O.kle (key x) (key y)
theorem LEk.tr {x y z : Keyed} (h : LEk O key x y) (h' : LEk O key y z) : LEk O key x z := KeyOrd.kle_trans h h'
structure JJ (R : Keyed → Keyed → Prop) (out xs ys al : List Keyed) : Prop where
  perm : (out ++ (xs ++ ys)).Perm al
  srt : out.Pairwise R
  low : ∀ o ∈ out, ∀ z ∈ xs ++ ys, R o z
section
variable {R : Keyed → Keyed → Prop} {out xs ys al c xs' : List Keyed}
theorem JJ.swap (h : JJ R out xs ys al) : JJ R out ys xs al :=
  ⟨(List.Perm.append_left out List.perm_append_comm).trans h.perm, h.srt, fun o ho z hz => h.low o ho z (by simp only [List.mem_append] at hz ⊢; exact hz.symm)⟩
theorem JJ.fin (h : JJ R out xs ys al) (hs : (xs ++ ys).Pairwise R) : (out ++ (xs ++ ys)).Pairwise R := List.pairwise_append.mpr ⟨h.srt, hs, h.low⟩
end
structure Mrg (O : KeyOrd) (key : Keyed → O.α) (al : List Keyed) (r : Array Keyed) : Prop where
  perm : r.toList.Perm al
  srt : r.toList.Pairwise (LEk O key)
structure ML (O : KeyOrd) (key : Keyed → O.α) (a b : Array Keyed) (al : List Keyed) (out : Array Keyed) (ia ib : Nat) : Prop where
  ja : ia + 1 < a.size
  jb : ib < b.size
  jj : JJ (LEk O key) out.toList (a.toList.drop ia) (b.toList.drop ib) al
section
variable {a b out : Array Keyed} {ia ib : Nat} {al : List Keyed}
end
end
end L2
namespace L2
open PySem PySem.W PyProof.Rows
section
variable {M : Model} {A : Around} {E : Value → Shared → Prop} {s : Shared} {O : KeyOrd} {key : Keyed → O.α} {G : Keyed → Prop} {κ : SortKind}
variable {a b : Array Keyed} {al : List Keyed}
end
end L2
namespace L2
open PySem PySem.W PyProof.Rows
section
variable {M : Model} {A : Around} {E : Value → Shared → Prop} {s : Shared} {O : KeyOrd} {key : Keyed → O.α} {G : Keyed → Prop} {κ : SortKind}
variable {a b : Array Keyed} {al : List Keyed}
def GEk (O : KeyOrd) (key : Keyed → O.α) (x y : Keyed) : Prop := LEk O key y x
structure MH (O : KeyOrd) (key : Keyed → O.α) (a b : Array Keyed) (al : List Keyed) (out : Array Keyed) (na nb : Nat) : Prop where
  pa : 0 < na
  qa : na ≤ a.size
  pb : 1 < nb
  qb : nb ≤ b.size
  jj : JJ (GEk O key) out.toList (a.toList.take na) (b.toList.take nb) al
section
variable {out : Array Keyed} {na nb : Nat}
end
end
end L2
namespace L2
open PySem PySem.W PyProof.Rows
section
variable {M : Model} {A : Around} {E : Value → Shared → Prop} {s : Shared} {O : KeyOrd} {key : Keyed → O.α} {G : Keyed → Prop} {κ : SortKind} {d : O.α}
def kk (key : Keyed → O.α) (d : O.α) (xs : Array Keyed) (i : Nat) : O.α := ((xs[i]?).map key).getD d
structure Chg (lo hi : Nat) (xs xs' : Array Keyed) : Prop where
  perm : xs'.Perm xs
  out : ∀ i, i < lo ∨ hi ≤ i → xs'[i]? = xs[i]?
theorem Chg.rfl {lo hi : Nat} {xs : Array Keyed} : Chg lo hi xs xs := ⟨.refl _, fun _ _ => by rfl⟩
theorem Chg.tr {lo hi : Nat} {xs ys zs : Array Keyed} (h : Chg lo hi xs ys) (h' : Chg lo hi ys zs) : Chg lo hi xs zs := ⟨h'.perm.trans h.perm, fun i hi => (h'.out i hi).trans (h.out i hi)⟩
theorem Chg.size {lo hi : Nat} {xs ys : Array Keyed} (h : Chg lo hi xs ys) : ys.size = xs.size := h.perm.size_eq
theorem Chg.all {lo hi : Nat} {xs ys : Array Keyed} (h : Chg lo hi xs ys) (g : ∀ x ∈ xs.toList, G x) : ∀ x ∈ ys.toList, G x := fun x hx => g x ((Array.perm_iff_toList_perm.mp h.perm).mem_iff.mp hx)
end
end L2
namespace L2
open PySem PySem.W PyProof.Rows
section
variable {M : Model} {A : Around} {E : Value → Shared → Prop} {s : Shared} {O : KeyOrd} {key : Keyed → O.α} {G : Keyed → Prop} {κ : SortKind} {d : O.α}
def seg (xs : Array Keyed) (lo n : Nat) : List Keyed := (xs.toList.drop lo).take n
end
end L2
namespace L2
open PySem PySem.W PyProof.Rows
section
variable {M : Model} {A : Around} {E : Value → Shared → Prop} {s : Shared} {O : KeyOrd} {key : Keyed → O.α} {G : Keyed → Prop} {κ : SortKind} {d : O.α}
theorem seg_at {xs : Array Keyed} {lo n i : Nat} : (seg xs lo n)[i]? = if i < n then xs[lo + i]? else none := by
  unfold seg
  rw [List.getElem?_take]
  by_cases h : i < n
  · rw [if_pos h, if_pos h, List.getElem?_drop]; simp
  · rw [if_neg h, if_neg h]
def Chn (O : KeyOrd) (key : Keyed → O.α) (xs : Array Keyed) : Nat → List (Nat × Nat) → Nat → Prop
  | lo, [], hi => lo = hi
  | lo, r :: ps, hi => r.1 = lo ∧ 0 < r.2 ∧ (seg xs lo r.2).Pairwise (LEk O key) ∧ Chn O key xs (lo + r.2) ps hi
abbrev two (r : Nat × Nat × Nat) : Nat × Nat := (r.1, r.2.1)
structure SI (O : KeyOrd) (key : Keyed → O.α) (κ : SortKind) (a₀ : Array Keyed) (st : SortSt) (lo : Nat) : Prop where
  perm : (arrOf st).Perm a₀
  kind : kindOf st = κ
  failed : failedOf st = none
  chn : Chn O key (arrOf st) 0 ((pendingOf st).toList.map two) lo
end
end L2
namespace L2
open PySem PySem.W PyProof.Rows
section
variable {M : Model} {A : Around} {E : Value → Shared → Prop} {s : Shared} {O : KeyOrd} {key : Keyed → O.α} {G : Keyed → Prop} {κ : SortKind} {d : O.α} {a₀ : Array Keyed}
end
end L2
namespace L2
open PySem PySem.W PyProof.Rows
section
variable {M : Model} {A : Around} {E : Value → Shared → Prop} {s : Shared} {O : KeyOrd} {key : Keyed → O.α} {G : Keyed → Prop} {κ : SortKind} {d : O.α} {a₀ : Array Keyed}
end
end L2
namespace L2
open PySem PySem.Spec PyProof.Rows
def szc (op : CmpOp) (m n : Nat) : Bool := match op with | .Lt => decide (m < n) | .LtE => decide (m ≤ n) | .Gt => decide (m > n) | _ => decide (m ≥ n)
def cmpI (op : CmpOp) (i j : Int) : Bool := match op with | .Lt => decide (i < j) | .LtE => decide (i ≤ j) | .Gt => decide (j < i) | _ => decide (j ≤ i)
def CmpAt (op : CmpOp) (A : Around) (s : Shared) (v u : Value) (b : Bool) : Prop := ∀ (prog : Program) (w : World) (E Q : Value → Shared → Prop), Q (.bool b) s → wpAny (model prog w) A (richCompare op v u) Q E s
inductive LexAt (op : CmpOp) (A : Around) (s : Shared) : List Value → List Value → Bool → Prop
  | nil : LexAt op A s [] [] (szc op 0 0)
  | short {u : Value} {us : List Value} : LexAt op A s [] (u :: us) (szc op 0 1)
  | long {v : Value} {vs : List Value} : LexAt op A s (v :: vs) [] (szc op 1 0)
  | eq {v u : Value} {vs us : List Value} {b : Bool} (h : SeqAt.EqAt A s v u true) (r : LexAt op A s vs us b) : LexAt op A s (v :: vs) (u :: us) b
  | ne {v u : Value} {vs us : List Value} {b : Bool} (h : SeqAt.EqAt A s v u false) (c : CmpAt op A s v u b) : LexAt op A s (v :: vs) (u :: us) b
section
open PySem.SeqAt HT
open PySem.AutoSeq1 (wpAny_loadPart')
open PySem.MeetsSeq PySem.MeetsSeq2 PySem.MeetsSeq3
end
end L2
namespace HT
open PySem PySem.Spec PyProof.Rows
section
variable {prog : Program} {w : World} {A : Around} {E : Value → Shared → Prop} {s : Shared}
end
end HT
namespace L2
open PySem PySem.Spec PyProof.Rows
section
variable {X : Cx} {bs : Md} {e k : Expr} {p2 pos : Pos} {te : TE} {tk : TO} {fe : FE} {fk : FO}
end
end L2
namespace L2
open PySem PySem.Spec PyProof.Rows
structure CmpOk (op : CmpOp) : Prop where
  int : ∀ (A : Around) (s : Shared) (i j : Int) (t u : Tok), CmpAt op A s (.int i t) (.int j u) (cmpI op i j)
  tup : ∀ (A : Around) (s : Shared) (l b : Addr) (items items2 : Array Value) (r : Bool), IsTup s.heap l items → IsTup s.heap b items2 → LexAt op A.in1 s items.toList items2.toList r → A.units < cLine → CmpAt op A s (.ref l) (.ref b) r
mutual
def cmpP (op : CmpOp) : Dt → Dt → Option Bool
  | .int i, .int j => some (cmpI op i j)
  | .tuple a, .tuple b => lexP op a b
  | _, _ => none
def lexP (op : CmpOp) : List Dt → List Dt → Option Bool
  | [], [] => some (szc op 0 0)
  | [], _ :: _ => some (szc op 0 1)
  | _ :: _, [] => some (szc op 1 0)
  | x :: xs, y :: ys => if PyData.eqv x y = true then lexP op xs ys else cmpP op x y
end
mutual
theorem cmp_reads {op : CmpOp} (ok : CmpOk op) : ∀ (d e : Dt) (A : Around) (s : Shared) (v u : Value) (as bs : List Addr) (b : Bool), Reads s.heap v d as → Reads s.heap u e bs → d.canLay0 = true → e.canLay0 = true → A.units + d.depth < cLine → cmpP op d e = some b → CmpAt op A s v u b
  | .int i, .int j, A, s, _, _, _, _, b, r1, r2, _, _, _, h => by
    cases r1; cases r2
    simp only [cmpP] at h
    cases h
    exact ok.int A s i j _ _
  | .tuple xs, .tuple ys, A, s, _, _, _, _, b, r1, r2, h1, h2, hu, h => by
    simp only [cmpP] at h
    simp only [PyData.depth] at hu
    cases r1 with
    | tuple g1 g2 g3 g4 =>
    cases r2 with
    | tuple k1 k2 k3 k4 =>
    exact ok.tup A s _ _ _ _ b ⟨_, g1, g2, _, g3⟩ ⟨_, k1, k2, _, k3⟩ (lex_reads ok xs ys A.in1 s _ _ _ _ b g4 k4 (by simpa [PyData.canLay0] using h1) (by simpa [PyData.canLay0] using h2) (by show A.units + 1 + _ < _; omega) h) (by omega)
  | .none, _, _, _, _, _, _, _, _, _, _, _, _, _, h => by simp [cmpP] at h
  | .bool _, _, _, _, _, _, _, _, _, _, _, _, _, _, h => by simp [cmpP] at h
  | .str _, _, _, _, _, _, _, _, _, _, _, _, _, _, h => by simp [cmpP] at h
  | .list _, _, _, _, _, _, _, _, _, _, _, _, _, _, h => by simp [cmpP] at h
  | .dict _, _, _, _, _, _, _, _, _, _, _, _, _, _, h => by simp [cmpP] at h
  | .int _, .none, _, _, _, _, _, _, _, _, _, _, _, _, h => by simp [cmpP] at h
  | .int _, .bool _, _, _, _, _, _, _, _, _, _, _, _, _, h => by simp [cmpP] at h
  | .int _, .str _, _, _, _, _, _, _, _, _, _, _, _, _, h => by simp [cmpP] at h
  | .int _, .list _, _, _, _, _, _, _, _, _, _, _, _, _, h => by simp [cmpP] at h
  | .int _, .tuple _, _, _, _, _, _, _, _, _, _, _, _, _, h => by simp [cmpP] at h
  | .int _, .dict _, _, _, _, _, _, _, _, _, _, _, _, _, h => by simp [cmpP] at h
  | .tuple _, .none, _, _, _, _, _, _, _, _, _, _, _, _, h => by simp [cmpP] at h
  | .tuple _, .bool _, _, _, _, _, _, _, _, _, _, _, _, _, h => by simp [cmpP] at h
  | .tuple _, .int _, _, _, _, _, _, _, _, _, _, _, _, _, h => by simp [cmpP] at h
  | .tuple _, .str _, _, _, _, _, _, _, _, _, _, _, _, _, h => by simp [cmpP] at h
  | .tuple _, .list _, _, _, _, _, _, _, _, _, _, _, _, _, h => by simp [cmpP] at h
  | .tuple _, .dict _, _, _, _, _, _, _, _, _, _, _, _, _, h => by simp [cmpP] at h
theorem lex_reads {op : CmpOp} (ok : CmpOk op) : ∀ (xs ys : List Dt) (A : Around) (s : Shared) (vs us : List Value) (as bs : List Addr) (b : Bool), ReadsAll s.heap vs xs as → ReadsAll s.heap us ys bs → PyData.canLayAll0 xs = true → PyData.canLayAll0 ys = true → A.units + PyData.depthAll xs < cLine → lexP op xs ys = some b → LexAt op A s vs us b
  | [], [], A, s, _, _, _, _, b, r1, r2, _, _, _, h => by
    cases r1; cases r2
    simp only [lexP] at h
    cases h
    exact .nil
  | [], _ :: _, A, s, _, _, _, _, b, r1, r2, _, _, _, h => by
    cases r1
    cases r2 with
    | cons _ _ =>
    simp only [lexP] at h
    cases h
    exact .short
  | _ :: _, [], A, s, _, _, _, _, b, r1, r2, _, _, _, h => by
    cases r2
    cases r1 with
    | cons _ _ =>
    simp only [lexP] at h
    cases h
    exact .long
  | x :: xs, y :: ys, A, s, _, _, _, _, b, r1, r2, h1, h2, hu, h => by
    cases r1 with
    | cons g1 g2 =>
    cases r2 with
    | cons k1 k2 =>
    simp only [PyData.canLayAll0, Bool.and_eq_true] at h1 h2
    simp only [PyData.depthAll] at hu
    have he := SeqAt.eqAt_reads x y A s _ _ _ _ g1 k1 h1.1 h2.1 (by omega)
    simp only [lexP] at h
    cases hq : PyData.eqv x y with
    | true =>
      rw [hq] at he h
      rw [if_pos rfl] at h
      exact .eq he (lex_reads ok xs ys A s _ _ _ _ b g2 k2 h1.2 h2.2 (by omega) h)
    | false =>
      rw [hq] at he h
      rw [if_neg (by simp)] at h
      exact .ne he (cmp_reads ok x y A s _ _ _ _ b g1 k1 h1.1 h2.1 (by omega) h)
end
section
variable {X : Cx}
end
end L2
namespace L2
open PySem PySem.Spec PyProof.Rows
section
variable {prog : Program} {w : World} {A : Around} {E : Value → Shared → Prop} {R : Result → Shared → Prop}
end
end L2
namespace L2
open PySem PySem.Spec PyProof.Rows
theorem ReadsAll.at {h : Heap} : ∀ {vs : List Value} {ds : List Dt} {as : List Addr}, ReadsAll h vs ds as → ∀ (i : Nat) (v : Value), vs[i]? = some v → ∃ d bs, ds[i]? = some d ∧ Reads h v d bs
  | _, _, _, .nil, _, _, e => by simp at e
  | _, _, _, .cons r rs, 0, _, e => by simp at e; subst e; exact ⟨_, _, rfl, r⟩
  | _, _, _, .cons r rs, i + 1, v, e => by
    obtain ⟨d, bs, h1, h2⟩ := ReadsAll.at rs i v (by simpa using e)
    exact ⟨d, bs, by simpa using h1, h2⟩
section
variable {X : Cx}
end
end L2
namespace L2
open PySem PySem.Spec PyProof.Rows
section
variable {prog : Program} {w : World} {A : Around} {E : Value → Shared → Prop} {s : Shared}
end
section
variable {X : Cx}
end
end L2
namespace L2
open PySem PySem.Spec PyProof.Rows PySem.Calls
section
variable {prog : Program} {w : World} {A : Around} {E : Value → Shared → Prop} {s : Shared}
end
section
variable {X : Cx}
end
end L2
namespace L2
open PySem PySem.Spec PyProof.Rows
section
variable (prog : Program) (w : World) (A : Around)
end
section
variable {prog : Program} {w : World} {A : Around} {elt t i i1 : Expr} {gs : List Comprehension} {scope : Scope} {pos : Pos} {d : Nat} {ifs : List Expr} {acc : Value} {env : Env}
end
section
variable {elt t0 i0 t1 i1 t2 i2 t3 i3 : Expr} {ifs0 ifs1 ifs2 ifs3 : List Expr} {scope : Scope} {pos : Pos}
end
end L2
namespace L2
open PySem PySem.Spec PyProof.Rows
abbrev TB := Addr → St → Hp → (Hp → Prop) → Prop
section
variable {X : Cx} {s3 : Shared} {H3 : Hp} {scope : Scope} {ce : Env} {fp : List Addr} {D : Addr}
end
section
variable {X : Cx}
end
end L2
namespace L2
open PySem PySem.Spec PyProof.Rows
abbrev FB := Ev → Option (List Dt × Ev)
section
variable {K : PySem.W.Frag} {bs : Md} {fe : FE} {fb : FB} {fi fi1 : FI} {ft ft1 : FT} {js js1 : List Nat} {fg fg1 : FG} {tb : TB}
end
end L2
namespace L2
open PySem PySem.Spec PyProof.Rows
section
variable {X : Cx}
variable {bs : Md} {elt t0 i0 t1 i1 t2 i2 t3 i3 : Expr} {ifs0 ifs1 ifs2 ifs3 : List Expr} {scope : Scope} {pos spos py : Pos} {y : Str} {fi0 fi1 fi2 fi3 : FI} {js0 js1 js2 js3 : List Nat} {fg0 fg1 fg2 fg3 : FG} {ft0 ft1 ft2 ft3 : FT} {fe : FE}
end
end L2
namespace L2
open PySem PySem.Spec PyProof.Rows
structure LamOk (N : List Str) (sc scope : Scope) (x : Str) (i : Nat) : Prop where
  blk : BlkOk N sc scope [(x, i)]
  co : scope.isCoroutine = false
  gen : scope.isGenerator = false
  nc : ∀ y ∈ scope.names, y.2 ≠ .cell
  par : scope.names.lookup x = some NameKind.local
section
variable {X : Cx} {pins : List (Addr × Obj)} {σ : St} {H : Hp} {s : Shared}
end
end L2
namespace L2
open PySem PySem.Spec PyProof.Rows
section
variable {prog : Program} {w : World} {A : Around} {E : Value → Shared → Prop} {R : Result → Shared → Prop}
end
end L2
namespace L2
open PySem PySem.Spec PyProof.Rows
section
variable {X : Cx} {pins : List (Addr × Obj)} {σ : St} {H : Hp} {s : Shared}
end
section
variable {X : Cx} {bs : Md} {pins : List (Addr × Obj)} {σ : St} {H I : Hp} {s : Shared} {F : Fr} {ρ : Ev} {E : Value → Shared → Prop}
end
end L2
namespace L2
open PySem PySem.Spec PyProof.Rows
section
variable {X : Cx} {bs : Md} {pos p lpos kp : Pos} {xs body : Expr} {params : Arguments} {scope : Scope} {fi fe : FE}
end
end L2
namespace L2
open PySem PySem.Spec PyProof.Rows
section
variable {K : PySem.W.Frag} {I : Hp}
theorem Paired.len {α β : Type} {R : α → β → Prop} : ∀ {l : List α} {m : List β}, Paired R l m → l.length = m.length
  | _, _, .nil => rfl
  | _, _, .cons _ t => by simp [Paired.len t]
end
section
variable {X : Cx} {bs : Md} {pos p2 apos cpos p : Pos} {b c e : Expr} {fb fc fe : FE} {x : Str} (i : Nat)
end
end L2
namespace L2
open PySem PySem.Spec PyProof.Rows
section
variable {X : Cx} {bs : Md} {pos p2 tpos : Pos} {b e : Expr} {fb fe : FE} {x : Str} (i : Nat)
end
section
variable {X : Cx} {bs : Md} {pos apos : Pos} {o : Expr} {fo : FE}
end
end L2
namespace L2
open PySem PySem.Spec PyProof.Rows
section
variable {X : Cx} {bs : Md} {pos : Pos} {a b : Expr} {rest : List Expr} {fa fb : FE}
end
end L2
namespace L2
open PySem PySem.Spec PyProof.Rows
section
variable {X : Cx} {bs : Md} {pos p2 apos cpos : Pos} {e : Expr} {fe : FE} {x : Str} (i : Nat)
end
end L2
namespace L2
open PySem PySem.Spec PyProof.Rows
def keyOf (ns : List Int) : List Key := ns.map Sum.inl
section
variable {K : PySem.W.Frag} {I : Hp}
end
section
variable {X : Cx} {bs : Md} {pos p2 apos cpos p : Pos} {b c e : Expr} {fb fc fe : FE} {x : Str} (i : Nat)
end
end L2
namespace L2
open PySem PySem.Spec PyProof.Rows
section
variable {X : Cx} {bs : Md} {pos : Pos} {es : List Expr} {js : List Nat}
end
end L2
namespace L2
open PySem PySem.Spec PyProof.Rows
section
variable {X : Cx} {bs : Md} {pos p pos2 p2 : Pos} {a b : Expr} {fr : FA}
end
end L2
namespace L2
open PySem PySem.Spec PyProof.Rows
section
variable {prog : Program} {w : World} {A : Around} {R : Result → Shared → Prop} {s : Shared} {elt vl t0 i0 t1 i1 : Expr} {ifs0 ifs1 : List Expr} {scope : Scope} {pos : Pos} {it acc : Value} {env : Env}
end
section
variable {X : Cx} {pins : List (Addr × Obj)} {σ : St} {H : Hp} {s : Shared} {a : Addr} {y v : V} {u r : Value} {A : Around} {E : Value → Shared → Prop}
end
section
variable {X : Cx}
end
end L2
namespace L2
open PySem PySem.Spec PyProof.Rows
section
variable {K : PySem.W.Frag} {bs : Md} {F : Fr} {σ : St} {H I : Hp} {ρ : Ev}
end
section
variable {X : Cx} {bs : Md} {pos p spos : Pos} {tg tg1 elt iter1 : Expr} {fe : FE} {fi1 : FI} {ft1 : FT} {js js1 : List Nat} {fg fg1 : FG}
end
end L2
namespace L2
open PySem PySem.Spec PyProof.Rows
section
variable {X : Cx} {bs : Md} {pos p spos py px cp kp vp : Pos} {tg tg1 elt iter1 k v : Expr} {fe fk : FE} {fi1 : FI} {ft1 : FT} {js js1 : List Nat} {fg fg1 : FG} {ifs1 : List Expr} {scope : Scope} {y : Str}
end
end L2
namespace L2
open PySem PySem.Spec PyProof.Rows
section
variable (l : Addr) (items : Array Value) (n : Nat) (sl : Array (Option Value))
end
section
variable {X : Cx}
end
end L2
namespace L2
open PySem PySem.Spec PyProof.Rows
section
variable {X : Cx} {bs : Md} {pos p : Pos} {a b c tg : Expr} {fr : FA}
theorem RgC.two {j : Int} (h0 : 0 ≤ j) (h6 : j ≤ 6) : RgC 0 j 2 ((j + 1) / 2).toNat := by
  have h : j = 0 ∨ j = 1 ∨ j = 2 ∨ j = 3 ∨ j = 4 ∨ j = 5 ∨ j = 6 := by omega
  rcases h with rfl | rfl | rfl | rfl | rfl | rfl | rfl <;> exact ⟨by decide, by decide, by decide, by decide⟩
end
end L2
namespace L2
open PySem PySem.Spec PyProof.Rows PySem.Calls
section
variable {prog : Program} {w : World} {A : Around} {E : Value → Shared → Prop}
end
end L2
namespace L2
open PySem PySem.Spec PyProof.Rows PySem.Calls
section
variable {prog : Program} {w : World} {A : Around}
end
section
variable {X : Cx}
end
end L2
namespace L2
open PySem PySem.Spec PyProof.Rows PySem.Calls
section
variable {X : Cx}
theorem keyOf_inj {a b : List Int} (h : keyOf a = keyOf b) : a = b := (List.map_inj_right (fun x y => Sum.inl.inj)).mp h
end
section
variable {X : Cx} {bs : Md} {pos p pos2 p2 : Pos} {e : Expr} {fr : FA}
end
end L2
namespace L2
open PySem PySem.Spec PyProof.Rows
section
variable {X : Cx} {bs : Md} {pos : Pos} {a b : Expr} {fa fb : FE}
end
end L2
namespace L2
open PySem PySem.Spec PyProof.Rows PySem.Calls
section
variable {prog : Program} {w : World} {A : Around} {E : Value → Shared → Prop}
end
end L2
namespace L2
open PySem PySem.Spec PyProof.Rows PySem.Calls
section
variable {X : Cx}
end
end L2
namespace L2
open PySem PySem.Spec PyProof.Rows PySem.Calls
section
variable {X : Cx}
end
end L2
namespace L2
open PySem PySem.Spec PyProof.Rows PySem.Calls
section
variable {X : Cx}
end
section
variable {X : Cx} {bs : Md} {pos p pos2 p2 : Pos} {e : Expr} {fr : FA}
end
end L2
namespace L2
open PySem PySem.Spec PyProof.Rows
section
variable {K : PySem.W.Frag} {bs : Md} {G : Nat → Option Addr} {F0 F' : Hp} {σ : St} {H I : Hp} {ρ : Ev}
structure Hid (F0 F' : Hp) (D : Addr) (as : List Addr) (xs : List (List V)) : Prop where
  out : ∀ b, b ≠ D → b ∉ as → F' b = F0 b
  top : F' D = some (.lst (as.map V.ref))
  row : ∀ (i : Nat) (b : Addr) (c : List V), as[i]? = some b → xs[i]? = some c → F' b = some (.lst c)
  len : xs.length = as.length
  nd : as.Nodup
  nt : D ∉ as
  fD : F0 D = none
  fA : ∀ b ∈ as, F0 b = none
def RowsOk (K : PySem.W.Frag) (I : Hp) (xs : List (List V)) (cs : List (List Dt)) : Prop := xs.length = cs.length ∧ ∀ (i : Nat) (x : List V) (c : List Dt), xs[i]? = some x → cs[i]? = some c → DpAll K I x c ∧ x.length ≤ sizeLine
theorem RowsOk.up {I' : Hp} {xs : List (List V)} {cs : List (List Dt)} (s : Same I I') (h : RowsOk K I xs cs) : RowsOk K I' xs cs := ⟨h.1, fun i x c e1 e2 => ⟨DpAll.up s (h.2 i x c e1 e2).1, (h.2 i x c e1 e2).2⟩⟩
theorem get_snoc {α : Type} {l : List α} {y z : α} {i : Nat} (h : (l ++ [y])[i]? = some z) : l[i]? = some z ∧ i < l.length ∨ i = l.length ∧ z = y := by
  rcases Nat.lt_trichotomy i l.length with q | q | q
  · rw [List.getElem?_append_left q] at h; exact .inl ⟨h, q⟩
  · subst q; rw [List.getElem?_append_right (Nat.le_refl _)] at h; simp at h; exact .inr ⟨rfl, h.symm⟩
  · rw [List.getElem?_append_right (by omega), List.getElem?_eq_none (by simp; omega)] at h; cases h
theorem RowsOk.snoc {xs : List (List V)} {cs : List (List Dt)} {x : List V} {c : List Dt} (h : RowsOk K I xs cs) (h1 : DpAll K I x c) (h2 : x.length ≤ sizeLine) : RowsOk K I (xs ++ [x]) (cs ++ [c]) := by
  refine ⟨by simp [h.1], fun i y d e1 e2 => ?_⟩
  rcases get_snoc e1 with ⟨q1, l1⟩ | ⟨q1, rfl⟩
  · rcases get_snoc e2 with ⟨q2, _⟩ | ⟨q2, _⟩
    · exact h.2 i y d q1 q2
    · rw [h.1] at l1; omega
  · rcases get_snoc e2 with ⟨_, l2⟩ | ⟨q2, rfl⟩
    · rw [← h.1] at l2; omega
    · exact ⟨h1, h2⟩
theorem RowsOk.set {xs : List (List V)} {cs : List (List Dt)} {x : List V} {c : List Dt} {k : Nat} (h : RowsOk K I xs cs) (h1 : DpAll K I x c) (h2 : x.length ≤ sizeLine) : RowsOk K I (xs.set k x) (cs.set k c) := by
  refine ⟨by simp [h.1], fun i y d e1 e2 => ?_⟩
  by_cases z : k = i
  · subst z
    have l1 := (List.getElem?_eq_some_iff.mp e1).1
    have l2 := (List.getElem?_eq_some_iff.mp e2).1
    rw [List.length_set] at l1 l2
    rw [List.getElem?_set_self l1] at e1
    rw [List.getElem?_set_self l2] at e2
    cases e1; cases e2
    exact ⟨h1, h2⟩
  · rw [List.getElem?_set_ne z] at e1 e2
    exact h.2 i y d e1 e2
theorem Hid.snoc {D p : Addr} {as : List Addr} {xs : List (List V)} {x : List V} (h : Hid F0 F' D as xs) (hp : F' p = none) : Hid F0 (upd (upd F' p (.lst x)) D (.lst (as.map V.ref ++ [.ref p]))) D (as ++ [p]) (xs ++ [x]) := by
  have pD : p ≠ D := fun z => by rw [z, h.top] at hp; cases hp
  have pA : p ∉ as := fun z => by
    obtain ⟨i, hi, e⟩ := List.getElem_of_mem z
    have hx : i < xs.length := by rw [h.len]; exact hi
    have : F' p = some (.lst xs[i]) := h.row i p xs[i] (by rw [← e]; exact List.getElem?_eq_getElem hi) (List.getElem?_eq_getElem hx)
    rw [hp] at this; cases this
  refine ⟨fun b h1 h2 => ?_, by rw [upd_same]; simp, fun i b c e1 e2 => ?_, by simp [h.len], ?_, ?_, h.fD, fun b hb => ?_⟩
  · simp only [List.mem_append, List.mem_singleton, not_or] at h2
    rw [upd_ne h1, upd_ne h2.2]; exact h.out b h1 h2.1
  · rcases get_snoc e1 with ⟨q1, l1⟩ | ⟨q1, rfl⟩
    · have bm : b ∈ as := List.mem_of_getElem? q1
      have b1 : b ≠ D := fun z => by subst z; exact h.nt bm
      have b2 : b ≠ p := fun z => by subst z; exact pA bm
      rw [upd_ne b1, upd_ne b2]
      rcases get_snoc e2 with ⟨q2, _⟩ | ⟨q2, _⟩
      · exact h.row i b c q1 q2
      · rw [h.len] at q2; omega
    · rw [upd_ne pD, upd_same]
      rcases get_snoc e2 with ⟨_, l2⟩ | ⟨q2, rfl⟩
      · rw [h.len] at l2; omega
      · rfl
  · rw [List.nodup_append]
    refine ⟨h.nd, by simp, fun a ha b hb => ?_⟩
    simp at hb; subst hb; exact fun z => pA (z ▸ ha)
  · simp only [List.mem_append, List.mem_singleton, not_or]; exact ⟨h.nt, fun z => pD z.symm⟩
  · rcases List.mem_append.mp hb with q | q
    · exact h.fA b q
    · simp at q; subst q; rw [← h.out b pD pA]; exact hp
theorem Hid.set {D b : Addr} {as : List Addr} {xs : List (List V)} {x : List V} {k : Nat} (h : Hid F0 F' D as xs) (hk : as[k]? = some b) : Hid F0 (upd F' b (.lst x)) D as (xs.set k x) := by
  have bm : b ∈ as := List.mem_of_getElem? hk
  have bD : D ≠ b := fun z => h.nt (z ▸ bm)
  refine ⟨fun c h1 h2 => ?_, by rw [upd_ne bD]; exact h.top, fun i c y e1 e2 => ?_, by simp [h.len], h.nd, h.nt, h.fD, h.fA⟩
  · have c1 : c ≠ b := fun z => by subst z; exact h2 bm
    rw [upd_ne c1]; exact h.out c h1 h2
  · by_cases z : k = i
    · subst z
      rw [hk] at e1; cases e1
      have l2 := (List.getElem?_eq_some_iff.mp e2).1
      rw [List.length_set] at l2
      rw [List.getElem?_set_self l2] at e2
      cases e2
      rw [upd_same]
    · rw [List.getElem?_set_ne z] at e2
      have : c ≠ b := fun w => by
        subst w
        have l1 := (List.getElem?_eq_some_iff.mp hk).1
        obtain ⟨l3, e3⟩ := List.getElem?_eq_some_iff.mp e1
        obtain ⟨_, e4⟩ := List.getElem?_eq_some_iff.mp hk
        exact z ((List.getElem_inj h.nd).mp (e4.trans e3.symm))
      rw [upd_ne this]; exact h.row i c y e1 e2
end
section
variable {X : Cx} {bs : Md} {fi : FI} {fg : FG} {js : List Nat} {fe : FE}
variable {fi1 : FI} {fg1 : FG} {js1 : List Nat} {fe1 fe2 fb1 fb2 : FE} {tg tg2 iter iter2 elt b1 b2 c1 c2 : Expr} {scope scope2 : Scope} {hx lx : Str}
end
end L2
namespace L2
open PySem PySem.Spec PyProof.Rows
section
variable {X : Cx} {pins : List (Addr × Obj)} {σ : St} {H : Hp} {s : Shared} {a : Addr} {y v : V} {u r : Value} {A : Around} {E : Value → Shared → Prop}
theorem len_storedH {xs : List (List Key × Addr × Value)} {k : List Key} {b : Addr} {z : Value} : (storedH xs k b z).length ≤ xs.length + 1 := by
  unfold storedH
  split <;> simp
end
section
variable {X : Cx}
end
end L2
namespace L2
open PySem PySem.Spec PyProof.Rows
def tKeyE : Dt → Option (List Int)
  | .tuple ds => intsD ds
  | _ => none
def keysE : List Dt → Option (List (List Int))
  | [] => some []
  | y :: ys => (tKeyE y).bind fun n => (keysE ys).bind fun ns => some (n :: ns)
def fkeysT (nss : List (List Int)) : List (List Int) := nss.foldl (fun acc n => if n ∈ acc then acc else acc ++ [n]) []
theorem fkeysT_snoc (nss : List (List Int)) (n : List Int) : fkeysT (nss ++ [n]) = if n ∈ fkeysT nss then fkeysT nss else fkeysT nss ++ [n] := by unfold fkeysT; rw [List.foldl_append]; rfl
theorem keys_snoc : ∀ {ys : List Dt} {nss : List (List Int)} {y : Dt} {n : List Int}, keysE ys = some nss → tKeyE y = some n → keysE (ys ++ [y]) = some (nss ++ [n])
  | [], nss, y, n, h, e => by cases h; show (tKeyE y).bind _ = _; rw [e]; rfl
  | z :: ys, nss, y, n, h, e => by
    obtain ⟨m, e1, h⟩ := bind_some h
    obtain ⟨ns, e2, h⟩ := bind_some h
    cases h
    show (tKeyE z).bind _ = _
    rw [e1]
    show (keysE (ys ++ [y])).bind _ = _
    rw [keys_snoc e2 e]; rfl
def EnOk (K : PySem.W.Frag) (I : Hp) (xs : List (List Key × Addr × Value)) (outs : List Dt) : Prop := ∃ nss, keysE outs = some nss ∧ xs.map (·.1) = (fkeysT nss).map keyOf ∧ (∀ q ∈ xs, SqT K I q.2.1 (List.map kV q.1)) ∧ xs.length ≤ outs.length
section
variable {K : PySem.W.Frag} {I I' : Hp} {xs : List (List Key × Addr × Value)} {outs : List Dt}
theorem EnOk.nil : EnOk K I [] [] := ⟨[], rfl, rfl, fun q h => by simp at h, Nat.le_refl _⟩
theorem EnOk.up (s : Same I I') (h : EnOk K I xs outs) : EnOk K I' xs outs := let ⟨n, a, b, c, d⟩ := h; ⟨n, a, b, fun q hq => SqT.up s (c q hq), d⟩
theorem EnOk.len (h : EnOk K I xs outs) : xs.length ≤ outs.length := let ⟨_, _, _, _, d⟩ := h; d
theorem EnOk.at_ (h : EnOk K I xs outs) : ∀ q ∈ xs, SqT K I q.2.1 (List.map kV q.1) := let ⟨_, _, _, c, _⟩ := h; c
theorem putAt_keys (k : List Key) (v : Value) (xs : List (List Key × Addr × Value)) : (xs.map (putAt k v)).map (·.1) = xs.map (·.1) := by
  rw [List.map_map]
  refine List.map_congr_left fun q _ => ?_
  show (putAt k v q).1 = q.1
  unfold putAt; split <;> rfl
theorem atKey_some {k : List Key} : (atKey xs k).isSome = true ↔ k ∈ xs.map (·.1) := by
  unfold atKey
  rw [Option.isSome_map, List.find?_isSome]
  simp
theorem EnOk.put {y : Dt} {n : List Int} {b : Addr} {v : Value} (h : EnOk K I xs outs) (hy : tKeyE y = some n) (hb : SqT K I b ((keyOf n).map kV)) : EnOk K I (storedH xs (keyOf n) b v) (outs ++ [y]) := by
  obtain ⟨nss, h1, h2, h3, h4⟩ := h
  refine ⟨nss ++ [n], keys_snoc h1 hy, ?_, ?_, ?_⟩
  · rw [fkeysT_snoc]
    by_cases hm : n ∈ fkeysT nss
    · have : (atKey xs (keyOf n)).isSome = true := atKey_some.mpr (by rw [h2]; exact List.mem_map.mpr ⟨n, hm, rfl⟩)
      rw [if_pos hm]
      unfold storedH
      rw [if_pos this, putAt_keys, h2]
    · have : ¬ (atKey xs (keyOf n)).isSome = true := fun z => hm (by
        have := atKey_some.mp z
        rw [h2] at this
        obtain ⟨m, hm', e⟩ := List.mem_map.mp this
        rw [← keyOf_inj e]; exact hm')
      rw [if_neg hm]
      unfold storedH
      rw [if_neg this, List.map_append, List.map_append, h2]; rfl
  · intro q hq
    unfold storedH at hq
    split at hq
    · obtain ⟨q', hq', rfl⟩ := List.mem_map.mp hq
      have := h3 q' hq'
      unfold putAt; split <;> exact this
    · rcases List.mem_append.mp hq with z | z
      · exact h3 q z
      · rw [List.mem_singleton.mp z]; exact hb
  · have : (storedH xs (keyOf n) b v).length ≤ xs.length + 1 := len_storedH
    rw [List.length_append]; simp; omega
end
section
variable {K : PySem.W.Frag} {bs : Md} {G : Nat → Option Addr} {F0 F' : Hp} {σ : St} {H I : Hp} {ρ : Ev}
end
section
variable {X : Cx} {bs : Md} {fi fi1 : FI} {fg fg1 : FG} {ft ft1 : FT} {js js1 : List Nat} {fe f2 : FE}
variable {tg tg1 elt iter iter1 e2 : Expr} {scope : Scope} {y : Str}
end
end L2
namespace L2
open PySem PySem.Spec PyProof.Rows
section
variable {X : Cx} {bs : Md} {pos p p2 : Pos}
variable {a : Expr} {fa : FE}
end
end L2
namespace L2
open PySem PySem.Spec PyProof.Rows
section
variable (l : Addr) (items : Array Value) (n : Nat) (sl : Array (Option Value))
end
section
variable {X : Cx}
end
end L2
namespace L2
open PySem PySem.Spec PyProof.Rows
section
variable {X : Cx} {bs : Md} {pos p p2 tpos : Pos} {b e : Expr} {fb fe : FE} {x : Str} (i : Nat)
variable {tg : Expr} {body : List Stmt} {js : List Nat} {fg : FG} {f : FS}
end
end L2
namespace L2
open PySem PySem.Spec PyProof.Rows
def isInt : Dt → Bool
  | .int _ => true
  | _ => false
section
variable {X : Cx} {bs : Md} {pos p spos : Pos} {tg tg1 elt iter1 : Expr} {fe : FE} {fi1 : FI} {ft1 : FT} {js js1 : List Nat} {fg fg1 : FG}
end
section
variable {X : Cx} {bs : Md} {pos p spos py px cp kp vp : Pos} {tg tg1 elt iter1 k v : Expr} {fe fk : FE} {fi1 : FI} {ft1 : FT} {js js1 : List Nat} {fg fg1 : FG} {ifs1 : List Expr} {scope : Scope} {y : Str}
end
end L2
namespace L2
open PySem PySem.Spec PyProof.Rows
section
variable {X : Cx} {bs : Md} {pos p spos : Pos} {tg elt : Expr} {fe : FE} {ft : FT} {js : List Nat} {fg : FG}
variable {ifs : List Expr} {scope : Scope} {x : Str}
end
section
variable {X : Cx} {bs : Md} {pos p apos cpos p2 : Pos} {e : Expr} {td : TE}
end
end L2
namespace L2
open PySem PySem.Spec PyProof.Rows
def ZipR (h : Heap) (z TI TO : Addr) (f0 f1 : Value) : Prop :=
  h.get? z = some { cls := .type "zip", dict := none, data := .fields #[f0, f1, .bool false, .ref TI, .ref TO], slots := #[] }
def TupR (h : Heap) (T : Addr) (l : List Value) : Prop := h.get? T = some { cls := .type "tuple", data := .seq l.toArray }
def TupO (h : Heap) (T : Addr) (l : List Value) : Prop := ∃ o c, h.get? T = some o ∧ o.data = .seq l.toArray c
def OnlyAt (C : List Addr) (h h' : Heap) : Prop := h'.objs.size = h.objs.size ∧ ∀ c, c ∉ C → h'.get? c = h.get? c
theorem OnlyAt.refl {C : List Addr} {h : Heap} : OnlyAt C h h := ⟨rfl, fun _ _ => rfl⟩
theorem OnlyAt.step {C : List Addr} {a : Addr} {h h1 h2 : Heap} (x : OnlyAt C h h1) (y : Heap.SameBut a h1 h2) (m : a ∈ C) : OnlyAt C h h2 :=
  ⟨y.1.trans x.1, fun c hc => (y.2 c (fun e => hc (e ▸ m))).trans (x.2 c hc)⟩
section
variable {prog : Program} {w : World} {A : Around} {E : Value → Shared → Prop} {s : Shared}
def ItsAt (h : Heap) (its ts : List Addr) (i k : Nat) : Prop := ∀ j a t, its[j]? = some a → ts[j]? = some t → h.IsTupleIter a t (if j < k then i + 1 else i)
theorem ItsAt.only {C : List Addr} {h h' : Heap} {its ts : List Addr} {i k : Nat} (x : ItsAt h its ts i k) (hc : ∀ a ∈ its, a ∉ C) (y : OnlyAt C h h') : ItsAt h' its ts i k := fun j a t e1 e2 =>
  (x j a t e1 e2).at fun o e => (y.2 a (hc a (List.mem_of_getElem? e1))).trans e
theorem ItsAt.but {b : Addr} {h h' : Heap} {its ts : List Addr} {i k : Nat} (x : ItsAt h its ts i k) (hc : b ∉ its) (y : Heap.SameBut b h h') : ItsAt h' its ts i k := fun j a t e1 e2 =>
  (x j a t e1 e2).at fun o e => (y.2 a (fun z => hc (z ▸ List.mem_of_getElem? e1))).trans e
theorem ItsAt.go {h h' : Heap} {its ts : List Addr} {i k : Nat} {a t : Addr} (x : ItsAt h its ts i k) (nd : its.Nodup) (e1 : its[k]? = some a) (e2 : ts[k]? = some t) (z : h'.IsTupleIter a t (i + 1)) (y : Heap.SameBut a h h') : ItsAt h' its ts i (k + 1) := fun j b u q1 q2 => by
  by_cases hj : j = k
  · subst hj
    rw [e1] at q1; cases q1
    rw [e2] at q2; cases q2
    rw [if_pos (Nat.lt_succ_self _)]; exact z
  · have hb : b ≠ a := fun z => hj (by
      have h1 := (List.getElem?_eq_some_iff.mp q1)
      have h2 := (List.getElem?_eq_some_iff.mp e1)
      obtain ⟨l1, h1⟩ := h1
      obtain ⟨l2, h2⟩ := h2
      exact (List.getElem_inj nd).mp (by rw [h1, h2, z]))
    have := (x j b u q1 q2).at fun o e => (y.2 b hb).trans e
    by_cases hlt : j < k
    · rw [if_pos hlt] at this; rw [if_pos (by omega)]; exact this
    · rw [if_neg hlt] at this; rw [if_neg (by omega)]; exact this
end
end L2
namespace L2
open PySem PySem.Spec PyProof.Rows
section
variable {prog : Program} {w : World} {A : Around} {E : Value → Shared → Prop} {s : Shared}
def ZSt (z TI TO : Addr) (its ts : List Addr) (i : Nat) (h : Heap) : Prop :=
  ∃ f0 f1 l, (f0 = .none ∨ ∃ a : Nat, f0 = rawInt a) ∧ ZipR h z TI TO f0 f1 ∧ TupR h TI (its.map Value.ref) ∧ TupO h TO l ∧ l.length = its.length ∧ ItsAt h its ts i 0
theorem ZSt.type {z TI TO : Addr} {its ts : List Addr} {i : Nat} (h : ZSt z TI TO its ts i s.heap) : s.TypeIs (.ref z) "zip" := let ⟨_, _, _, _, hz, _⟩ := h; ⟨_, hz, rfl⟩
end
end L2
namespace L2
open PySem PySem.Spec PyProof.Rows
section
variable {M : Model} {A : Around} {E : Value → Shared → Prop} {s : Shared}
end
section
variable {K : PySem.W.Frag} {I : Hp}
end
section
variable {bs : Md}
end
end L2
namespace L2
open PySem PySem.Spec PyProof.Rows
end L2
namespace L2
open PySem PySem.Spec PyProof.Rows
section
variable {K : PySem.W.Frag} {I : Hp}
end
section
variable {X : Cx} {bs : Md} {pos p p2 : Pos} {e : Expr} {fr : FA}
end
end L2
namespace L2
open PySem PySem.Spec PyProof.Rows
def jnD : List Dt → Option Str
  | [] => some Str.empty
  | .int n :: ds => if n.natAbs.log2 < 1000 ∧ (Str.ofString (toString n)).length ≤ 1000 then (jnD ds).bind fun y => some (Str.ofString (toString n) ++ y) else none
  | .str x :: ds => if x.length ≤ 1000 then (jnD ds).bind fun y => some (x ++ y) else none
  | _ => none
def jnF (fr : FA) : FE := fun ρ => (fr ρ).bind fun (ds, ρ1) => (jnD ds).bind fun y => some (.str y, ρ1)
structure QFs (X : Cx) (bs : Md) (es : List Expr) (fr : FA) : Prop where
  mk :: (pfs : ∀ (pins : List (Addr × Obj)) (s : Shared) (σ : St) (H : Hp) (F : Fr) (I : Hp) (ρ : Ev) (ds : List Dt) (ρ' : Ev) (acc y : Str) (Q : Value → Shared → Prop), Inv X pins σ H s → Rl X.K bs F σ H I ρ → fr ρ = some (ds, ρ') → jnD ds = some y →
    acc.length + 1000 * es.length ≤ 100000 →
    (∀ t s' H' I', Inv X pins σ H' s' → Same I I' → Rl X.K bs F σ H' I' ρ' → Q (.str (acc ++ y) t) s') → wpAny (model X.prog X.w) X.A (joinParts acc (evalEach es X.env)) Q X.xe s)
theorem str_nil (x : Str) : x ++ Str.empty = x := by
  obtain ⟨c⟩ := x
  show (⟨c ++ #[]⟩ : Str) = _
  rw [Array.append_empty]
theorem str_assoc (x y z : Str) : x ++ y ++ z = x ++ (y ++ z) := by
  obtain ⟨a⟩ := x
  obtain ⟨b⟩ := y
  obtain ⟨c⟩ := z
  show (⟨a ++ b ++ c⟩ : Str) = ⟨a ++ (b ++ c)⟩
  rw [Array.append_assoc]
theorem str_len (x y : Str) : (x ++ y).length = x.length + y.length := Array.size_append
theorem big5 : 100000 ≤ sizeLine := by decide
section
variable {X : Cx} {bs : Md} {es : List Expr} {e : Expr} {fe : FE} {fr : FA} {pos : Pos}
theorem qfs_nil : QFs X bs [] nilA := ⟨fun pins s σ H F I ρ ds ρ' acc y Q Iv R e1 e2 hz k => by
  cases e1
  cases e2
  rw [str_nil] at k
  exact joinParts_nil (k _ _ H I (Iv.tok _) (Same.refl I) R) (Nat.le_trans (by omega) big5)⟩
theorem qfs_fin {fr : FA} {pins : List (Addr × Obj)} {σ : St} {H I : Hp} {F : Fr} {ρ ρ' : Ev} {s : Shared} {acc x y z : Str} {t : Tok} {ds : List Dt} {Q : Value → Shared → Prop} (hr : QFs X bs es fr) (Iv : Inv X pins σ H s) (R : Rl X.K bs F σ H I ρ) (e1 : fr ρ = some (ds, ρ'))
    (e2 : jnD ds = some y) (hx : x.length ≤ 1000) (hz : acc.length + 1000 * (es.length + 1) ≤ 100000) (k : ∀ t s' H' I', Inv X pins σ H' s' → Same I I' → Rl X.K bs F σ H' I' ρ' → Q (.str (acc ++ (x ++ y)) t) s') :
    (acc ++ x).length ≤ sizeLine ∧ wpAny (model X.prog X.w) X.A (joinParts (acc ++ x) (evalEach es X.env)) Q X.xe s := by
  have hl := str_len acc x
  refine ⟨Nat.le_trans (by omega) big5, hr.pfs pins s σ H F I ρ ds ρ' (acc ++ x) y Q Iv R e1 e2 (by omega) fun t s' H' I' J sm R' => ?_⟩
  rw [str_assoc]
  exact k t s' H' I' J sm R'
theorem qfs_str {x : Str} {j : Nat} {p : Pos} (hr : QFs X bs es fr) : QFs X bs (.Constant (.str x) j p :: es) (consA (cF (.str x)) fr) := ⟨fun pins s σ H F I ρ ds ρ' acc y Q Iv R e1 e2 hz k => by
  obtain ⟨⟨ds', ρ2⟩, g1, e3⟩ := bind_some (show (fr ρ).bind _ = _ from e1)
  cases e3
  have e2 : (if x.length ≤ 1000 then (jnD ds').bind fun y => some (x ++ y) else none) = some y := e2
  split at e2
  · rename_i hx
    obtain ⟨y', g2, e3⟩ := bind_some e2
    cases e3
    refine joinParts_cons (thn ((eo_str (X := X) (bs := bs) (pos := p) (j := j) (x := x)).pe pins s σ H (fun v H' => v = .str x ∧ ∃ I', Same I I' ∧ Rl X.K bs F σ H' I' ρ) Iv ⟨F, I, ρ, _, ρ, R, rfl, fun v H' I' s' R' d' => ?_⟩) fun v s1 ⟨u, H1, I1, r, q1, I', s', R'⟩ => ?_)
    · cases d'
      exact ⟨rfl, I', s', R'⟩
    · subst q1
      obtain ⟨t, rfl⟩ := r
      exact qfs_fin (z := x) (t := t) hr I1 R' g1 g2 hx (by simpa using hz) fun t s2 H2 I2 J2 s2' R2 => k t s2 H2 I2 J2 (s'.trans s2') R2
  · cases e2⟩
theorem qfs_val {p : Pos} (h : QE X bs e fe) (hr : QFs X bs es fr) : QFs X bs (.FormattedValue e (-1) none p :: es) (consA fe fr) := ⟨fun pins s σ H F I ρ ds ρ' acc y Q Iv R e1 e2 hz k => by
  obtain ⟨⟨d, ρ1⟩, e0, e1⟩ := bind_some e1
  obtain ⟨⟨ds', ρ2⟩, g1, e3⟩ := bind_some e1
  cases e3
  refine joinParts_cons (FormattedValue_plain (thn (h.pe pins s σ H (fun v H' => ∃ I', Same I I' ∧ Rl X.K bs F σ H' I' ρ1 ∧ Dp X.K I' v d) Iv ⟨F, I, ρ, _, ρ1, R, e0, fun v H' I' s' R' d' => ⟨I', s', R', d'⟩⟩) fun v s1 ⟨u, H1, J1, r, I', s', R', d'⟩ => ?_))
  cases d with
  | int n =>
    cases d'
    obtain ⟨t, rfl⟩ := r
    have e2 : (if n.natAbs.log2 < 1000 ∧ (Str.ofString (toString n)).length ≤ 1000 then (jnD ds').bind fun y => some (Str.ofString (toString n) ++ y) else none) = some y := e2
    split at e2
    · rename_i hx
      obtain ⟨y', g2, e3⟩ := bind_some e2
      cases e3
      exact formatField_int_small (Nat.lt_trans hx.1 (by decide)) (qfs_fin (z := y') (t := t) hr (J1.tok _) R' g1 g2 hx.2 (by simpa using hz) fun t s2 H2 I2 J2 s2' R2 => k t s2 H2 I2 J2 (s'.trans s2') R2)
    · cases e2
  | str x =>
    cases d'
    obtain ⟨t, rfl⟩ := r
    have e2 : (if x.length ≤ 1000 then (jnD ds').bind fun y => some (x ++ y) else none) = some y := e2
    split at e2
    · rename_i hx
      obtain ⟨y', g2, e3⟩ := bind_some e2
      cases e3
      exact formatField_str (fun t' tk => qfs_fin (z := y') (t := t) hr (J1.tok _) R' g1 g2 hx (by simpa using hz) fun t s2 H2 I2 J2 s2' R2 => k t s2 H2 I2 J2 (s'.trans s2') R2) (Nat.le_trans hx (by decide))
    · cases e2
  | none => cases e2
  | bool b => cases e2
  | list l => cases e2
  | tuple l => cases e2
  | dict l => cases e2⟩
theorem qe_jn {v1 v2 : Expr} (h : QFs X bs (v1 :: v2 :: es) fr) (hl : es.length ≤ 50 := by decide) : QE X bs (.JoinedStr (v1 :: v2 :: es) pos) (jnF fr) := ⟨fun pins s σ H Q Iv ⟨F, I, ρ, d, ρ', R, e, k⟩ => by
  obtain ⟨⟨ds, ρ1⟩, e1, e⟩ := bind_some e
  obtain ⟨y, e2, e⟩ := bind_some e
  cases e
  refine JoinedStr_many (h.pfs pins s σ H F I ρ ds _ Str.empty y _ Iv R e1 e2 (by show 0 + 1000 * (es.length + 1 + 1) ≤ _; omega) fun t s' H' I' J sm R' => ?_)
  have e0 : Str.empty ++ y = y := by
    obtain ⟨c⟩ := y
    show (⟨#[] ++ c⟩ : Str) = _
    rw [Array.empty_append]
  rw [e0]
  exact ⟨.str y, H', J, ⟨t, rfl⟩, k _ H' I' sm R' (.str y)⟩⟩
end
end L2
namespace L2
open PySem PySem.Spec PyProof.Rows
abbrev excBm : List Value := [.type "ValueError", .type "Exception", .type "BaseException", .type "object"]
structure ExF (K : PySem.W.Frag) (x : Str) (C : Addr) : Prop where
  here : PySem.W.nsIn K mainGlobals x = some (some (.ref C))
  is : PySem.W.excIn K C excBm "ValueError.__new__" = true
theorem ExF.own {K : PySem.W.Frag} {x : Str} {C : Addr} {h : Heap} {mg : Str → Option Value} (e : ExF K x C) (kin : K.In h) (gl : h.Ns mainGlobals mg) : OwnCls x C excBm "ValueError.__new__" mg h := by
  refine ⟨PySem.W.mg_of kin gl e.here, ?_⟩
  have z := e.is
  unfold PySem.W.excIn at z
  split at z
  · rename_i dct data slots look
    split at z
    · rename_i C2 tail s0 s1 s2 s3 nid s5 hm hs
      simp only [Bool.and_eq_true, beq_iff_eq, Bool.not_eq_true'] at z
      obtain ⟨⟨⟨⟨⟨z1, z2⟩, nodel⟩, tl⟩, nsok⟩, noinit⟩ := z
      subst z1 z2
      obtain ⟨a1, a2, a3, a4, a5, a6, a7, a8, a9, b1, b2⟩ := data
      dsimp only at hm nodel nsok noinit
      subst hm nodel
      have arr : slots = #[s0, s1, s2, s3, some (.builtin "ValueError.__new__"), s5] := by
        obtain ⟨l⟩ := slots
        simp only at hs
        rw [hs]
      subst arr
      exact ⟨tail, a4, a1, a5, a2, a6, a7, a8, a9, b1, dct, s0, s1, s2, s3, s5, _, kin _ _ look, .of_isNs (PySem.W.isNs_of_in kin nsok), PySem.W.nsMap_none_of_in kin nsok noinit, PySem.W.tail_of_in kin tl⟩
    · cases z
  · cases z
structure Fly (P : Program) (w : World) (l : List Env) (C : Addr) (H : Hp) (s : Shared) (H' : Hp) (e : Value) (s' : Shared) (B : Heap) : Prop where
  ea : ∃ a t, e = .ref a ∧ Heap.FlyingW B l a (.ref C) (.ref t) s'.heap
  os : s'.os = s.os
  bare : AllBare s'.gens
  un : Un (frs l) [] H H' s.heap s'.heap
  hok : HOk P w H' s'.heap
  trk : ∀ a o, H' a = some o → ∃ u, B.get? a = some u
  old : ∀ b o, s.heap.get? b = some o → b ∉ frs l → ∃ u, B.get? b = some u
def CXR (P : Program) (w : World) (C : Addr) : CXT := fun l H s E e s' => ∃ H' B, Fly P w l C H s H' e s' B ∧ E e none H'
section
variable {X : Cx} {pins : List (Addr × Obj)} {σ : St} {H H2 : Hp} {s s2 : Shared} {C : Addr}
theorem raise_leaves {h' : Heap} {e : Addr} {vs : List Value} {Q : Unit → Shared → Prop} {E : Value → Shared → Prop} (I : Inv X pins σ H2 s2) (hex : X.ex = []) (hst : X.stack = X.env :: X.outer) (hfr : X.env.frame = some X.env.locals)
    (hx : Heap.MadeExcOf s2.heap h' e (.ref C) vs) (hQ : ∀ s3 B, Fly X.prog X.w X.outer C X.H_0 X.s_0 H2 (.ref e) s3 B → Q () s3) : wpAny (model X.prog X.w) X.A (leaving X.env (.ref e)) Q E { s2 with heap := h' } := by
  have fr2 : s2.heap.FunFrames X.base (X.env :: X.outer) := hst ▸ I.stack
  have afr : X.A.frames = some (X.env :: X.outer) := hst ▸ I.ok.frames
  have sfr : ∀ b ∈ frs (X.env :: X.outer), H2 b = none := hst ▸ I.stkFree
  have efr : frs (X.env :: X.outer) = X.env.locals :: frs X.outer := by unfold frs; rw [List.filterMap_cons, hfr]
  have nx : ∀ b : Addr, b ∉ X.ex := fun b z => by rw [hex] at z; cases z
  have hin : ∀ env ∈ X.env :: X.outer, ∀ a, env.frame = some a → a ∈ frs (X.env :: X.outer) := fun env he a ha => List.mem_filterMap.mpr ⟨env, he, ha⟩
  have notin : ∀ b o, X.s_0.heap.get? b = some o → b ∉ frs X.outer → b ∉ frs (X.env :: X.outer) := fun b o q hb z => by
    rw [efr] at z
    rcases List.mem_cons.mp z with z | z
    · exact absurd (Nat.lt_of_lt_of_le (Heap.lt_size q) I.ok.above) (by rw [z]; exact Nat.lt_irrefl _)
    · exact hb z
  refine wpAny_leaves_madeW (base := PySem.W.hideAll s2.heap (frs (X.env :: X.outer))) (h := s2.heap) afr hfr (fun b o q => PySem.W.of_hideAll _ q) (PySem.W.funFrames_hide fr2 hin) hx fun h3 t fl tu nt up => hQ _ (PySem.W.hideAll s2.heap (frs (X.env :: X.outer))) ?_
  have slot : ∀ b o, X.s_0.heap.get? b = some o → b ∈ frs X.outer → ∃ sl, h3.get? b = some { o with slots := sl } := fun b o q hb => by
    obtain ⟨sl, q2⟩ := I.base.slot b o q (I.ok.frf b hb) hb (nx b)
    obtain ⟨_, o', ho, hnf⟩ := I.ok.funs.mem hb
    rw [q] at ho; cases ho
    obtain ⟨sl2, q4⟩ := up b _ (hx.keeps b _ q2) hnf
    exact ⟨sl2, q4⟩
  have inB : ∀ b o, X.s_0.heap.get? b = some o → b ∉ frs X.outer → ∃ u, (PySem.W.hideAll s2.heap (frs (X.env :: X.outer))).get? b = some u := fun b o q hb => by
    obtain ⟨u, q2⟩ := I.base.there b o q (nx b)
    exact ⟨u, PySem.W.hideAll_get _ q2 (notin b o q hb)⟩
  refine ⟨⟨e, t, rfl, fl⟩, I.os, I.bare, ⟨fun b o q n hb _ => ?_, fun b o q _ hb _ => slot b o q hb, fun b o q n _ => I.base.free b o q n (nx b), fun b o q _ => ?_, I.base.tups, I.base.frzs, I.base.tbls⟩, fun a o h => ?_, fun a o h => ?_, inB⟩
  · exact fl.1 b o (PySem.W.hideAll_get _ (I.base.keep b o q n hb (nx b)) (notin b o q hb))
  · by_cases hb : b ∈ frs X.outer
    · obtain ⟨sl, q2⟩ := slot b o q hb
      exact ⟨_, q2⟩
    · obtain ⟨u, q2⟩ := inB b o q hb
      exact ⟨u, fl.1 b u q2⟩
  · refine (I.hok a o h).stay (fun b u hb q => fl.1 b u (PySem.W.hideAll_get _ q fun z => ?_)) (fun b q => q) fun b xs q => q
    have hn := sfr b z
    rcases hb with rfl | hb
    · rw [h] at hn; cases hn
    · rw [hb] at hn; cases hn
  · obtain ⟨u, q⟩ := (I.hok a o h).some
    exact ⟨u, PySem.W.hideAll_get _ q fun z => by have hn := sfr a z; rw [h] at hn; cases hn⟩
theorem fly_inv {H1 : Hp} {e : Value} {s1 : Shared} {B h5 : Heap} (I : Inv X pins σ H s) (hex : X.ex = []) (fly : Fly X.prog X.w X.stack C H s H1 e s1 B) (st : B.StaysIn h5) (up : s1.heap.UpToSlots h5) : Inv X pins σ H1 { s1 with heap := h5 } := by
  have stB : B.StaysIn s1.heap := by obtain ⟨a, t, _, fl⟩ := fly.ea; exact fl.1
  have fix : ∀ b o, s1.heap.get? b = some o → (∃ u, B.get? b = some u) → h5.get? b = some o := fun b o q ⟨u, q2⟩ => by
    have := stB b u q2
    rw [q] at this; cases this
    exact st b o q2
  have slot : ∀ b o, s.heap.get? b = some o → H b = none → b ∈ frs X.stack → ∃ sl, h5.get? b = some { o with slots := sl } := fun b o q n hb => by
    obtain ⟨sl, q2⟩ := fly.un.slot b o q n hb (by simp)
    obtain ⟨_, o', ho, hnf⟩ := I.stack.mem hb
    rw [q] at ho; cases ho
    obtain ⟨sl2, q4⟩ := up b _ q2 hnf
    exact ⟨sl2, q4⟩
  refine I.call' (s' := { s1 with heap := h5 }) (ch := []) fly.os ⟨fun b o q n hb _ => fix b o (fly.un.keep b o q n hb (by simp)) (fly.old b o q hb), fun b o q n hb _ => slot b o q n hb, fly.un.free, fun b o q _ => ?_, fly.un.tups, fly.un.frzs, fly.un.tbls⟩ (fun a o h => ?_) fly.bare fun b z => absurd z (by simp)
  · by_cases hb : b ∈ frs X.stack
    · obtain ⟨sl, q2⟩ := slot b o q (I.stkFree b hb) hb
      exact ⟨_, q2⟩
    · obtain ⟨u, q2⟩ := fly.old b o q hb
      exact ⟨u, st b u q2⟩
  · refine (fly.hok a o h).stay (fun b u hb q => fix b u q ?_) (fun b q => q) fun b xs q => q
    rcases hb with rfl | hb
    · exact fly.trk _ _ h
    · exact fly.trk _ _ hb
end
section
variable {X : Cx} {x : Str} {C : Addr} {np cpos pos : Pos} {e0 : Expr} {te : TE}
theorem ps_raise (ex : ExF X.K x C) (hc : X.calm = true) (hg : Gl X x) (ha : PE X e0 te) (W : Hp → Prop) (hx : ∀ pins σ H s2 h' e vs, Inv X pins σ H s2 → Heap.MadeExcOf s2.heap h' e (.ref C) vs → W H → X.xe (.ref e) { s2 with heap := h' })
    (hd : (x == ("__debug__" : Str)) = false := by decide) (he : starEach [e0] X.env = (false, eval e0 X.env) :: starEach [] X.env := by rfl) :
    PS X (.Raise (some (.Call (.Name x np) [e0] [] cpos)) none pos) (fun D σ H => te σ H fun _ H' => 1 = 1 ∧ W H') := fun pins s σ H D I h => by
  have O := fun {s' : Shared} {H' : Hp} (J : Inv X pins σ H' s') => ex.own J.kIn (I.mod.glob.keeps J.bk)
  obtain ⟨tl, N, a1, a2, a3, a4, a5, a6, a7, a8, a9, k0, k1, k2, k3, k5, mN, hC, hN, hni, TL⟩ := (ex.own I.mod.kin I.mod.glob).obj
  refine wpAny_Raise_call_subT (C := C) (nm := a1) (q := a2) (N := N) (bs := a3) (bm := tl) (hdct := a4) (sn := a5) (sub := a6) (ab := a7) (col := a8) (dd := a9) (k0 := k0) (k1 := k1) (k2 := k2) (k3 := k3) (k5 := k5)
    PySem.F.excBase_ValueError (mN := mN) (TL.hasType PySem.F.excBase_ValueError.hasBase) (I.ok.hd hc) (by rw [he]; rfl) hni (ld_glob I hg (O I).bound ⟨rfl, ?_⟩ hd)
  have pa : PA X [e0] (tCons te tNil) := pa_cons ha pa_nil he
  have pa1 := pa cpos pins s σ H (fun vs H' => vs.length = 1 ∧ W H') I h
  rw [he] at pa1 ⊢
  refine Calls.evalArgs_plain (wpAny_mono pa1 (fun vs s2 hq => ?_) fun _ _ y => y)
  obtain ⟨us, H2, I2, r, hl, q⟩ := hq
  refine ⟨rfl, ?_, I2.bk _ _ hC, hN.keeps I2.bk, TL.keeps I2.bk, fun h' e hm => hx pins σ H2 s2 h' e _ I2 hm q⟩
  show vs.length ≤ sizeLine
  rw [← r.length, hl]; decide
end
end L2
namespace L2
open PySem PySem.Spec PyProof.Rows
abbrev Cx.tr (X : Cx) (pn : List (Addr × Obj)) (E : Value → Shared → Prop) : Cx := { X with pn := pn, xe := E }
abbrev Cx.suite (X : Cx) (a : Addr) : Cx := { X with A := X.A.mark (some (.ref a)), calm := false, xe := fun _ _ => False }
theorem Cx.Ok.tr {X : Cx} (ok : X.Ok) (pn : List (Addr × Obj)) (E : Value → Shared → Prop) : (X.tr pn E).Ok :=
  ⟨ok.mod, ok.kind, ok.glob, ok.blt, ok.above, ok.inj, ok.has, ok.cab, ok.hd, ok.frames, ok.stk, ok.exf, ok.bs, ok.bsz, ok.noex, ok.exfs, ok.funs, ok.frf⟩
theorem Cx.Ok.untr {X : Cx} {pn : List (Addr × Obj)} {E : Value → Shared → Prop} (ok : (X.tr pn E).Ok) : X.Ok :=
  ⟨ok.mod, ok.kind, ok.glob, ok.blt, ok.above, ok.inj, ok.has, ok.cab, ok.hd, ok.frames, ok.stk, ok.exf, ok.bs, ok.bsz, ok.noex, ok.exfs, ok.funs, ok.frf⟩
theorem Cx.Ok.suite {X : Cx} (ok : X.Ok) (a : Addr) : (X.suite a).Ok :=
  ⟨ok.mod, ok.kind, ok.glob, ok.blt, ok.above, ok.inj, ok.has, ok.cab, fun z => (nomatch z), ok.frames, ok.stk, ok.exf, ok.bs, ok.bsz, ok.noex, ok.exfs, ok.funs, ok.frf⟩
section
variable {X : Cx} {pins pn : List (Addr × Obj)} {σ : St} {H : Hp} {s : Shared} {E : Value → Shared → Prop} {a : Addr}
theorem Inv.tr (I : Inv X pins σ H s) (E : Value → Shared → Prop) : Inv (X.tr (X.pn ++ pins) E) [] σ H s := ⟨I.ok.tr _ E, I.os, I.bare, I.base, I.loc, I.cell, I.free, I.freeC, fun p hp => I.pin p (by simpa using hp), I.hok, I.len⟩
theorem Inv.untr (I : Inv (X.tr (X.pn ++ pins) E) [] σ H s) : Inv X pins σ H s := ⟨I.ok.untr, I.os, I.bare, I.base, I.loc, I.cell, I.free, I.freeC, fun p hp => I.pin p (by simpa using hp), I.hok, I.len⟩
theorem Inv.fewer (I : Inv (X.tr pn E) pins σ H s) : Inv (X.tr pn E) [] σ H s := ⟨I.ok, I.os, I.bare, I.base, I.loc, I.cell, I.free, I.freeC, fun p hp => I.pin p (by
  have hp : p ∈ pn ++ [] := hp
  rw [List.append_nil] at hp
  exact List.mem_append_left _ hp), I.hok, I.len⟩
theorem Inv.suite (I : Inv X pins σ H s) (a : Addr) : Inv (X.suite a) pins σ H s := ⟨I.ok.suite a, I.os, I.bare, I.base, I.loc, I.cell, I.free, I.freeC, I.pin, I.hok, I.len⟩
theorem Inv.unsuite (ok : X.Ok) (I : Inv (X.suite a) pins σ H s) : Inv X pins σ H s := ⟨ok, I.os, I.bare, I.base, I.loc, I.cell, I.free, I.freeC, I.pin, I.hok, I.len⟩
theorem SP.untr {D : Ends} {f : Flow} {s' : Shared} (h : SP (X.tr (X.pn ++ pins) E) [] D f s') : SP X pins D f s' := by
  cases f with
  | next => obtain ⟨σ', H', I, q⟩ := h; exact ⟨σ', H', I.untr, q⟩
  | brk => obtain ⟨σ', H', I, q⟩ := h; exact ⟨σ', H', I.untr, q⟩
  | cont => obtain ⟨σ', H', I, q⟩ := h; exact ⟨σ', H', I.untr, q⟩
  | ret u => obtain ⟨v, σ', H', I, r, q⟩ := h; exact ⟨v, σ', H', I.untr, r, q⟩
theorem SP.unsuite (ok : X.Ok) {D : Ends} {f : Flow} {s' : Shared} (h : SP (X.suite a) pins D f s') : SP X pins D f s' := by
  cases f with
  | next => obtain ⟨σ', H', I, q⟩ := h; exact ⟨σ', H', I.unsuite ok, q⟩
  | brk => obtain ⟨σ', H', I, q⟩ := h; exact ⟨σ', H', I.unsuite ok, q⟩
  | cont => obtain ⟨σ', H', I, q⟩ := h; exact ⟨σ', H', I.unsuite ok, q⟩
  | ret u => obtain ⟨v, σ', H', I, r, q⟩ := h; exact ⟨v, σ', H', I.unsuite ok, r, q⟩
end
section
variable {X : Cx} {x : Str} {C : Addr} {np pos hp : Pos} {b0 : Stmt} {body suite : List Stmt} {ts : TS} {tb : (St → Hp → Prop) → TS}
end
section
variable {X : Cx} {k : Nat} {f C : Addr} {fd : FuncData} {ps : List Str} {sp : Sp} {x : Str} {p pos : Pos} {e : Expr} {es : List Expr} {t : TA} {W : St → Hp → Prop}
end
end L2
namespace L2
open PySem PySem.Spec PyProof.Rows
abbrev FnX := List Dt → Option (Option Dt)
abbrev FSx := Ev → Option (Option Out × Ev)
def EndX (K : PySem.W.Frag) (tn : List Str) (I F : Hp) (Q : VK) (E : XK) : Option Dt → Prop
  | some d => ∀ v H' I', Same I I' → Same I' H' → Same F H' → (∀ a o, F a = some o → I' a = none) → SzOk I' → Tabs K tn H' I' F → Dp K I' v d → Q v H'
  | none => ∀ e H' I', Same I I' → Same I' H' → Same F H' → (∀ a o, F a = some o → I' a = none) → SzOk I' → Tabs K tn H' I' F → E e none H'
def spqx (K : PySem.W.Frag) (tn : List Str) (np : Nat) (fn : FnX) : Sp := fun vs H Q E => ∃ F I ds r, Same I H ∧ Same F H ∧ (∀ a o, F a = some o → I a = none) ∧ SzOk I ∧ Tabs K tn H I F ∧ DpAll K I vs ds ∧ ds.length = np ∧ fn ds = some r ∧ EndX K tn I F Q E r
def EndR (K : PySem.W.Frag) (bs : Md) (F : Fr) (σ : St) (I : Hp) (ρ : Ev) (Q : VK) (W : Hp → Prop) : Option Dt → Prop
  | some d => ∀ v H' I', Same I I' → Rl K bs F σ H' I' ρ → Dp K I' v d → Q v H'
  | none => ∀ H' I', Same I I' → Rl K bs F σ H' I' ρ → W H'
open Classical in
theorem spqx_of {K : PySem.W.Frag} {bs : Md} {F : Fr} {σ : St} {H1 I1 : Hp} {ρ1 : Ev} {vs : List V} {ds : List Dt} {fn : FnX} {r : Option Dt} {Q : VK} {W : Hp → Prop} {np : Nat} (R1 : Rl K bs F σ H1 I1 ρ1) (d1 : DpAll K I1 vs ds) (hl : ds.length = np) (e3 : fn ds = some r) (k : EndR K bs F σ I1 ρ1 Q W r) :
    spqx K bs.tn np fn vs H1 Q fun _ _ H' => W H' := by
  let OB : Addr → Prop := fun a => ∃ i d, i ∈ bs.bs ∧ ρ1[i]? = some (some d) ∧ σ[i]? = some (some (.ref a))
  let F' : Hp := fun a => if OB a then H1 a else F.F a
  have oI : ∀ a, OB a → I1 a = none ∧ F.F a = none ∧ ∃ o, H1 a = some o := fun a ⟨i, d, h1, h2, h3⟩ => by
    obtain ⟨b, s1, b1, i1, f1⟩ := R1.box i d h2 h1
    rw [h3] at s1; cases s1
    exact ⟨i1, f1, b1.some⟩
  have toF' : ∀ a o, F.F a = some o → F' a = some o := fun a o h => by
    have hn : ¬ OB a := fun ho => by rw [(oI a ho).2.1] at h; cases h
    show (if OB a then H1 a else F.F a) = some o
    rw [if_neg hn]; exact h
  have re : ∀ H2 I2, Same I1 I2 → Same I2 H2 → Same F' H2 → (∀ a o, F' a = some o → I2 a = none) → SzOk I2 → Tabs K bs.tn H2 I2 F' → Rl K bs F σ H2 I2 ρ1 := fun H2 I2 s2 sub2 frm2 dis2 sz2 tab2 =>
    ⟨sub2, fun a o h => frm2 a o (toF' a o h), fun a o h => dis2 a o (toF' a o h), sz2, fun i d q hi => (by
      obtain ⟨v, h1, h2⟩ := R1.val i d q hi
      exact ⟨v, h1, Dp.up s2 h2⟩), fun i d q hi => (by
      obtain ⟨a, h1, h2, h3, h4⟩ := R1.box i d q hi
      have ho : OB a := ⟨i, d, hi, q, h1⟩
      obtain ⟨_, _, o, hO⟩ := oI a ho
      have hF' : F' a = some o := by show (if OB a then H1 a else F.F a) = some o; rw [if_pos ho]; exact hO
      exact ⟨a, h1, h2.up s2 ((frm2 a o hF').trans hO.symm), dis2 a o hF', h4⟩), R1.inj, R1.len, R1.anc, ⟨fun x hx c P' e => ⟨(tab2.1 x hx c P' e).1, (tab2.1 x hx c P' e).2.1, (R1.tab.1 x hx c P' e).2.2⟩, R1.tab.2⟩⟩
  refine ⟨F', I1, ds, r, R1.sub, fun a o h => ?_, fun a o h => ?_, R1.sz, ⟨fun x hx c P' e => ?_, fun a xs h => ?_⟩, d1, hl, e3, ?_⟩
  · have h : (if OB a then H1 a else F.F a) = some o := h
    by_cases ho : OB a
    · rw [if_pos ho] at h; exact h
    · rw [if_neg ho] at h; exact R1.frm a o h
  · have h : (if OB a then H1 a else F.F a) = some o := h
    by_cases ho : OB a
    · exact (oI a ho).1
    · rw [if_neg ho] at h; exact R1.dis a o h
  · obtain ⟨⟨ps, t1, t2⟩, t3, t4⟩ := R1.tab.1 x hx c P' e
    refine ⟨⟨ps, t1, t2⟩, t3, ?_⟩
    have hn : ¬ OB P' := fun ⟨i, d, h1, h2, h3⟩ => by
      obtain ⟨b, s1, b1, _, _⟩ := R1.box i d h2 h1
      rw [h3] at s1; cases s1
      cases d with
      | list ds => obtain ⟨xs, q, _⟩ := b1; rw [q] at t1; cases t1
      | dict kvs => obtain ⟨kv, q, r⟩ := b1; rw [q] at t1; cases t1; exact False.elim r
      | str x => obtain ⟨_, _, q⟩ := b1; rw [q] at t1; cases t1
      | _ => exact b1.elim
    show (if OB P' then H1 P' else F.F P') = none
    rw [if_neg hn]; exact t4
  · have h : (if OB a then H1 a else F.F a) = some (.tup xs) := h
    by_cases ho : OB a
    · rw [if_pos ho] at h
      obtain ⟨i, d, h1, h2, h3⟩ := ho
      obtain ⟨b, s1, b1, _, _⟩ := R1.box i d h2 h1
      rw [h3] at s1; cases s1
      exact bx_nt b1 xs h
    · rw [if_neg ho] at h; exact R1.tab.2 a xs h
  · cases r with
    | some d => exact fun v H2 I2 s2 a1 a2 a3 a4 a5 dv => k v H2 I2 s2 (re H2 I2 s2 a1 a2 a3 a4 a5) dv
    | none => exact fun e H2 I2 s2 a1 a2 a3 a4 a5 => k H2 I2 s2 (re H2 I2 s2 a1 a2 a3 a4 a5)
def EndW (K : PySem.W.Frag) (bs : Md) (F : Fr) (I : Hp) (ρ : Ev) (D : Ends) (W : Hp → Prop) : Option Out → Prop
  | some o => ∀ σ' H' I', Same I I' → Rl K bs F σ' H' I' ρ → EndO K I' D o σ' H'
  | none => ∀ σ' H' I', Same I I' → Rl K bs F σ' H' I' ρ → W H'
def tqXs (K : PySem.W.Frag) (bs : Md) (W : Hp → Prop) (f : FSx) : TS := fun D σ H => ∃ F I ρ r ρ', Rl K bs F σ H I ρ ∧ f ρ = some (r, ρ') ∧ EndW K bs F I ρ' D W r
structure QXs (X : Cx) (bs : Md) (W : Hp → Prop) (st : List Stmt) (f : FSx) : Prop where
  mk :: (ps : PSs X st (tqXs X.K bs W f))
def xEnd (f : FS) : FSx := fun ρ => (f ρ).bind fun (o, ρ1) => some (some o, ρ1)
def xSeq (f : FS) (g : FSx) : FSx := fun ρ => (f ρ).bind fun (o, ρ1) => match o with
  | .nx => g ρ1
  | o => some (some o, ρ1)
def xIf (t : FT) (fe : FE) (g : FSx) : FSx := fun ρ => (t ρ).bind fun (c, ρ1) => if c = true then (fe ρ1).bind fun (_, ρ2) => some (none, ρ2) else g ρ1
def RaiseOk (X : Cx) (C : Addr) (W : Hp → Prop) : Prop := ∀ pins σ H s2 h' e vs, Inv X pins σ H s2 → Heap.MadeExcOf s2.heap h' e (.ref C) vs → W H → X.xe (.ref e) { s2 with heap := h' }
section
variable {X : Cx} {bs : Md} {W : Hp → Prop} {st : Stmt} {rest : List Stmt} {f : FS} {g : FSx} {ft : FT} {fe : FE} {c e0 : Expr} {x : Str} {C : Addr} {np cpos pos ipos : Pos}
theorem PS.nox {st : Stmt} {t : TS} (h : PS X.nox st t) : PS X st t := fun pins s σ H D I hw =>
  wpAny_mono (h pins s σ H D (I.wish _) hw) (fun _ _ q => q.unwish) fun _ _ z => False.elim z
theorem EndW.up {K : PySem.W.Frag} {F : Fr} {I I' : Hp} {ρ : Ev} {D : Ends} (s : Same I I') : ∀ {r : Option Out}, EndW K bs F I ρ D W r → EndW K bs F I' ρ D W r
  | some o, k => fun σ H I2 s2 R => k σ H I2 (s.trans s2) R
  | none, k => fun σ H I2 s2 R => k σ H I2 (s.trans s2) R
theorem qxs_end (h : QSs X.nox bs rest f) : QXs X bs W rest (xEnd f) := ⟨PSs.weak h.ps.nox fun D σ H ⟨F, I, ρ, r, ρ', R, e, k⟩ => by
  obtain ⟨⟨o, ρ1⟩, e1, e⟩ := bind_some e
  cases e
  exact ⟨F, I, ρ, o, _, R, e1, k⟩⟩
theorem qxs_cons (h1 : QS X.nox bs st f) (h2 : QXs X bs W rest g) : QXs X bs W (st :: rest) (xSeq f g) := ⟨PSs.weak (pss_cons h1.ps.nox h2.ps) fun D σ H ⟨F, I, ρ, r, ρ', R, e, k⟩ => by
  obtain ⟨⟨o1, ρ1⟩, e1, e⟩ := bind_some e
  refine ⟨F, I, ρ, o1, ρ1, R, e1, fun σ1 H1 I1 s1 R1 => ?_⟩
  cases o1 with
  | nx => exact ⟨F, I1, ρ1, r, ρ', R1, e, k.up s1⟩
  | bk => cases e; exact k σ1 H1 I1 s1 R1
  | ct => cases e; exact k σ1 H1 I1 s1 R1
  | rt d => cases e; exact k σ1 H1 I1 s1 R1⟩
theorem qxs_if (hx : RaiseOk X C W) (ex : ExF X.K x C) (hcm : X.calm = true) (hg : Gl X x) (hc : QT X.nox bs c ft) (he : QE X.nox bs e0 fe) (h2 : QXs X bs W rest g) (hd : (x == ("__debug__" : Str)) = false := by decide)
    (hst : starEach [e0] X.env = (false, eval e0 X.env) :: starEach [] X.env := by rfl) :
    QXs X bs W (.If c [.Raise (some (.Call (.Name x np) [e0] [] cpos)) none pos] [] ipos :: rest) (xIf ft fe g) :=
  ⟨PSs.weak (pss_cons (ps_if hc.pt.nox (pss_one (ps_raise ex hcm hg he.pe.nox W hx hd hst)) pss_nil) h2.ps) fun D σ H ⟨F, I, ρ, r, ρ', R, e, k⟩ => by
    obtain ⟨⟨b, ρ1⟩, e1, e⟩ := bind_some e
    refine ⟨F, I, ρ, b, ρ1, R, e1, fun H1 I1 s1 R1 => ?_⟩
    cases b with
    | true =>
      obtain ⟨⟨d, ρ2⟩, e2, e⟩ := bind_some (show (fe ρ1).bind _ = _ from e)
      cases e
      show tq _ _ _ σ H1 _
      exact ⟨F, I1, ρ1, d, _, R1, e2, fun v H2 I2 s2 R2 _ => ⟨rfl, k σ H2 I2 (s1.trans s2) R2⟩⟩
    | false => exact ⟨F, I1, ρ1, r, ρ', R1, e, k.up s1⟩⟩
end
theorem raiseOk_of {P : Program} {w : World} {K : PySem.W.Frag} {mg : Str → Option Value} {base : Heap} {N : List Str} {qual : Str} {sc : Scope} {f : Addr} {cd : Value} {A : Around} {outer : List Env} {s : Shared} {H : Hp} {E : XK} {C : Addr} :
    RaiseOk (cxOf (CXR P w C) P w K mg base N qual sc f cd A outer s H E) C fun H' => ∀ e, E e none H' := fun pins σ H' s2 h' e vs I hm hW => by
  exact raise_leaves I rfl rfl rfl hm fun s3 B fly => ⟨H', B, fly, hW _⟩
def fnX (n np : Nat) (body : FSx) : FnX := fun ds => (body (ds.map some ++ List.replicate (n - ds.length) none)).bind fun (r, _) => match r with
  | none => some none
  | some .nx => some (some .none)
  | some (.rt d) => some (some d)
  | _ => none
section
variable {P : Program} {w : World} {K : PySem.W.Frag} {mg : Str → Option Value} {base : Heap}
theorem fn_qx {x qual : Str} {st : Stmt} {f C : Addr} {fd : FuncData} {N ps : List Str} {k : Nat} {M : Md} {body : FSx} (F : Fun K x qual st f fd) (hn : PySem.W.nsIn K mainGlobals x = some (some (.ref f))) (S : FnScope N ps (defScope st)) (hM : bpOk M (List.replicate ps.length false) = true)
    (hbody : ∀ (cdv : Value) (A : Around) (outer : List Env) (s : Shared) (H : Hp) (E : XK), (∀ c P, PySem.W.tabIn K x = some (c, P) → cdv = .ref c) → Room k (A.deeper (envOfC qual (defScope st) s.heap.objs.size f cdv)) →
      QXs (cxOf (CXR P w C) P w K mg base N qual (defScope st) f cdv A outer s H E) M (fun H' => ∀ e, E e none H') (defBody st) body) : FnOk P w K mg base (CXR P w C) (k + 1) f fd ps (spqx K M.tn ps.length (fnX N.length ps.length body)) := by
  obtain ⟨oc, od, kV, doc, pm, an, cdv, ct, osl, rfl, lk, hcd⟩ := F.ex
  refine fn_of lk hcd S (fun vs H Q E h => ?_) fun A outer s H vs Q E hr hsp => ?_
  · obtain ⟨F, I, ds, r, _, _, _, _, _, d, hl, _⟩ := h
    rw [d.length, hl]
  have hcc : ∀ c P, PySem.W.tabIn K x = some (c, P) → cdv = .ref c := fun c P e => by
    unfold PySem.W.tabIn at e
    rw [hn] at e
    simp only [lk] at e
    cases cdv with
    | ref c' =>
      simp only [PySem.W.fnOf] at e
      split at e
      · split at e
        · cases e; rfl
        · cases e
      · cases e
    | _ => simp [PySem.W.fnOf] at e
  obtain ⟨F, I, ds, r, h1, h2, h3, h4, h5, p, hl, e, kk⟩ := hsp
  have hno : ∀ i d, (ds.map some ++ List.replicate (N.length - ds.length) none)[i]? = some (some d) → i ∉ M.bs := fun i d q hi => by
    have q := ev_get.mp q
    have hi2 : i < ps.length := by rw [← hl]; exact (List.getElem?_eq_some_iff.mp q).1
    have := (bpOk_at hM (i := i) (b := false) (by rw [List.getElem?_replicate, if_pos hi2])).1.mp hi
    cases this
  have hNl : ds.length ≤ N.length := by
    have := congrArg List.length S.pre
    rw [List.length_take] at this
    omega
  obtain ⟨⟨o, ρ'⟩, e1, e⟩ := bind_some e
  refine ⟨_, (hbody cdv A outer s H E hcc hr).ps, ⟨F, fun _ => none⟩, I, _, o, ρ', ⟨h1, h2, h3, h4, fun i d q hi => ?_, fun i d q hi => absurd hi (hno i d q), fun i j d e a hi hj q1 q2 s1 s2 => absurd hi (hno i d q1), ?_, fun i a q => (nomatch q), h5⟩, e1, ?_⟩
  · obtain ⟨v, q1, q2⟩ := p.get (ev_get.mp q)
    exact ⟨v, start_get.mpr q1, q2⟩
  · unfold start
    have := p.length
    rw [List.length_append, List.length_append, List.length_map, List.length_map, List.length_replicate, List.length_replicate]
    omega
  · cases o with
    | none =>
      cases e
      exact fun σ' H' I' s' R' e => kk e H' I' s' R'.sub R'.frm R'.dis R'.sz R'.tab
    | some o =>
      cases o with
      | nx => cases e; exact fun σ' H' I' s' R' => kk _ H' I' s' R'.sub R'.frm R'.dis R'.sz R'.tab .non
      | rt d => cases e; exact fun σ' H' I' s' R' v dv => kk v H' I' s' R'.sub R'.frm R'.dis R'.sz R'.tab dv
      | bk => cases e
      | ct => cases e
end
end L2
namespace L2
open PySem PySem.Spec PyProof.Rows
section
variable {X : Cx} {bs : Md} {k : Nat} {f C : Addr} {fd : FuncData} {ps : List Str} {fn : FnX} {x y xc : Str} {p np cp rp hp pos yp : Pos} {e : Expr} {es : List Expr} {cs : List (Option Nat)} {fr : FA} {b0 : Stmt} {suite : List Stmt} {fs : FS}
theorem call_endR {F : Fr} {I : Hp} {σ : St} {H : Hp} {ρ ρ1 : Ev} {ds : List Dt} {r : Option Dt} {Q : VK} {W : Hp → Prop} (hn : ∀ c ∈ cs, c = none) (hl : cs.length = ps.length) (R : Rl X.K bs F σ H I ρ) (e1 : fr ρ = some (ds, ρ1)) (e2 : fn ds = some r)
    (k : ∀ I1, Same I I1 → EndR X.K bs F σ I1 ρ1 Q W r) : tqA X.K bs cs fr σ H fun vs H1 => spqx X.K bs.tn ps.length fn vs H1 Q fun _ _ H' => W H' :=
  ⟨F, I, ρ, ds, ρ1, R, e1, fun vs H1 I1 s1 R1 d1 => by
    have d2 := ArgR.all hn d1
    exact spqx_of R1 d2 (by rw [← d2.length, d1.lenc, hl]) e2 (k I1 s1)⟩
end
end L2
namespace L2
open PySem PySem.Spec PyProof.Rows
section
variable {P : Program} {w : World} {K : PySem.W.Frag} {mg : Str → Option Value} {base : Heap}
end
end L2
namespace L2
open PySem PySem.Spec PyProof.Rows PySem.Calls
section
variable {X : Cx}
end
section
variable {X : Cx} {bs : Md} {pos p pos2 p2 : Pos} {e : Expr} {fr : FA}
end
end L2
namespace L2
open PySem PySem.Spec PyProof.Rows
section
variable {X : Cx} {bs : Md} {pos p2 p : Pos} {b : Expr} {fb : FE} {x : Str} (i : Nat)
end
end L2
namespace L2
open PySem PySem.Spec PyProof.Rows PySem.Calls
section
variable {prog : Program} {w : World} {A : Around} {E : Value → Shared → Prop}
end
section
variable {X : Cx}
end
section
variable {X : Cx} {bs : Md} {pos p pos2 p2 : Pos} {e : Expr} {fr : FA}
end
end L2
namespace L2
open PySem PySem.Spec PyProof.Rows
section
variable {X : Cx} {bs : Md} {pos p2 p p3 : Pos} {e : Expr} {lo hi : Option Expr} {fe : FE} {fl fh : FO} {x : Str} (i : Nat)
end
end L2
namespace L2
open PySem PySem.Spec PyProof.Rows PySem.Calls
section
variable {prog : Program} {w : World} {A : Around} {E : Value → Shared → Prop} {s : Shared} {O : KeyOrd} {key : Keyed → O.α} {G : Keyed → Prop} {κ : SortKind}
end
end L2
namespace L2
open PySem PySem.Spec PyProof.Rows PySem.Calls
section
variable {prog : Program} {w : World} {A : Around} {E : Value → Shared → Prop} {s : Shared}
def ascR (x y : Dt) : Prop := cmpP .Lt x y = some true ∧ cmpP .Lt y x = some false
def KB (a : List Dt) (κ : SortKind) : Prop :=
  (κ = oneType' ∧ ∃ r, a = .tuple [] :: r ∧ ∀ d ∈ r, ∃ l, d = .tuple l) ∨ (κ = tuples' true ∧ ∀ d ∈ a, ∃ i l, d = .tuple (.int i :: l)) ∨ (κ = tuples' false ∧ ∀ d ∈ a, ∃ m l, d = .tuple (.tuple m :: l))
structure SrtOk (a r : List Dt) : Prop where
  perm : r.Perm a
  asc : r.Pairwise ascR
  refl : ∀ x ∈ a, cmpP .Lt x x = some false
  tame : tameAll 12 a = true
  kind : a.length < 2 ∨ ∃ κ, KB a κ
section
variable {M : Model}
end
end
end L2
namespace L2
open PySem PySem.Spec PyProof.Rows PySem.Calls
section
end
section
variable {X : Cx}
end
end L2
namespace L2
open PySem PySem.Spec PyProof.Rows
theorem or_some {α : Type} {a : Option α} {b : Unit → Option α} {r : α} (h : a.orElse b = some r) : a = some r ∨ b () = some r := by cases a with | none => exact .inr h | some x => exact .inl h
def orD (g h : Dt → Dt → Option Dt) : Dt → Dt → Option Dt := fun d e => (g d e).orElse fun _ => h d e
def orL (g h : List Dt → Option Dt) : List Dt → Option Dt := fun ds => (g ds).orElse fun _ => h ds
theorem oq_or {X : Cx} {f : Value → Value → Sem Value} {g h : Dt → Dt → Option Dt} (p : OpQ X f g) (q : OpQ X f h) : OpQ X f (orD g h) := ⟨fun pins s σ H x y v u Q I rx ry ⟨J, d, e, r, sm, z, dx, dy, gg, k⟩ => by
  rcases or_some gg with gg | gg
  · exact p.op pins s σ H x y v u Q I rx ry ⟨J, d, e, r, sm, z, dx, dy, gg, k⟩
  · exact q.op pins s σ H x y v u Q I rx ry ⟨J, d, e, r, sm, z, dx, dy, gg, k⟩⟩
theorem cq_or {X : Cx} {f : Value} {g h : List Dt → Option Dt} (p : CallQ X f g) (q : CallQ X f h) : CallQ X f (orL g h) := ⟨fun pins s σ H xs us Q I rs ⟨J, ds, r, sm, z, dx, gg, k⟩ => by
  rcases or_some gg with gg | gg
  · exact p.op pins s σ H xs us Q I rs ⟨J, ds, r, sm, z, dx, gg, k⟩
  · exact q.op pins s σ H xs us Q I rs ⟨J, ds, r, sm, z, dx, gg, k⟩⟩
def isStr : Dt → Bool
  | .str _ => true
  | _ => false
theorem strSz : sizeLine = 16777216 := sizeLine_eq
def notInS : Dt → Dt → Option Dt
  | .str ⟨x⟩, .str z => match x.toList with | [c] => some (.bool (!decide (c ∈ z.cps.toList))) | _ => none
  | _, _ => none
def lenS : List Dt → Option Dt
  | [.str x] => if x.length ≤ 16777216 then some (.int x.length) else none
  | _ => none
section
variable {X : Cx}
theorem one_of {x : Array Nat} {c : Nat} (h : x.toList = [c]) : x = #[c] := by
  have := congrArg List.toArray h
  simpa using this
theorem oq_notInS : OpQ X (compareOp .NotIn) notInS := OpQ.of op_notIn_sign fun x y H Q ⟨I, d, e, r, s, z, dx, dy, g, k⟩ => by
  cases dx with
  | str i => cases dy with
    | str j =>
      obtain ⟨i⟩ := i
      have g : (match i.toList with | [c] => some (PyData.bool (!decide (c ∈ j.cps.toList))) | _ => none) = some r := g
      split at g
      · rename_i c h; cases g; exact ⟨c, j, by rw [one_of h], rfl, k _ H I (Grow.refl s z) (.bl _)⟩
      · cases g
    | _ => cases g
  | _ => cases g
theorem cq_lenS : CallQ X (.builtin "len") lenS := ⟨CallR.weak call_len_str fun xs H Q ⟨I, ds, r, s, z, d, g, k⟩ => by
  unfold lenS at g
  split at g
  · split at g
    · rename_i hz; cases g
      cases d with | cons d1 d2 => cases d2; cases d1; exact ⟨_, rfl, by rw [strSz]; exact hz, k _ H I (Grow.refl s z) (.int _)⟩
    · cases g
  · cases g⟩
variable {bs : Md} {a b c e o tg : Expr} {fa fb fe fo : FE} {pos p2 : Pos} {lo hi : Option Expr} {fl fh fk : FO}
theorem eo_globS {x y : Str} {t : Tok} (hg : Gl X x) (hm : X.mg x = some (.str y t)) (hd : (x == ("__debug__" : Str)) = false := by decide) : QE X bs (.Name x pos) (cF (.str y)) :=
  ⟨PE.weak (pe_glob hg hm (show RelV (.str y) _ from ⟨t, rfl⟩) hd) fun σ H Q ⟨F, I, ρ, d, ρ', R, e, k⟩ => by cases e; exact k _ H I (Same.refl I) R (.str y)⟩
def truS : Dt → Option Bool
  | .str x => if x.length ≤ 16777216 then some ((x.length : Int) != 0) else none
  | d => truD d
def truX (f : FE) : FT := fun ρ => (f ρ).bind fun (x, ρ1) => (truS x).bind fun b => some (b, ρ1)
theorem Dp.truS {K : PySem.W.Frag} {I H : Hp} {v : V} {d : Dt} {b : Bool} (s : Same I H) (h : Dp K I v d) (e : L2.truS d = some b) : TruV K v H b := by
  cases h with
  | str x =>
    have e : (if x.length ≤ 16777216 then some ((x.length : Int) != 0) else none) = some b := e
    split at e
    · rename_i hz; cases e; exact ⟨by rw [strSz]; exact hz, rfl⟩
    · cases e
  | non => exact Dp.tru s .non e
  | bl y => exact Dp.tru s (.bl y) e
  | int y => exact Dp.tru s (.int y) e
  | lst h1 h2 => exact Dp.tru s (.lst h1 h2) e
  | tup h1 h2 => exact Dp.tru s (.tup h1 h2) e
theorem to_truX {e : Expr} {f : FE} (h : QE X bs e f) (he : ∀ whole, isTrue e X.env whole = (do let v ← whole; standAt e.pos; holding [v] (truthy v)) := by intro _; rfl) : QT X bs e (truX f) :=
  ⟨PT.weak (pt_truth h.pe he) fun σ H Q ⟨F, I, ρ, d, ρ', R, e, k⟩ => by
    obtain ⟨⟨x, ρ1⟩, e1, e⟩ := bind_some e
    obtain ⟨b, e2, e⟩ := bind_some e
    cases e
    exact ⟨F, I, ρ, _, _, R, e1, fun v H1 I1 s1 R1 d1 => ⟨_, d1.truS R1.sub e2, k H1 I1 s1 R1⟩⟩⟩
end
end L2
namespace L2
open PySem PySem.Spec PyProof.Rows
def signsD (x : Str) : List Dt := x.cps.toList.map fun c => PyData.str ⟨#[c]⟩
def seqX (f : FE) : FI := fun ρ => (f ρ).bind fun (d, ρ1) => match d with | .list ds => some (ds, ρ1) | .tuple ds => some (ds, ρ1) | .str x => if x.length ≤ 16777216 then some (signsD x, ρ1) else none | _ => none
theorem walk_str {K : PySem.W.Frag} {bs : Md} {I : Hp} {x : Str} : Walk K bs (Its x) I (signsD x) := by
  intro i F σ H I' ρ s R
  refine ⟨fun d hd => ?_, fun hi => ?_⟩
  · unfold signsD at hd
    rw [List.getElem?_map] at hd
    obtain ⟨c, h1, h2⟩ := Option.map_eq_some_iff.mp hd
    subst h2
    have h3 : x.cps[i]? = some c := by simpa using h1
    refine ⟨(Array.getElem?_eq_some_iff.mp h3).1, fun v H' ⟨e, c', h4, h5⟩ => ?_⟩
    subst e; subst h5
    rw [h3] at h4; cases h4
    exact ⟨I', R.gr, .str _⟩
  · show x.cps.size ≤ i
    unfold signsD at hi
    simpa using hi
section
variable {X : Cx} {bs : Md} {a b c e o tg : Expr} {fa fb fe fo : FE} {pos p2 apos cpos : Pos} {lo hi : Option Expr} {fl fh fk : FO}
theorem pi_seqX {l : Expr} {tl : TE} (hl : PE X l tl) : PI X tg l (fun σ H R => tl σ H fun x H1 => (∃ a, x = .ref a ∧ (((∃ xs, SqL X.K H1 a xs) ∧ R (Itl X.K a) H1) ∨ ((∃ xs, SqT X.K H1 a xs) ∧ R (Itt X.K a) H1))) ∨ ∃ y, x = .str y ∧ R (Its y) H1) := by
  intro pins s σ H R I h
  refine thn (hl pins s σ H _ I h) fun v s1 ⟨x, H1, I1, r1, q1⟩ => ?_
  rcases q1 with ⟨a, e, q1⟩ | ⟨y, ex, q⟩
  · subst e
    cases r1
    rcases q1 with ⟨⟨xs, hq⟩, q⟩ | ⟨⟨xs, hq⟩, q⟩
    · obtain ⟨its, rv, p, hz⟩ := I1.list hq
      refine wpAny_pyIter_list p.isList ?_
      refine ⟨s1.heap.objs.size, [s1.heap.objs.size], _, _, H1, rfl, I1.kept (t' := s1.toks) fun b o e => Heap.get?_push_of_some _ e, turn_list a _, ⟨_, Heap.get?_push_size _ rfl, rfl, rfl⟩, fun b hb => ?_, q⟩
      have e : b = s1.heap.objs.size := by simpa using hb
      subst e
      exact I1.fpOk (Nat.le_refl _) (I1.hok.fresh (Nat.le_refl _))
    · obtain ⟨its, rv, p, hz⟩ := I1.tuple hq
      refine wpAny_pyIter_tuple (show s1.heap.IsTuple a its.toArray from p) ?_
      refine ⟨s1.heap.objs.size, [s1.heap.objs.size], _, _, H1, rfl, I1.kept (t' := s1.toks) fun b o e => Heap.get?_push_of_some _ e, turn_tuple a _, ⟨_, Heap.get?_push_size _ rfl, rfl, rfl⟩, fun b hb => ?_, q⟩
      have e : b = s1.heap.objs.size := by simpa using hb
      subst e
      exact I1.fpOk (Nat.le_refl _) (I1.hok.fresh (Nat.le_refl _))
  · subst ex
    obtain ⟨t, rfl⟩ := r1
    cases ha : y.cps.all (· < 128)
    · exact wpAny_pyIter_wide ha (pi_one (tk := s1.toks) I1 _ (turn_str _ y t "str_iterator" (.inr rfl)) ⟨_, Heap.get?_push_size _ rfl, rfl, rfl⟩ q)
    · exact wpAny_pyIter_ascii ha (pi_one (tk := s1.toks) I1 _ (turn_str _ y t "str_ascii_iterator" (.inl rfl)) ⟨_, Heap.get?_push_size _ rfl, rfl, rfl⟩ q)
theorem qi_seqX (he : QE X bs e fe) : QI X bs tg e (seqX fe) := ⟨PI.weak (pi_seqX he.pe) fun σ H Q ⟨F, I, ρ, ds, ρ', R, e, k⟩ => by
  obtain ⟨⟨d, ρ1⟩, e1, e⟩ := bind_some e
  refine ⟨F, I, ρ, d, ρ1, R, e1, fun v H1 I1 s1 R1 dv => ?_⟩
  cases dv with
  | @lst a xs ds h1 h2 =>
    cases e
    exact .inl ⟨a, rfl, .inl ⟨⟨xs, SqL.up R1.sub h1⟩, k _ H1 I1 s1 R1 (walk_lst h1 h2) (by rw [← h2.length]; exact SqL.sz R1.sz h1)⟩⟩
  | @tup a xs ds h1 h2 =>
    cases e
    exact .inl ⟨a, rfl, .inr ⟨⟨xs, SqT.up R1.sub h1⟩, k _ H1 I1 s1 R1 (walk_tup h1 h2) (by rw [← h2.length]; exact SqT.sz R1.sz h1)⟩⟩
  | str x =>
    have e : (if x.length ≤ 16777216 then some (signsD x, ρ1) else none) = some (ds, ρ') := e
    split at e
    · rename_i hz
      cases e
      exact .inr ⟨x, rfl, k _ H1 I1 s1 R1 walk_str (by rw [strSz]; unfold signsD; rw [List.length_map]; simpa [Str.length] using hz)⟩
    · cases e
  | _ => cases e⟩
def rm1 (K : PySem.W.Frag) (g : Dt → Dt → Option Dt) : V → List V → Hp → VK → Prop := fun x xs H Q => ∃ y I d e r, xs = [y] ∧ Same I H ∧ SzOk I ∧ Dp K I x d ∧ Dp K I y e ∧ g d e = some r ∧ ∀ v H' I', Grow H I H' I' → Dp K I' v r → Q v H'
structure MtQ (X : Cx) (id : String) (g : Dt → Dt → Option Dt) : Prop where
  mk :: (op : MtR X id (rm1 X.K g))
theorem MtQ.of {id : String} {r : V → List V → Hp → VK → Prop} {g : Dt → Dt → Option Dt} (h : MtR X id r) (w : ∀ x y I d e z H Q, Same I H → SzOk I → Dp X.K I x d → Dp X.K I y e → g d e = some z → (∀ v H' I', Grow H I H' I' → Dp X.K I' v z → Q v H') → r x [y] H Q) : MtQ X id g :=
  ⟨fun pins s σ H x xs v us Q I rx rs ⟨y, J, d, e, r, ex, sm, z, dx, dy, gg, k⟩ => h pins s σ H x xs v us Q I rx rs (by subst ex; exact w x y J d e r H Q sm z dx dy gg k)⟩
def m1F (g : Dt → Dt → Option Dt) (fo fe : FE) : FE := fun ρ => (fo ρ).bind fun (x, ρ1) => if isStr x = true then (fe ρ1).bind fun (y, ρ2) => (g x y).bind fun r => some (r, ρ2) else none
theorem qe_m1 {id : String} {name : Str} {g : Dt → Dt → Option Dt} (slot : Slot "str" name id) (ty : typeOf (.builtin id) = pure (.type "method_descriptor")) (rule : MtQ X id g) (ho : QE X bs o fo) (he : QE X bs e fe)
    (hs : starEach [e] X.env = [(false, eval e X.env)] := by rfl) (hbase : attributeBase o name X.env (eval o X.env) = eval o X.env := by rfl) (hline : (apos.endLine == pos.line) = true := by rfl) :
    QE X bs (.Call (.Attribute o name apos) [e] [] pos) (m1F g fo fe) :=
  ⟨PE.weak (pe_m1 slot ty rule.op ho.pe he.pe hs hbase hline) fun σ H Q ⟨F, I, ρ, d, ρ', R, e, k⟩ => by
    obtain ⟨⟨x, ρ1⟩, e1, e⟩ := bind_some e
    cases x with
    | str z =>
      have e : ((fe ρ1).bind fun (y, ρ2) => (g (.str z) y).bind fun r => some (r, ρ2)) = some (d, ρ') := e
      obtain ⟨⟨y, ρ2⟩, e2, e⟩ := bind_some e
      obtain ⟨r, e3, e⟩ := bind_some e
      cases e
      refine ⟨F, I, ρ, _, ρ1, R, e1, fun v H1 I1 s1 R1 d1 => ?_⟩
      cases d1
      exact ⟨⟨z, rfl⟩, F, I1, ρ1, y, _, R1, e2, fun w H2 I2 s2 R2 d2 => ⟨w, I2, _, y, d, rfl, R2.sub, R2.sz, .str z, d2, e3, fun u H3 I3 gr d3 => k u H3 I3 (s1.trans (s2.trans gr.ii)) (R2.grow gr) d3⟩⟩
    | _ => cases e⟩
theorem DpAll.of_strs {K : PySem.W.Frag} {I : Hp} : ∀ (ns : List Str), DpAll K I (ns.map V.str) (ns.map PyData.str)
  | [] => .nil
  | n :: ns => .cons (.str n) (DpAll.of_strs ns)
def splitS : Dt → Dt → Option Dt
  | .str a, .str b => if (b.length == 0) = false ∧ a.length + 2 ≤ 16777216 ∧ (Txt.split a b).length ≤ 16777216 then some (.list ((Txt.split a b).map PyData.str)) else none
  | _, _ => none
theorem mq_split : MtQ X "str.split" splitS := MtQ.of mt_split fun x y I d e z H Q sm sz dx dy g k => by
  cases dx with
  | str a => cases dy with
    | str b =>
      have g : (if (b.length == 0) = false ∧ a.length + 2 ≤ 16777216 ∧ (Txt.split a b).length ≤ 16777216 then some (PyData.list ((Txt.split a b).map PyData.str)) else none) = some z := g
      split at g
      · rename_i hz
        cases g
        refine ⟨a, b, rfl, rfl, hz.1, by rw [strSz]; exact hz.2.1, fun p hp => ?_⟩
        have gr := Grow.lst sm sz hp (xs := (Txt.split a b).map V.str) (by rw [List.length_map, strSz]; exact hz.2.2)
        exact k _ _ _ gr (.lst (.inl (.inl upd_same)) (DpAll.of_strs _))
      · cases g
    | _ => cases g
  | _ => cases g
def partS : Dt → Dt → Option Dt
  | .str a, .str b => if (b.length == 0) = false ∧ a.length ≤ 16777216 then some (.tuple [.str (Txt.partition a b).1, .str (Txt.partition a b).2.1, .str (Txt.partition a b).2.2]) else none
  | _, _ => none
theorem mq_partition : MtQ X "str.partition" partS := MtQ.of mt_partition fun x y I d e z H Q sm sz dx dy g k => by
  cases dx with
  | str a => cases dy with
    | str b =>
      have g : (if (b.length == 0) = false ∧ a.length ≤ 16777216 then some (PyData.tuple [.str (Txt.partition a b).1, .str (Txt.partition a b).2.1, .str (Txt.partition a b).2.2]) else none) = some z := g
      split at g
      · rename_i hz
        cases g
        refine ⟨a, b, rfl, rfl, hz.1, by rw [strSz]; exact hz.2, fun p hp => ?_⟩
        have gr := Grow.tup sm sz hp (xs := [.str (Txt.partition a b).1, .str (Txt.partition a b).2.1, .str (Txt.partition a b).2.2]) (by rw [strSz]; simp)
        exact k _ _ _ gr (.tup (.inl upd_same) (.cons (.str _) (.cons (.str _) (.cons (.str _) .nil))))
      · cases g
    | _ => cases g
  | _ => cases g
def indexS : Dt → Dt → Option Dt
  | .str a, .str b => match Builtin.Str.occurrences a b 0 a.length 1 with | i :: _ => some (.int i) | [] => none
  | _, _ => none
theorem mt_indexS : MtR X "str.index" (fun x xs H Q => ∃ a b i rest, x = .str a ∧ xs = [.str b] ∧ Builtin.Str.occurrences a b 0 a.length 1 = i :: rest ∧ Q (.int (i : Nat)) H) := by
  intro pins s σ H x xs v us Q I rx rs h
  obtain ⟨a, b, i, rest, rfl, rfl, ho, h⟩ := h
  obtain ⟨t, rfl⟩ := rx
  cases rs with
  | cons r1 rs =>
    cases rs
    obtain ⟨u, rfl⟩ := r1
    exact PySem.SC.index ho ⟨.int _, H, I.tok _, ⟨_, rfl⟩, h⟩
theorem mq_index : MtQ X "str.index" indexS := MtQ.of mt_indexS fun x y I d e z H Q sm sz dx dy g k => by
  cases dx with
  | str a => cases dy with
    | str b =>
      have g : (match Builtin.Str.occurrences a b 0 a.length 1 with | i :: _ => some (PyData.int i) | [] => none) = some z := g
      split at g
      · rename_i i r hh; cases g; exact ⟨a, b, i, r, rfl, rfl, hh, k _ H I (Grow.refl sm sz) (.int _)⟩
      · cases g
    | _ => cases g
  | _ => cases g
theorem qe_split (ho : QE X bs o fo) (he : QE X bs e fe) (hs : starEach [e] X.env = [(false, eval e X.env)] := by rfl) (hbase : attributeBase o "split" X.env (eval o X.env) = eval o X.env := by rfl) (hline : (apos.endLine == pos.line) = true := by rfl) :
    QE X bs (.Call (.Attribute o "split" apos) [e] [] pos) (m1F splitS fo fe) := qe_m1 F.slot_str_split F.type_str_split mq_split ho he hs hbase hline
theorem qe_partition (ho : QE X bs o fo) (he : QE X bs e fe) (hs : starEach [e] X.env = [(false, eval e X.env)] := by rfl) (hbase : attributeBase o "partition" X.env (eval o X.env) = eval o X.env := by rfl) (hline : (apos.endLine == pos.line) = true := by rfl) :
    QE X bs (.Call (.Attribute o "partition" apos) [e] [] pos) (m1F partS fo fe) := qe_m1 F.slot_str_partition F.type_str_partition mq_partition ho he hs hbase hline
theorem qe_indexS (ho : QE X bs o fo) (he : QE X bs e fe) (hs : starEach [e] X.env = [(false, eval e X.env)] := by rfl) (hbase : attributeBase o "index" X.env (eval o X.env) = eval o X.env := by rfl) (hline : (apos.endLine == pos.line) = true := by rfl) :
    QE X bs (.Call (.Attribute o "index" apos) [e] [] pos) (m1F indexS fo fe) := qe_m1 F.slot_str_index F.type_str_index mq_index ho he hs hbase hline
end
end L2
namespace L2
open PySem PySem.Spec PyProof.Rows
def Sl3R (X : Cx) (r : V → Option Int → Option Int → Option Int → Hp → VK → Prop) : Prop :=
  ∀ (pins : List (Addr × Obj)) (s : Shared) (σ : St) (H : Hp) (x : V) (v vl vu vk : Value) (lo hi st : Option Int) (sl : Addr) (Q : VK), Inv X pins σ H s → RelV x v → s.heap.IsSliceOf sl vl vu vk → IsPart vl lo → IsPart vu hi → IsPart vk st → r x lo hi st H Q →
    ∃ T id, typeLookup (.type T) "__getitem__" = pure (some (.builtin id)) ∧ s.TypeIs v T ∧ wpAny (model X.prog X.w) X.A (getItem v (.ref sl)) (EP X pins σ Q) X.xe s
theorem Sl3R.or {X : Cx} {r r' : V → Option Int → Option Int → Option Int → Hp → VK → Prop} (h : Sl3R X r) (h' : Sl3R X r') : Sl3R X (fun x lo hi st H Q => r x lo hi st H Q ∨ r' x lo hi st H Q) := by
  intro pins s σ H x v vl vu vk lo hi st sl Q I rx hs pl pu pk q
  rcases q with q | q
  · exact h pins s σ H x v vl vu vk lo hi st sl Q I rx hs pl pu pk q
  · exact h' pins s σ H x v vl vu vk lo hi st sl Q I rx hs pl pu pk q
section
variable {X : Cx} {bs : Md} {e st : Expr} {te : TE} {lo hi : Option Expr} {tl th tk : TO} {pos p2 : Pos} {fe : FE} {fl fh fk : FO}
end
end L2
namespace L2
open PySem PySem.Spec PyProof.Rows
section
variable {X : Cx} {bs : Md} {x : Str} {p : Pos}
end
end L2
namespace L2
open PySem PySem.Spec PyProof.Rows
end L2
namespace L2
open PySem PySem.Spec PyProof.Rows PySem.Calls
section
variable {X : Cx}
end
section
variable {X : Cx} {bs : Md} {pos p pos2 p2 : Pos} {e : Expr} {fr : FA}
end
end L2
namespace L2
open PySem PySem.Spec PyProof.Rows
section
variable {prog : Program} {w : World} {A : Around} {E : Value → Shared → Prop} {s : Shared}
end
section
variable {X : Cx} {bs : Md} {o e : Expr} {fo fe : FE} {apos cpos : Pos}
end
section
variable (l : Addr) (n : Nat) (sl : Array (Option Value))
end
section
variable {X : Cx}
end
end L2
namespace L2
open PySem PySem.Spec PyProof.Rows
section
variable {X : Cx} {bs : Md} {pos : Pos} {a b : Expr} {fa fb : FE}
end
end L2
namespace L2
open PySem PySem.Spec PyProof.Rows
section
variable {X : Cx} {pins : List (Addr × Obj)} {σ : St} {H : Hp} {s : Shared} {C CM a : Addr}
theorem Inv.hold (I : Inv X pins σ H s) (hn : H a = none) (h0 : X.s_0.heap.get? a = none) (ho : isExc C a s.heap) (hL : X.env.locals ≠ a) (hc : ∀ x c, X.env.cells.lookup x = some c → c ≠ a) (hp : ∀ p ∈ X.pn ++ pins, p.1 ≠ a) : Inv X pins σ (upd H a (.ext (isExc C a))) s := by
  have ne0 : ∀ b o, X.s_0.heap.get? b = some o → b ≠ a := fun b o q z => by rw [z, h0] at q; cases q
  refine ⟨I.ok, I.os, I.bare, ⟨I.base.keep, I.base.slot, fun b o q n hx => by rw [upd_ne (ne0 b o q)]; exact I.base.free b o q n hx, I.base.there, fun b xs q => ?_, fun b o u q => ?_, fun b ps q => ?_⟩, I.loc, I.cell, by rw [upd_ne hL]; exact I.free, fun x c q => by rw [upd_ne (hc x c q)]; exact I.freeC x c q, fun p q => ?_, fun b o q => ?_, I.len⟩
  · have q := I.base.tups b xs q
    rw [upd_ne (ne_of_none q hn)]; exact q
  · have q := I.base.frzs b o u q
    rw [upd_ne (ne_of_none q hn)]; exact q
  · obtain ⟨more, q⟩ := I.base.tbls b ps q
    exact ⟨more, by rw [upd_ne (ne_of_none q hn)]; exact q⟩
  · obtain ⟨h1, h2, h3⟩ := I.pin p q
    exact ⟨h1, by rw [upd_ne (hp p q)]; exact h2, h3⟩
  · by_cases hb : b = a
    · subst hb
      rw [upd_same] at q; cases q
      obtain ⟨ob, e1, e2⟩ := ho
      exact ⟨⟨ob, e1, e2⟩, ⟨ob, e1⟩, fun h1 h2 ⟨ob, e1, e2⟩ k => ⟨ob, k ob e1, e2⟩⟩
    · rw [upd_ne hb] at q
      exact (I.hok b o q).stay (fun _ _ _ q => q) (fun c q => by rw [upd_ne (ne_of_none q hn)]; exact q) fun c xs q => by rw [upd_ne (ne_of_none q hn)]; exact q
theorem exc_above {M : Model} {A : Around} {E : Value → Shared → Prop} {Q : Bool → Shared → Prop} {K : PySem.W.Frag} {e : Addr} (kin : K.In s.heap) (ho : isExc C e s.heap) (hx : PySem.W.exmOne K (.ref C) (.ref CM) = some true) (q : Q true s) : wpAny M A (excMatches (.ref e) (.ref CM)) Q E s := by
  obtain ⟨ob, e1, e2⟩ := ho
  have L : PySem.W.Looks M s.heap (typeOf (.ref e)) (.ref C) := by
    rw [← e2]
    exact (PySem.W.Looks.ld e1).andThen .now
  exact (PySem.W.exm_one kin L hx).here q
end
end L2
namespace L2
open PySem PySem.Spec PyProof.Rows
section
variable {X : Cx} {pins : List (Addr × Obj)} {σ : St} {H : Hp} {s : Shared} {C CM a : Addr}
theorem unbind_ok {M : Model} {A : Around} {E : Value → Shared → Prop} {i : Nat} {x : Str} {v : V} {Q : Unit → Shared → Prop} (I : Inv X pins σ H s) (hN : X.N.Nodup) (hi : X.N[i]? = some x) (hk : X.env.scope.names.lookup x = some .local) (hv : σ[i]? = some (some v))
    (h : ∀ s', Inv X pins (σ.set i none) H s' → Q () s') : wpAny M A (unbindName X.env x) Q E s := by
  obtain ⟨m, hn, hl⟩ := id I.loc
  have hcls : (X.env.scope.kind == .class || (X.env.scope.kind == .module && X.env.locals != X.env.globals)) = false := by rw [I.ok.kind]; rfl
  have cne := I.cne
  obtain ⟨u, r, q⟩ := hl i x v hi hv (.inl hk)
  have hm : m x = some u := by
    rcases q with ⟨_, e⟩ | ⟨k, _⟩
    · exact e
    · have hk' : X.env.kindOf x = some .local := hk
      rcases k with k | k <;> rw [hk'] at k <;> cases k
  refine wpAny_unbindName_local hk hn hm hcls fun h' u' hn' hs => ?_
  obtain ⟨oL, _, _, hoL, _⟩ := id hn
  refine h _ ⟨I.ok, I.os, I.bare, ⟨fun b o e n hb hx => ?_, fun b o e n hb hx => ?_, I.base.free, fun b o e hx => ?_, I.base.tups, I.base.frzs, I.base.tbls⟩, ⟨_, hn', fun j y v' e1 e2 e3 => ?_⟩, fun y c e => ?_, I.free, I.freeC, fun p hp => ?_, fun b ob e => ?_, by simpa using I.len⟩
  · exact (hs.2 b (Nat.ne_of_lt (Nat.lt_of_lt_of_le (Heap.lt_size e) I.ok.above))).trans (I.base.keep b o e n hb hx)
  · obtain ⟨sl, e1⟩ := I.base.slot b o e n hb hx
    exact ⟨sl, (hs.2 b (Nat.ne_of_lt (Nat.lt_of_lt_of_le (Heap.lt_size e) I.ok.above))).trans e1⟩
  · obtain ⟨o', e1⟩ := I.base.there b o e hx
    exact ⟨o', (hs.2 b (Nat.ne_of_lt (Nat.lt_of_lt_of_le (Heap.lt_size e) I.ok.above))).trans e1⟩
  · by_cases hj : j = i
    · subst hj
      have hlt := (List.getElem?_eq_some_iff.mp hv).1
      rw [List.getElem?_set_self hlt] at e2
      cases e2
    · rw [List.getElem?_set_ne (Ne.symm hj)] at e2
      obtain ⟨u', r', q⟩ := hl j y v' e1 e2 e3
      refine ⟨u', r', ?_⟩
      rcases q with ⟨k, e⟩ | ⟨k, c, e, z⟩
      · refine .inl ⟨k, ?_⟩
        have : y ≠ x := fun e => hj (nodup_ix hN e1 (e ▸ hi))
        simp [this, e]
      · exact .inr ⟨k, c, e, z.sameBut hs (cne y c e)⟩
  · obtain ⟨w', z⟩ := I.cell y c e
    exact ⟨w', z.sameBut hs (cne y c e)⟩
  · obtain ⟨e, n, ne, nf, d⟩ := I.pin p hp
    exact ⟨(hs.2 p.1 ne).trans e, n, ne, nf, d⟩
  · refine (I.hok b ob e).stay (fun c w' hc q => (hs.2 c ?_).trans q) (fun _ q => q) fun _ _ q => q
    rintro rfl
    have hf := I.free
    rcases hc with rfl | hc
    · rw [hf] at e; cases e
    · rw [hf] at hc; cases hc
theorem behind_ok {M : Model} {A : Around} {E : Value → Shared → Prop} {i : Nat} {x : Str} {pos : Pos} {Q : Unit → Shared → Prop} (I : Inv X pins σ H s) (hN : X.N.Nodup) (hi : X.N[i]? = some x) (hk : X.env.scope.names.lookup x = some .local)
    (h : ∀ s', Inv X pins (σ.set i none) H s' → Q () s') : wpAny M A (do bindName X.env x .none; unbindBehindTheSuite X.env x pos) Q E s := by
  have hlt : i < σ.length := by rw [I.len]; exact (List.getElem?_eq_some_iff.mp hi).1
  refine wpAny_bind (wpAny_bindName (store_ok I hN hi (.inl hk) (v := .non) rfl (fun s1 I1 => ?_) (.inr hk)))
  refine wpAny_onRaise (unbind_ok I1 hN hi hk (by rw [List.getElem?_set_self hlt]) fun s2 I2 => h s2 ?_)
  rw [List.set_set] at I2; exact I2
end
end L2
namespace L2
open PySem PySem.Spec PyProof.Rows PySem.W PySem.Calls Builtin Builtin.ObjectAttr Builtin.Getset_descriptor
section
variable {prog : Program} {w : World} {A : Around} {E : Value → Shared → Prop} {s : Shared} {K : PySem.W.Frag} {a C : Addr}
theorem isExc.type {M : Model} {h : Heap} (x : isExc C a h) : PySem.W.Looks M h (typeOf (.ref a)) (.ref C) := by
  obtain ⟨ob, e1, e2⟩ := x
  rw [← e2]
  exact (PySem.W.Looks.ld e1).andThen .now
theorem exc_get {R : Result → Shared → Prop} {tp : Value} (X : K.In s.heap) (I : isExc C a s.heap) (hm : PySem.W.mroIn K C (.type "object") = some true)
    (h : R (.ok (.ret (.ref C))) s) : codeAny (model prog w) A (.call (.builtin "getset_descriptor.__get__") ⟨[.builtin "object.__class__", .ref a, tp], []⟩) R s := by
  obtain ⟨hh, g, dr, t, os⟩ := s
  have L0 := I.type (M := model prog w)
  have L1 := PySem.W.looks_mroIn (M := model prog w) X hm
  refine codeAny_call_builtin KF.slot_gs.plain KF.entry_gs (KF.slot_gs.check _ _ _ _ _ _ _ _ KF.type_class (KF.args_gs _ _ _) ?_)
  unfold Builtin.«getset_descriptor.__get__» Builtin.Getset_descriptor.descrGet
  rw [dga_obj]
  refine wpAny_bind (wpAny_pure ?_)
  unfold Builtin.Getset_descriptor.descrGetter Builtin.Getset_descriptor.descrCheckInstance Builtin.Getset_descriptor.descrNameAndClass isInstance
  simp only [KF.owner_class]
  repeat lk
  refine ⟨Code.quiet_builtin _ (by decide +kernel), codeAny_builtin KF.entry_class ?_⟩
  unfold Builtin.«object.__class__» shownTypeOf
  repeat lk
  exact h
theorem exc_find {M : Model} {h : Heap} {g v : Value} {name : Str} (X : K.In h) (I : isExc C a h) (ha : findIn K (.ref C) name = some (some v)) (hn : specialIn K v "__get__" = some (some g)) (ht : takesIn K v = some true) :
    Looks M h (find (.ref a) (.ref C) name) (.bind g v) := by
  have L1 := looks_findIn (M := M) X ha
  have L2 := looks_specialIn (M := M) X hn
  have L3 := looks_takesIn (M := M) X ht
  unfold find
  intro A Q E s k q
  have L1 := L1.keeps k
  have L2 := L2.keeps k
  have L3 := L3.keeps k
  obtain ⟨hh, gg, d, t, os⟩ := s
  repeat lk
  exact q
structure ExcK (K : PySem.W.Frag) (C : Addr) : Prop where
  ga : findIn K (.ref C) "__getattribute__" = some (some (.builtin "BaseException.__getattribute__"))
  no : findIn K (.ref C) "__getattr__" = some none
  cl : findIn K (.ref C) "__class__" = some (some (.builtin "object.__class__"))
  gt : specialIn K (.builtin "object.__class__") "__get__" = some (some (.builtin "getset_descriptor.__get__"))
  tk : takesIn K (.builtin "object.__class__") = some true
  mo : mroIn K C (.type "object") = some true
  mb : mroIn K C (.type "BaseException") = some true
theorem exc_check {M : Model} {nameV : Value} {Q : Unit → Shared → Prop} (X : K.In s.heap) (I : isExc C a s.heap) (F : ExcK K C) (hq : Q () s) : wpAny M A (checkBuiltinCall "BaseException.__getattribute__" ⟨[.ref a, nameV], []⟩) Q E s := by
  obtain ⟨hh, g, dr, t, os⟩ := s
  have hk : builtinKind "BaseException.__getattribute__" = some .slot := by decide +kernel
  have hsplit : splitId "BaseException.__getattribute__" = some ("BaseException", "__getattribute__") := by decide +kernel
  have ha := PySem.F.args_bexc_ga (.ref a) nameV
  have L0 := I.type (M := M)
  have L1 := PySem.W.looks_mroIn (M := M) X F.mb
  simp only [checkBuiltinCall, hk, hsplit]
  refine wpAny_bind ?_
  · unfold isInstance
    repeat (first | lk | wp_step)
    exact hq
theorem exc_entry {tk : Tok} {Q : Fin → Shared → Prop} (X : K.In s.heap) (I : isExc C a s.heap) (F : ExcK K C) (hq : Q (.done (.ret (.ref C))) s) :
    wpAny (model prog w) A (Builtin.«object.__getattribute__» ⟨[.ref a, .str "__class__" tk], []⟩) Q E s := by
  obtain ⟨hh, g, dr, t, os⟩ := s
  have L0 := I.type (M := model prog w)
  have L1 := exc_find (M := model prog w) X I F.cl F.gt F.tk
  unfold Builtin.«object.__getattribute__»
  repeat lk
  refine wpAny_run ?_
  refine exc_get X I F.mo ?_
  repeat lk
  exact hq
theorem exc_by {tk : Tok} {fill expr : Bool} {Q : Value → Shared → Prop} (X : K.In s.heap) (I : isExc C a s.heap) (F : ExcK K C) (hq : Q (.ref C) s) : wpAny (model prog w) A (getAttrBy (.ref a) (.str "__class__" tk) fill expr) Q E s := by
  obtain ⟨hh, g, dr, t, os⟩ := s
  have L0 := I.type (M := model prog w)
  have L1 := PySem.W.looks_findIn (M := model prog w) X F.ga
  have L2 := PySem.W.looks_findIn (M := model prog w) X F.no
  have f3 := PySem.F.excAttr_ValueError.ga.bind (.ref a)
  have hx0 : (expr && onTheHeap (Value.builtin "BaseException.__getattribute__")) = false := by cases expr <;> rfl
  have hx2 : (Value.builtin "BaseException.__getattribute__" == Value.builtin "object.__getattribute__") = false := by decide +kernel
  have hx1 : (onTheHeap (Value.ref C) && Value.builtin "BaseException.__getattribute__" == Value.builtin "object.__getattribute__") = false := by rw [hx2]; rfl
  repeat (any_goals (first | assumption | with_reducible refine Looks.at L0 ?_ | with_reducible refine Looks.at L1 ?_ | with_reducible refine Looks.at L2 ?_ | wp_step))
  refine codeAny_call_builtin PySem.F.excAttr_ValueError.ga.plain PySem.F.entry_bexc_ga (exc_check (s := ⟨hh, g, dr, t, os⟩) X I F (exc_entry (s := ⟨hh, g, dr, t, os⟩) X I F ?_))
  repeat (any_goals (first | assumption | wp_step))
theorem exc_class {Q : Option Value → Shared → Prop} (X : K.In s.heap) (I : isExc C a s.heap) (F : ExcK K C) (hq : Q (some (.ref C)) { s with toks := s.toks + 1 }) : wpAny (model prog w) A (getAttr? (.ref a) "__class__") Q E s := by
  obtain ⟨hh, g, d, t, os⟩ := s
  unfold getAttr? getAttrBy?
  refine wpAny_bind (wpAny_mkText (wpAny_bind (wpAny_attempt (exc_by (s := ⟨hh, g, d, t + 1, os⟩) X I F ?_))))
  exact wpAny_pure hq
theorem kitx_exc (hc : (clsIn K C).isSome = true) (F : ExcK K C) : KitX K (.ref a) (.ref C) (isExc C a) where
  ty := fun _ _ _ I => I.type
  it := fun _ _ X _ => by
    unfold clsIn at hc
    split at hc
    · rename_i c' d' cd' sl' ho
      intro A' Q' E' s' k q
      unfold isType loadHead
      exact wpAny_bind (wpAny_loadPart (k _ _ (X _ _ ho)) (wpAny_pure q))
    · cases hc
  ne := fun h tp dd its n sl X htp => by
    refine Bool.eq_false_iff.mpr fun q => ?_
    have e : C = tp := Value.ref.inj (beq_iff_eq.mp q)
    subst e
    unfold clsIn at hc
    split at hc
    · rename_i c' d' cd' sl' ho
      have z := (X _ _ ho).symm.trans htp
      cases z
    · cases hc
  ca := fun X I k => exc_class X I F k
theorem exc_isinst {c : Value} {b : Bool} {Q : Value → Shared → Prop} (X : K.In s.heap) (I : isExc C a s.heap) (hc : (clsIn K C).isSome = true) (F : ExcK K C) (e : kitOne K (.ref C) c = some b) (h : ∀ tk, Q (.bool b) { s with toks := tk }) :
    wpAny (model prog w) A (call (.builtin "isinstance") [.ref a, c]) Q E s := kia_one (kitx_exc hc F) X I e (fun z => nomatch z) h
end
end L2
namespace L2
open PySem PySem.Spec PyProof.Rows
def ExWs (X : Cx) (pn : List (Addr × Obj)) (W : Addr → St → Hp → Prop) : Value → Shared → Prop := fun e s' => ∃ C σ H s H' B, Inv (X.tr pn fun _ _ => False) [] σ H s ∧ Fly X.prog X.w X.stack C H s H' e s' B ∧ W C σ H'
def Ends.und (D : Ends) (i : Nat) : Ends := { nx := fun σ H => D.nx (σ.set i none) H, rt := D.rt, bk := fun σ H => D.bk (σ.set i none) H, ct := fun σ H => D.ct (σ.set i none) H }
section
variable {X : Cx} {pins : List (Addr × Obj)} {σ : St} {H : Hp} {s : Shared} {x y : Str} {CM : Addr} {np pos hp : Pos} {b0 : Stmt} {body suite : List Stmt} {ts : TS} {tb : (Addr → St → Hp → Prop) → TS} {i : Nat}
theorem sp_und {D : Ends} {f : Flow} {s1 : Shared} {E : Value → Shared → Prop} (hN : X.N.Nodup) (hi : X.N[i]? = some y) (hk : X.env.scope.names.lookup y = some .local) (h : SP X pins (D.und i) f s1) :
    wpAny (model X.prog X.w) X.A (do bindName X.env y .none; unbindBehindTheSuite X.env y hp) (fun _ s2 => SP X pins D f s2) E s1 := by
  cases f with
  | next => obtain ⟨σ', H', I, q⟩ := h; exact behind_ok I hN hi hk fun s' I' => ⟨_, _, I', q⟩
  | brk => obtain ⟨σ', H', I, q⟩ := h; exact behind_ok I hN hi hk fun s' I' => ⟨_, _, I', q⟩
  | cont => obtain ⟨σ', H', I, q⟩ := h; exact behind_ok I hN hi hk fun s' I' => ⟨_, _, I', q⟩
  | ret u => obtain ⟨v, σ', H', I, r, q⟩ := h; exact behind_ok I hN hi hk fun s' I' => ⟨v, _, _, I', r, q⟩
theorem ps_tryAs (hM : PySem.W.nsIn X.K mainGlobals x = some (some (.ref CM))) (hg : Gl X x) (hex : X.ex = []) (hst : X.stack = X.env :: X.outer) (hfr : X.env.frame = some X.env.locals) (hN : X.N.Nodup) (hi : X.N[i]? = some y) (hk : X.env.scope.names.lookup y = some .local)
    (hb : ∀ pn W, PSs (X.tr pn (ExWs X pn W)) body (tb W)) (hs : ∀ a, PSs (X.suite a) (b0 :: suite) ts) (hd : (x == ("__debug__" : Str)) = false := by decide) :
    PS X (.Try body [.ExceptHandler (some (.Name x np)) (some y) (b0 :: suite) hp] [] [] pos)
      (fun D σ H => tb (fun C σ' H' => PySem.W.exmOne X.K (.ref C) (.ref CM) = some true ∧ ∀ a, H' a = none → ts (D.und i) (σ'.set i (some (.ref a))) (upd H' a (.ext (isExc C a)))) D σ H) := fun pins s σ H D I h => by
  refine wpAny_Try_except (wpAny_mono (hb (X.pn ++ pins) _ [] s σ H D (I.tr _) h) (fun f s1 q => ?_) fun e s1 q => ?_)
  · have q := SP.untr q
    cases f with
    | next => exact wpAny_execs_nil q
    | brk => exact q
    | cont => exact q
    | ret u => exact q
  · obtain ⟨C, σ1, H0, s0, H1, B, I0, fly, W1, W2⟩ := q
    have I0 : Inv X pins σ1 H0 s0 := I0.untr
    obtain ⟨a, t, rfl, fl⟩ := fly.ea
    have afr : X.A.frames = some (X.env :: X.outer) := hst ▸ I0.ok.frames
    have fl' : Heap.FlyingW B (X.env :: X.outer) a (.ref C) (.ref t) s1.heap := hst ▸ fl
    refine wpAny_looks_onW afr hfr fl' fun h4 held4 up4 => ?_
    refine wpAny_landsW held4 fun h5 fl5 up5 => ?_
    have I5 : Inv X pins σ1 H1 { s1 with heap := h5 } := fly_inv I0 hex fly fl5.1 (up4.trans up5)
    obtain ⟨ob, hob, hobc⟩ := fl5.there
    refine wpAny_handleBy_cons (codeAny_handlers_test (ld_glob (I5.suite a) hg (PySem.W.mg_of I5.kIn (I5.mod.glob.keeps I5.bk) hM) ?_ hd)) (by intro q; cases q)
    refine exc_above (s := { s1 with heap := h5 }) I5.kIn ⟨ob, hob, hobc⟩ W1 (codeAny_handlers_suite_as ?_)
    refine lands_againW fl5 fun h6 fl6 up6 => ?_
    have I6 : Inv X pins σ1 H1 { s1 with heap := h6 } := fly_inv I0 hex fly fl6.1 ((up4.trans up5).trans up6)
    have hnB : B.get? a = none := fl6.2.1
    have hnH : H1 a = none := by
      cases q : H1 a with
      | none => rfl
      | some o => obtain ⟨u, z⟩ := fly.trk a o q; rw [hnB] at z; cases z
    obtain ⟨oe, ws, hoe, hoec, hoed, hoe0⟩ := fl6.first
    have nfr : a ∉ frs X.stack := fun hb => by
      obtain ⟨_, o', ho, hnf⟩ := I6.stack.mem hb
      have ho : h6.get? a = some o' := ho
      rw [hoe] at ho; cases ho
      exact hnf _ hoed
    have new : ∀ b o, s0.heap.get? b = some o → b ≠ a := fun b o q z => by
      subst z
      obtain ⟨u, z⟩ := fly.old b o q nfr
      rw [hnB] at z; cases z
    have h0 : X.s_0.heap.get? a = none := by
      cases q : X.s_0.heap.get? a with
      | none => rfl
      | some o =>
        obtain ⟨u, z⟩ := I0.base.there a o q (by rw [hex]; simp)
        exact absurd rfl (new a u z)
    have I7 := Inv.hold I6 (C := C) hnH h0 ⟨oe, hoe, hoec⟩ (fun z => by
      obtain ⟨m, hn, _⟩ := id I0.loc
      obtain ⟨oL, _, _, hoL, _⟩ := id hn
      exact new _ _ hoL z) (fun x c q => by
      obtain ⟨w', z⟩ := I0.cell x c q
      obtain ⟨oc, hoc, _⟩ := id z
      exact new _ _ hoc) (fun p hp => new _ _ (I0.pin p hp).1)
    refine store_ok I7 hN hi (.inl hk) (v := .ref a) rfl (fun s2 I2 => ?_) (.inr hk)
    exact wpAny_mono (hs a pins s2 _ _ (D.und i) (I2.suite a) (W2 a hnH)) (fun f s3 q => sp_und hN hi hk (q.unsuite I0.ok)) fun _ _ z => z.elim
end
end L2
namespace L2
open PySem PySem.Spec PyProof.Rows
abbrev FZ := Ev → Option ((Out ⊕ Str) × Ev)
def EndZ (K : PySem.W.Frag) (bs : Md) (F : Fr) (I : Hp) (ρ : Ev) (D : Ends) (W : Addr → St → Hp → Prop) : Out ⊕ Str → Prop
  | .inl o => ∀ σ' H' I', Same I I' → Rl K bs F σ' H' I' ρ → EndO K I' D o σ' H'
  | .inr x => ∀ σ' H' I' C, Same I I' → Rl K bs F σ' H' I' ρ → PySem.W.nsIn K mainGlobals x = some (some (.ref C)) → W C σ' H'
def tqZ (K : PySem.W.Frag) (bs : Md) (f : FZ) (W : Addr → St → Hp → Prop) : TS := fun D σ H => ∃ F I ρ r ρ', Rl K bs F σ H I ρ ∧ f ρ = some (r, ρ') ∧ EndZ K bs F I ρ' D W r
structure QZ (X : Cx) (bs : Md) (st : List Stmt) (f : FZ) : Prop where
  mk :: (ps : ∀ pn W, PSs (X.tr pn (ExWs X pn W)) st (tqZ X.K bs f W))
theorem EndZ.up {K : PySem.W.Frag} {bs : Md} {F : Fr} {I I' : Hp} {ρ : Ev} {D : Ends} {W : Addr → St → Hp → Prop} (s : Same I I') : ∀ {r : Out ⊕ Str}, EndZ K bs F I ρ D W r → EndZ K bs F I' ρ D W r
  | .inl o, k => fun σ H I2 s2 R => k σ H I2 (s.trans s2) R
  | .inr x, k => fun σ H I2 C s2 R h => k σ H I2 C (s.trans s2) R h
theorem Rl.unset {K : PySem.W.Frag} {bs : Md} {F : Fr} {σ : St} {H I : Hp} {ρ : Ev} (R : Rl K bs F σ H I ρ) {i : Nat} (hp : bs.np ≤ i) : Rl K bs F (σ.set i none) H I (ρ.set i none) :=
  ⟨R.sub, R.frm, R.dis, R.sz, fun j e q hj => (by
    rcases ev_set q with ⟨rfl, q2⟩ | ⟨ne, q2⟩
    · cases q2
    · obtain ⟨w, h1, h2⟩ := R.val j e q2 hj
      exact ⟨w, by rw [List.getElem?_set_ne ne]; exact h1, h2⟩),
   fun j e q hj => (by
    rcases ev_set q with ⟨rfl, q2⟩ | ⟨ne, q2⟩
    · cases q2
    · obtain ⟨b, h1, h2⟩ := R.box j e q2 hj
      exact ⟨b, by rw [List.getElem?_set_ne ne]; exact h1, h2⟩),
   fun j k e f b hj hk q1 q2 s1 s2 => (by
    rcases ev_set q1 with ⟨rfl, z⟩ | ⟨n1, z1⟩
    · cases z
    · rcases ev_set q2 with ⟨rfl, z⟩ | ⟨n2, z2⟩
      · cases z
      · rw [List.getElem?_set_ne n1] at s1
        rw [List.getElem?_set_ne n2] at s2
        exact R.inj j k e f b hj hk z1 z2 s1 s2),
   by rw [List.length_set, List.length_set]; exact R.len,
   fun j b q => (by
    obtain ⟨h1, h2, h3⟩ := R.anc j b q
    exact ⟨by rw [List.getElem?_set_ne (by omega)]; exact h1, h2, h3⟩), R.tab⟩
section
variable {X : Cx} {bs : Md} {k : Nat} {f C : Addr} {fd : FuncData} {ps : List Str} {fn : FnX} {x y xc : Str} {p np cp rp hp pos : Pos} {c e : Expr} {es : List Expr} {cs : List (Option Nat)} {fr : FA} {b0 : Stmt} {suite b1 b2 : List Stmt} {fs : FS} {ft : FT} {f1 f2 fz : FZ}
theorem pe_callZ {pn : List (Addr × Obj)} {sp : Sp} {t : TA} {W : Addr → St → Hp → Prop} (F : FnOk X.prog X.w X.K X.mg X.base (CXR X.prog X.w C) k f fd ps sp) (hr : Room k X.A) (hg : Gl X x) (hm : X.mg x = some (.ref f)) (hk : PySem.W.keepIn X.K (.ref f) = true) (hb : Binds X.K fd ps [])
    (ha : PA (X.tr pn (ExWs X pn W)) (e :: es) t) (hdb : (x == ("__debug__" : Str)) = false := by decide) (he : starEach (e :: es) X.env = (false, eval e X.env) :: starEach es X.env := by rfl) (hpl : (backTo pos (starEach es X.env)).any (·.1) = false := by rfl) :
    PE (X.tr pn (ExWs X pn W)) (.Call (.Name x p) (e :: es) [] pos) (fun σ H Q => t σ H fun vs H1 => sp vs H1 Q fun _ _ H' => W C σ H') := by
  intro pins s σ H Q I h
  refine wpAny_Call_Name_kw (ld_glob I hg hm ?_ hdb)
  refine PySem.W.callWith_K (h₀ := X.base) I.ok.mod.kin hk (thn (ha pos pins s σ H _ I h) fun us s1 ⟨vs, H1, I1, r, q⟩ => ⟨I1.kIn, ?_⟩) he hpl
  have hl : (us ++ []).length = ps.length := by rw [List.append_nil, ← r.length]; exact F.len _ _ _ _ q
  refine wpAny_call (codeAny_mono (F.run X.A X.stack s1 H1 ⟨us, []⟩ us vs Q (fun _ _ H' => W C σ H') hr I1.env0 (by have := hb s1 us I1.kIn hl; rw [List.append_nil] at this; exact this) r q) fun r s' hq => ?_)
  cases r with
  | error e =>
    obtain ⟨H', B, fly, w⟩ := hq
    exact ⟨C, σ, H1, s1, H', B, ⟨I1.ok.untr.tr pn _, I1.os, I1.bare, I1.base, I1.loc, I1.cell, I1.free, I1.freeC, I1.fewer.pin, I1.hok, I1.len⟩, fly, w⟩
  | ok fl =>
    cases fl with
    | ret u => exact I1.after hq
    | next => exact False.elim hq
    | brk => exact False.elim hq
    | cont => exact False.elim hq
def zCall (xc : Str) (fn : FnX) (fr : FA) : FZ := fun ρ => (fr ρ).bind fun (ds, ρ1) => (fn ds).bind fun r => match r with
  | some _ => some (.inl .nx, ρ1)
  | none => some (.inr xc, ρ1)
theorem qz_call (hC : ExF X.K xc C) (F : FnOk X.prog X.w X.K X.mg X.base (CXR X.prog X.w C) k f fd ps (spqx X.K bs.tn ps.length fn)) (hr : Room k X.A) (hm : X.mg x = some (.ref f)) (hk : PySem.W.keepIn X.K (.ref f) = true) (hb : Binds X.K fd ps [])
    (ha : ∀ pn E, QA (X.tr pn E) bs (e :: es) cs fr) (hn : ∀ c ∈ cs, c = none := by simp) (hl : cs.length = ps.length := by rfl) (hg : Gl X x := by rfl)
    (hsw : swapsWith (.Call (.Name x p) (e :: es) [] cp) none rp.line X.env = pure false := by rfl)
    (hdb : (x == ("__debug__" : Str)) = false := by decide) (he : starEach (e :: es) X.env = (false, eval e X.env) :: starEach es X.env := by rfl) (hpl : (backTo cp (starEach es X.env)).any (·.1) = false := by rfl) :
    QZ X bs [.Expr (.Call (.Name x p) (e :: es) [] cp) rp] (zCall xc fn fr) :=
  ⟨fun pn W => PSs.weak (pss_one (ps_expr (X := X.tr pn (ExWs X pn W)) (pe_callZ F hr hg hm hk hb (ha pn _).pa hdb he hpl) hsw)) fun D σ H ⟨F, I, ρ, o, ρ', R, e, k⟩ => by
    obtain ⟨⟨ds, ρ1⟩, e1, e⟩ := bind_some e
    obtain ⟨r, e2, e⟩ := bind_some e
    refine call_endR hn hl R e1 e2 fun I1 s1 => ?_
    cases r with
    | some d => cases e; exact fun v H2 I2 s2 R2 dv => k _ H2 I2 (s1.trans s2) R2
    | none => cases e; exact fun H2 I2 s2 R2 => k _ H2 I2 C (s1.trans s2) R2 hC.here⟩
def zIf (ft : FT) (f1 f2 : FZ) : FZ := fun ρ => (ft ρ).bind fun (b, ρ1) => if b = true then f1 ρ1 else f2 ρ1
theorem qz_if (hc : ∀ pn E, QT (X.tr pn E) bs c ft) (h1 : QZ X bs b1 f1) (h2 : QZ X bs b2 f2) : QZ X bs [.If c b1 b2 pos] (zIf ft f1 f2) :=
  ⟨fun pn W => PSs.weak (pss_one (ps_if (hc pn _).pt (h1.ps pn W) (h2.ps pn W))) fun D σ H ⟨F, I, ρ, o, ρ', R, e, k⟩ => by
    obtain ⟨⟨b, ρ1⟩, e1, e⟩ := bind_some e
    refine ⟨F, I, ρ, b, ρ1, R, e1, fun H1 I1 s1 R1 => ?_⟩
    cases b with
    | true => exact ⟨F, I1, ρ1, o, ρ', R1, e, k.up s1⟩
    | false => exact ⟨F, I1, ρ1, o, ρ', R1, e, k.up s1⟩⟩
def tryZ (i : Nat) (xs : List Str) (fz : FZ) (fs : FS) : FS := fun ρ => (fz ρ).bind fun (r, ρ1) => match r with
  | .inl o => some (o, ρ1)
  | .inr x => if xs.contains x = true then (fs (ρ1.set i (some (.str x)))).bind fun (o, ρ2) => some (o, ρ2.set i none) else none
def BelowL (K : PySem.W.Frag) (CM : Addr) (xs : List Str) : Prop := ∀ z ∈ xs, ∃ C, PySem.W.nsIn K mainGlobals z = some (some (.ref C)) ∧ PySem.W.exmOne K (.ref C) (.ref CM) = some true
theorem BelowL.nil {K : PySem.W.Frag} {CM : Addr} : BelowL K CM [] := fun _ h => by simp at h
theorem BelowL.cons {K : PySem.W.Frag} {CM D : Addr} {z : Str} {xs : List Str} (e : ExF K z D) (h : PySem.W.exmOne K (.ref D) (.ref CM) = some true) (r : BelowL K CM xs) : BelowL K CM (z :: xs) := fun y hy => by
  rcases List.mem_cons.mp hy with rfl | hy
  · exact ⟨D, e.here, h⟩
  · exact r y hy
theorem qs_tryZ {CM : Addr} (i : Nat) (xs : List Str) (hM : ExF X.K x CM) (hbl : BelowL X.K CM xs) (hN : X.N.Nodup) (hz : QZ X bs body fz) (hs : ∀ a, QSs (X.suite a) bs (b0 :: suite) fs)
    (hib : i ∈ bs.bs := by decide) (hip : bs.np ≤ i := by decide) (hi : X.N[i]? = some y := by rfl) (hk : X.env.scope.names.lookup y = some .local := by rfl) (hg : Gl X x := by rfl) (hex : X.ex = [] := by rfl) (hst : X.stack = X.env :: X.outer := by rfl) (hfr : X.env.frame = some X.env.locals := by rfl) (hd : (x == ("__debug__" : Str)) = false := by decide) :
    QS X bs (.Try body [.ExceptHandler (some (.Name x np)) (some y) (b0 :: suite) hp] [] [] pos) (tryZ i xs fz fs) :=
  ⟨PS.weak (ps_tryAs (ts := tqS X.K bs fs) (tb := fun W => tqZ X.K bs fz W) hM.here hg hex hst hfr hN hi hk (fun pn W => hz.ps pn W) (fun a => (hs a).ps) hd) fun D σ H ⟨F, I, ρ, o, ρ', R, e, k⟩ => by
    obtain ⟨⟨r, ρ1⟩, e1, e⟩ := bind_some e
    refine ⟨F, I, ρ, r, ρ1, R, e1, ?_⟩
    cases r with
    | inl o' => cases e; exact k
    | inr z =>
      have e : (if xs.contains z = true then (fs (ρ1.set i (some (.str z)))).bind fun (o, ρ2) => some (o, ρ2.set i none) else none) = some (o, ρ') := e
      split at e
      · rename_i hz
        obtain ⟨C', hC', hB⟩ := hbl z (by simpa using hz)
        obtain ⟨⟨o2, ρ2⟩, e2, e⟩ := bind_some e
        cases e
        refine fun σ1 H1 I1 C s1 R1 hC => ⟨by rw [hC'] at hC; cases hC; exact hB, fun a ha => ?_⟩
        have nI : I1 a = none := by
          cases q : I1 a with
          | none => rfl
          | some u => have := R1.sub a u q; rw [ha] at this; cases this
        have nF : F.F a = none := by
          cases q : F.F a with
          | none => rfl
          | some u => have := R1.frm a u q; rw [ha] at this; cases this
        have g : Grow H1 I1 (upd H1 a (.ext (isExc C a))) I1 := ⟨Same.put ha, fun _ _ h => h, R1.sub.trans (Same.put ha), fun a o h h' => (by rw [h] at h'; cases h'), R1.sz⟩
        have R2 := (R1.grow g).setB hib hip (a := a) (d := .str z) ⟨⟨C, hC, upd_same⟩, nI, nF, fun j e hj q1 q2 => by
          obtain ⟨b, s1, b1, _⟩ := R1.box j e q1 hj
          rw [q2] at s1; cases s1
          obtain ⟨u, z⟩ := b1.some
          rw [ha] at z; cases z⟩
        refine ⟨F, I1, _, o, ρ2, R2, e2, fun σ' H' I' s' R' => ?_⟩
        have kk := k (σ'.set i none) H' I' (s1.trans s') (R'.unset hip)
        cases o with
        | nx => exact kk
        | bk => exact kk
        | ct => exact kk
        | rt d => exact kk
      · cases e⟩
end
end L2
namespace L2
open PySem PySem.Spec PyProof.Rows
def excKb (K : PySem.W.Frag) (C : Addr) : Bool := (PySem.W.clsIn K C).isSome && (PySem.W.findIn K (.ref C) "__getattribute__" == some (some (.builtin "BaseException.__getattribute__"))) && (PySem.W.findIn K (.ref C) "__getattr__" == some none) && (PySem.W.findIn K (.ref C) "__class__" == some (some (.builtin "object.__class__"))) &&
  (PySem.W.specialIn K (.builtin "object.__class__") "__get__" == some (some (.builtin "getset_descriptor.__get__"))) && (PySem.W.takesIn K (.builtin "object.__class__") == some true) && (PySem.W.mroIn K C (.type "object") == some true) && (PySem.W.mroIn K C (.type "BaseException") == some true)
theorem excKb_ok {K : PySem.W.Frag} {C : Addr} (h : excKb K C = true) : (PySem.W.clsIn K C).isSome = true ∧ ExcK K C := by
  unfold excKb at h
  simp only [Bool.and_eq_true, beq_iff_eq] at h
  obtain ⟨⟨⟨⟨⟨⟨⟨h1, h2⟩, h3⟩, h4⟩, h5⟩, h6⟩, h7⟩, h8⟩ := h
  exact ⟨h1, h2, h3, h4, h5, h6, h7, h8⟩
def IsL (K : PySem.W.Frag) (c : Value) (b : Bool) (xs : List Str) : Prop := ∀ z ∈ xs, ∃ C, PySem.W.nsIn K mainGlobals z = some (some (.ref C)) ∧ excKb K C = true ∧ PySem.W.kitOne K (.ref C) c = some b
theorem IsL.nil {K : PySem.W.Frag} {c : Value} {b : Bool} : IsL K c b [] := fun _ h => by simp at h
theorem IsL.cons {K : PySem.W.Frag} {c : Value} {b : Bool} {D : Addr} {z : Str} {xs : List Str} (e : ExF K z D) (h : excKb K D = true) (k : PySem.W.kitOne K (.ref D) c = some b) (r : IsL K c b xs) : IsL K c b (z :: xs) := fun y hy => by
  rcases List.mem_cons.mp hy with rfl | hy
  · exact ⟨D, e.here, h, k⟩
  · exact r y hy
def isE (i : Nat) (xs ys : List Str) : FE := fun ρ => match ρ[i]? with
  | some (some (.str z)) => if xs.contains z = true then some (.bool true, ρ) else if ys.contains z = true then some (.bool false, ρ) else none
  | _ => none
section
variable {X : Cx} {bs : Md} {y t : Str} {p p1 yp pos : Pos} {c : Value} {D : Addr}
def isEr (K : PySem.W.Frag) (v : V) (c : Value) : List V → Hp → VK → Prop := fun xs H Q => ∃ a C b, xs = [.ref a, v] ∧ H a = some (.ext (isExc C a)) ∧ excKb K C = true ∧ PySem.W.kitOne K (.ref C) c = some b ∧ Q (.bl b) H
theorem cr_isE {v : V} (hv : ∀ u, RelV v u → u = c) : CallR X (.builtin "isinstance") (isEr X.K v c) := by
  intro pins s σ H xs us Q I r h
  obtain ⟨a, C, b, rfl, ea, hk, hi, q⟩ := h
  obtain ⟨u, w', rfl, rv, rt⟩ := vals2 r
  cases rv
  cases hv _ rt
  obtain ⟨hx, _⟩ := (show ObjOk X.prog X.w H s.heap a (.ext (isExc C a)) from I.hok a _ ea)
  exact exc_isinst I.kIn hx (excKb_ok hk).1 (excKb_ok hk).2 hi fun tk => ⟨.bl _, H, I.tok _, rfl, q⟩
theorem isE_weak {v : V} {i : Nat} {xs ys : List Str} {tv : TE} (hib : i ∈ bs.bs) (h1 : IsL X.K c true xs) (h2 : IsL X.K c false ys) (htv : ∀ σ H Q, Q v H → tv σ H Q) :
    ∀ σ H Q, tq X.K bs (isE i xs ys) σ H Q → tCB (isEr X.K v c) (tCons (tVar i) (tCons tv tNil)) σ H Q := fun σ H Q ⟨F, I, ρ, d, ρ', R, e, k⟩ => by
  unfold isE at e
  split at e
  · rename_i z hz
    obtain ⟨a, s1, ⟨C, hC, hH⟩, _⟩ := R.box i _ hz hib
    have fin : ∀ b, d = .bool b → ρ' = ρ → excKb X.K C = true → PySem.W.kitOne X.K (.ref C) c = some b → tCB (isEr X.K v c) (tCons (tVar i) (tCons tv tNil)) σ H Q := fun b ed er q1 q2 => by
      subst ed er
      exact ⟨.ref a, s1, htv _ _ _ ⟨a, C, b, rfl, hH, q1, q2, k (.bl b) H I (fun _ _ h => h) R (.bl b)⟩⟩
    split at e
    · rename_i hx
      cases e
      obtain ⟨C', q0, q1, q2⟩ := h1 z (by simpa using hx)
      rw [hC] at q0; cases q0
      exact fin true rfl rfl q1 q2
    · split at e
      · rename_i hx
        cases e
        obtain ⟨C', q0, q1, q2⟩ := h2 z (by simpa using hx)
        rw [hC] at q0; cases q0
        exact fin false rfl rfl q1 q2
      · cases e
  · cases e
theorem pe_globE (e : ExF X.K t D) (hgt : Gl X t) (hdt : (t == ("__debug__" : Str)) = false := by decide) : PE X (.Name t p1) (tC (.ref D)) :=
  fun _ _ _ H _ I h => ld_glob I hgt (PySem.W.mg_of I.kIn (I.mod.glob.keeps I.bk) e.here) ⟨.ref D, H, I, rfl, h⟩ hdt
theorem qe_isEO {i : Nat} {xs ys : List Str} (ht : ExF X.K t D) (h1 : IsL X.K (.ref D) true xs) (h2 : IsL X.K (.ref D) false ys) (hm : X.mg "isinstance" = none) (hi : X.N[i]? = some y := by rfl) (hv : Vis X.env.scope y := by first | exact .inl rfl | exact .inr (.inl rfl) | exact .inr (.inr rfl)) (hib : i ∈ bs.bs := by decide)
    (hg : Gl X "isinstance" := by rfl) (hgt : Gl X t := by rfl) (hdy : (y == ("__debug__" : Str)) = false := by decide) (hcy : (y == ("__classdict__" : Str)) = false := by decide) (hdt : (t == ("__debug__" : Str)) = false := by decide)
    (e1 : starEach [Expr.Name y yp, Expr.Name t p1] X.env = (false, eval (Expr.Name y yp) X.env) :: starEach [Expr.Name t p1] X.env := by rfl) (e2 : starEach [Expr.Name t p1] X.env = (false, eval (Expr.Name t p1) X.env) :: starEach [] X.env := by rfl) (hpl : (backTo pos (starEach [Expr.Name t p1] X.env)).any (·.1) = false := by rfl) :
    QE X bs (.Call (.Name "isinstance" p) [.Name y yp, .Name t p1] [] pos) (isE i xs ys) :=
  ⟨PE.weak (pe_callB (cr_isE (X := X) (v := .ref D) (c := .ref D) fun u r => r) hg hm (by decide +kernel) (pa_cons (pe_var hi hv hdy hcy) (pa_cons (pe_globE ht hgt hdt) pa_nil e2) e1) (by decide) (by decide) e1 hpl) (isE_weak hib h1 h2 fun _ _ _ h => h)⟩
theorem qe_isET {i : Nat} {xs ys : List Str} (T : String) (h1 : IsL X.K (.type T) true xs) (h2 : IsL X.K (.type T) false ys) (hm : X.mg "isinstance" = none) (hmt : X.mg t = none) (hvt : bootBuiltins t = some (.type T) := by decide +kernel) (hi : X.N[i]? = some y := by rfl) (hv : Vis X.env.scope y := by first | exact .inl rfl | exact .inr (.inl rfl) | exact .inr (.inr rfl)) (hib : i ∈ bs.bs := by decide)
    (hg : Gl X "isinstance" := by rfl) (hgt : Gl X t := by rfl) (hnt : t ≠ "__name__" := by decide) (hdy : (y == ("__debug__" : Str)) = false := by decide) (hcy : (y == ("__classdict__" : Str)) = false := by decide) (hdt : (t == ("__debug__" : Str)) = false := by decide)
    (e1 : starEach [Expr.Name y yp, Expr.Name t p1] X.env = (false, eval (Expr.Name y yp) X.env) :: starEach [Expr.Name t p1] X.env := by rfl) (e2 : starEach [Expr.Name t p1] X.env = (false, eval (Expr.Name t p1) X.env) :: starEach [] X.env := by rfl) (hpl : (backTo pos (starEach [Expr.Name t p1] X.env)).any (·.1) = false := by rfl) :
    QE X bs (.Call (.Name "isinstance" p) [.Name y yp, .Name t p1] [] pos) (isE i xs ys) :=
  ⟨PE.weak (pe_callB (cr_isE (X := X) (v := .ty T) (c := .type T) fun u r => r) hg hm (by decide +kernel) (pa_cons (pe_var hi hv hdy hcy) (pa_cons (pe_bltn hgt hmt hvt (show RelV (.ty T) _ from rfl) hnt hdt) pa_nil e2) e1) (by decide) (by decide) e1 hpl) (isE_weak hib h1 h2 fun _ _ _ h => h)⟩
end
end L2
namespace L2
open PySem PySem.Spec PyProof.Rows
structure RoomM (k : Nat) (A : Around) : Prop where
  dp : A.depth + 3 * k + 5 < recursionLimit
  un : A.units + 16 * k + 200 < cLine
  gd : A.guards = some []
theorem RoomM.mono {j k : Nat} {A : Around} (r : RoomM k A) (h : j ≤ k) : RoomM j A := ⟨by have := r.dp; omega, by have := r.un; omega, r.gd⟩
theorem RoomM.deeper {k : Nat} {A : Around} (r : RoomM (k + 1) A) (env : Env) : RoomM k (A.deeper env) :=
  ⟨by have := r.dp; show A.depth + 1 + 3 * k + 5 < _; omega, by have := r.un; show A.units + 3 + 16 * k + 200 < _; omega, r.gd⟩
theorem RoomM.depth {k : Nat} {A : Around} (r : RoomM k A) : A.depth < recursionLimit := by have := r.dp; omega
theorem RoomM.units {k : Nat} {A : Around} (r : RoomM k A) : A.units + 64 < cLine := by have := r.un; omega
theorem Room.m {k : Nat} {A : Around} (r : Room k A) {h : Option Value} : RoomM k (A.mark h) := ⟨r.dp, r.un, r.gd⟩
structure FnOkM (P : Program) (w : World) (K : PySem.W.Frag) (mg : Str → Option Value) (base : Heap) (CX : CXT) (k : Nat) (f : Addr) (fd : FuncData) (ps : List Str) (sp : Sp) : Prop where
  len : ∀ vs H Q E, sp vs H Q E → vs.length = ps.length
  run : ∀ (A : Around) (outer : List Env) (s : Shared) (H : Hp) (args : Args) (us : List Value) (vs : List V) (Q : VK) (E : XK), RoomM k A → Env0 P w K mg base A outer s H → BindsTo s fd args (ps.zip us) → Vals vs us → sp vs H Q E →
    codeAny (model P w) A (.call (.ref f) args) (CR CX outer P w H s Q E) s
def cxOfM (CX : CXT) (P : Program) (w : World) (K : PySem.W.Frag) (mg : Str → Option Value) (base : Heap) (N : List Str) (qual : Str) (scope : Scope) (f : Addr) (cd : Value) (A : Around) (outer : List Env) (s : Shared) (H : Hp) (E : XK) : Cx where
  prog := P
  w := w
  K := K
  mg := mg
  base := base
  A := A.deeper (envOfC qual scope s.heap.objs.size f cd)
  N := N
  s_0 := s
  H_0 := H
  env := envOfC qual scope s.heap.objs.size f cd
  outer := outer
  stack := envOfC qual scope s.heap.objs.size f cd :: outer
  ex := []
  calm := false
  fn := fun _ => true
  pn := []
  xe := fun e s' => wpAny (model P w) (A.deeper (envOfC qual scope s.heap.objs.size f cd)) (leaving (envOfC qual scope s.heap.objs.size f cd) e) (fun _ s'' => CX outer H s E e s'') (fun e' s'' => CX outer H s E e' s'') s'
theorem inv_startM {CX : CXT} {P : Program} {w : World} {K : PySem.W.Frag} {mg : Str → Option Value} {base : Heap} {N ps : List Str} {qual : Str} {scope : Scope} {f : Addr} {cd : Value} {A : Around} {outer : List Env} {s s1 : Shared} {H : Hp} {E : XK} {us : List Value} {vs : List V}
    (S : FnSc N ps scope) (e0 : Env0 P w K mg base A outer s H) (hl : vs.length = ps.length) (r : Vals vs us)
    (x : InCallC s s.heap.objs.size (bindL (envOfC qual scope s.heap.objs.size f cd).kindOf (ps.zip us) fun _ => none) (cellsFrom (s.heap.objs.size + 1) scope.names []) (bindC (envOfC qual scope s.heap.objs.size f cd).kindOf (ps.zip us) fun _ => none) s1) :
    Inv (cxOfM CX P w K mg base N qual scope f cd A outer s H E) [] (start N vs) H s1 := by
  have hpl : ps.length ≤ N.length := by have := congrArg List.length S.pre; rw [List.length_take] at this; omega
  obtain ⟨h1, tk, rfl, hk⟩ := x.done
  have noA : ∀ b : Addr, b ∉ (cxOfM CX P w K mg base N qual scope f cd A outer s H E).ex := fun b z => absurd (show b ∈ ([] : List Addr) from z) (by simp)
  refine ⟨⟨e0.mod, S.kind, rfl, rfl, Nat.le_refl _, fun y z c h1 h2 => ?_, fun y hy => ?_, fun y c _ h => ?_, fun z => (nomatch z), Around.frames_deeper e0.frames, .inr ⟨rfl, rfl⟩, fun b z => absurd z (noA b), e0.bs, e0.bsz, fun b _ _ => noA b, fun b z => absurd z (noA b), e0.funs, e0.frf⟩,
    rfl, e0.bare, Un.kept hk, ⟨_, x.toInCall.ns, fun i y v h1 h2 h3 => ?_⟩, fun y c h => ⟨_, x.cell y c h⟩, e0.hok.fresh (Nat.le_refl _), fun y c h => ?_, fun p hp => absurd (show p ∈ ([] : List (Addr × Obj)) from hp) (by simp), e0.hok.kept hk, ?_⟩
  · exact name_of_addr x.apart (PySem.mem_of_lookup h1) (PySem.mem_of_lookup h2)
  · have hy : scope.names.lookup y = some .cell ∨ scope.names.lookup y = some .free := hy
    rcases hy with hy | hy
    · exact cell_has hy
    · exact absurd rfl (S.nofree _ (PySem.mem_of_lookup hy))
  · exact Nat.le_of_lt (x.above y c (PySem.mem_of_lookup h))
  · have hi : i < vs.length := by
      unfold start at h2
      by_cases hi : i < vs.length
      · exact hi
      · rw [List.getElem?_append_right (by simpa using hi)] at h2
        rw [List.getElem?_replicate] at h2
        split at h2 <;> cases h2
    have ha : vs[i]? = some v := by
      unfold start at h2
      rw [List.getElem?_append_left (by simpa using hi), List.getElem?_map] at h2
      cases e : vs[i]? with
      | none => rw [e] at h2; cases h2
      | some a => rw [e] at h2; cases h2; rfl
    obtain ⟨u, hu, rv⟩ := r.get ha
    have hp : ps[i]? = some y := by
      rw [← S.pre, List.getElem?_take_of_lt (by omega)]; exact h1
    have ndP : ps.Nodup := by rw [← S.pre]; exact S.nd.sublist (List.take_sublist _ _)
    refine ⟨u, rv, ?_⟩
    rcases S.par y (List.mem_of_getElem? hp) with k | k
    · exact .inl ⟨k, bindL_get ndP hp hu k⟩
    · obtain ⟨c, e⟩ := cell_has (n := s.heap.objs.size + 1) k
      refine .inr ⟨.inl k, c, e, ?_⟩
      have q := x.cell y c e
      rw [bindC_get ndP hp hu (by show scope.names.lookup y ≠ _; rw [k]; decide)] at q
      exact q
  · exact e0.hok.fresh (Nat.le_of_lt (x.above y c (PySem.mem_of_lookup h)))
  · unfold start
    show _ = N.length
    rw [List.length_append, List.length_map, List.length_replicate]
    omega
theorem fn_ofM {CX : CXT} {P : Program} {w : World} {K : PySem.W.Frag} {mg : Str → Option Value} {base : Heap} {k : Nat} {f : Addr} {name qual : Str} {params : Arguments} {body : List Stmt} {scope : Scope} {dV kV doc pm cdv ct oc : Value} {an od : Option Addr}
    {osl : Array (Option Value)} {N ps : List Str} {sp : Sp} (lk : K.lookup f = some ⟨oc, od, .func (PySem.W.fnOf name qual params body scope dV kV doc pm an cdv ct), osl⟩) (hcd : PySem.W.codeIn K cdv qual = true) (S : FnScope N ps scope)
    (len : ∀ vs H Q E, sp vs H Q E → vs.length = ps.length)
    (hbody : ∀ (A : Around) (outer : List Env) (s : Shared) (H : Hp) (vs : List V) (Q : VK) (E : XK), RoomM k (A.deeper (envOfC qual scope s.heap.objs.size f cdv)) → sp vs H Q E →
      ∃ t, PSs (cxOfM CX P w K mg base N qual scope f cdv A outer s H E) body t ∧ t { nx := fun _ H' => Q .non H', rt := Q } (start N vs) H) :
    FnOkM P w K mg base CX (k + 1) f (PySem.W.fnOf name qual params body scope dV kV doc pm an cdv ct) ps sp := by
  refine ⟨len, fun A outer s H args us vs Q E hr e0 hb r hsp => ?_⟩
  have hl := len _ _ _ _ hsp
  have KX : K.In s.heap := e0.mod.kin.keeps fun b o e => (e0.bs b o e).1
  have lim : s.heap.NoLimit := e0.mod.nolimit.keeps fun b o e => (e0.bs b o e).1
  have hkind : ∀ y ∈ ps.zip us, scope.names.lookup y.1 = some .local ∨ (scope.names.lookup y.1 = some .cell ∧ ((cellsFrom (s.heap.objs.size + 1) scope.names []).lookup y.1).isSome = true) := fun ⟨n, v⟩ hy => by
    rcases S.par n (List.of_mem_zip hy).1 with q | q
    · exact .inl q
    · exact .inr ⟨q, PySem.W.cellsFrom_some _ _ _ (.inl q)⟩
  refine codeAny_call_function hr.depth (KX _ _ lk) rfl S.co S.gen rfl (PySem.W.codeRec_of KX hcd) (hb _ _ _ _ ?_)
  refine wpAny_newFunctionEnv_cells S.kind hkind fun env he s1 x => ?_
  subst he
  refine ⟨lim.keeps x.toInCall.keep, codeAny_func ?_⟩
  obtain ⟨t, ht, hq⟩ := hbody A outer s H vs Q E (hr.deeper _) hsp
  have I : Inv (cxOfM CX P w K mg base N qual scope f cdv A outer s H E) [] (start N vs) H s1 := inv_startM S.sc e0 hl r x
  refine wpAny_mono (ht [] s1 (start N vs) H _ I hq) (fun fl s' hs => ?_) fun e s' hs => hs
  have fin : ∀ {σ' : St} {H' : Hp} {v : V} {u : Value}, Inv (cxOfM CX P w K mg base N qual scope f cdv A outer s H E) [] σ' H' s' → RelV v u → Q v H' → CE outer P w H s Q u s' :=
    fun {σ' H' v u} J rv q => ⟨v, H', J.os, J.bare, J.base, J.hok, rv, q⟩
  cases fl with
  | ret u =>
    obtain ⟨v, σ', H', J, rv, q⟩ := hs
    exact fin J rv q
  | next =>
    obtain ⟨σ', H', J, q⟩ := hs
    exact fin (v := V.non) (u := Value.none) J rfl q
  | brk =>
    obtain ⟨_, _, _, q⟩ := hs
    exact False.elim q
  | cont =>
    obtain ⟨_, _, _, q⟩ := hs
    exact False.elim q
section
variable {X : Cx} {CX : CXT} {k : Nat} {f C : Addr} {fd : FuncData} {ps : List Str} {sp : Sp} {dvs : List V} {ds : List Value} {E : XK} {x m : Str} {p pos apos : Pos} {e o : Expr} {es : List Expr} {ta : TE} {t : TA}
theorem run_fnM {pins : List (Addr × Obj)} {σ : St} {H : Hp} {s : Shared} {Q : VK} {us : List Value} {vs : List V} (F : FnOkM X.prog X.w X.K X.mg X.base CX k f fd ps sp) (hr : RoomM k X.A) (hb : Binds X.K fd ps ds) (hd : Vals dvs ds) (hx : Passes CX X E)
    (I : Inv X pins σ H s) (r : Vals vs us) (h : sp (vs ++ dvs) H Q E) : wpAny (model X.prog X.w) X.A (call (.ref f) us) (EP X pins σ Q) X.xe s := by
  have r2 : Vals (vs ++ dvs) (us ++ ds) := r.append hd
  have hl : (us ++ ds).length = ps.length := by rw [← r2.length]; exact F.len _ _ _ _ h
  refine wpAny_call (codeAny_mono (F.run X.A X.stack s H ⟨us, []⟩ (us ++ ds) (vs ++ dvs) Q E hr I.env0 (hb s us I.kIn hl) r2 h) fun r s' hq => ?_)
  cases r with
  | error e => exact hx pins σ H s e s' I hq
  | ok fl =>
    cases fl with
    | ret u => exact I.after hq
    | next => exact False.elim hq
    | brk => exact False.elim hq
    | cont => exact False.elim hq
theorem pe_callM (F : FnOkM X.prog X.w X.K X.mg X.base CX k f fd ps sp) (hr : RoomM k X.A) (hg : Gl X x) (hm : X.mg x = some (.ref f)) (hk : PySem.W.keepIn X.K (.ref f) = true) (hb : Binds X.K fd ps ds) (hd : Vals dvs ds) (hx : Passes CX X E)
    (ha : PA X (e :: es) t) (hdb : (x == ("__debug__" : Str)) = false := by decide) (he : starEach (e :: es) X.env = (false, eval e X.env) :: starEach es X.env := by rfl) (hpl : (backTo pos (starEach es X.env)).any (·.1) = false := by rfl) :
    PE X (.Call (.Name x p) (e :: es) [] pos) (tCall sp dvs E t) := by
  intro pins s σ H Q I h
  refine wpAny_Call_Name_kw (ld_glob I hg hm ?_ hdb)
  refine PySem.W.callWith_K (h₀ := X.base) I.ok.mod.kin hk (thn (ha pos pins s σ H _ I h) fun us s1 ⟨vs, H1, I1, r, q⟩ => ⟨I1.kIn, ?_⟩) he hpl
  exact run_fnM F hr hb hd hx I1 r q
end
section
variable {P : Program} {w : World} {K : PySem.W.Frag} {mg : Str → Option Value} {base : Heap}
theorem Fun.okcM {x qual : Str} {st : Stmt} {f : Addr} {fd : FuncData} {N ps : List Str} {k : Nat} {sp : Sp} (F : Fun K x qual st f fd) (hn : PySem.W.nsIn K mainGlobals x = some (some (.ref f))) (S : FnScope N ps (defScope st)) (len : ∀ vs H Q E, sp vs H Q E → vs.length = ps.length)
    (hbody : ∀ (cdv : Value) (A : Around) (outer : List Env) (s : Shared) (H : Hp) (vs : List V) (Q : VK) (E : XK), (∀ c P, PySem.W.tabIn K x = some (c, P) → cdv = .ref c) → RoomM k (A.deeper (envOfC qual (defScope st) s.heap.objs.size f cdv)) → sp vs H Q E →
      ∃ t, PSs (cxOfM CX0 P w K mg base N qual (defScope st) f cdv A outer s H E).nox (defBody st) t ∧ t { nx := fun _ H' => Q .non H', rt := Q } (start N vs) H) : FnOkM P w K mg base CX0 (k + 1) f fd ps sp := by
  obtain ⟨oc, od, kV, doc, pm, an, cdv, ct, osl, rfl, lk, hcd⟩ := F.ex
  refine fn_ofM lk hcd S len fun A outer s H vs Q E hr hsp => ?_
  have hcc : ∀ c P, PySem.W.tabIn K x = some (c, P) → cdv = .ref c := fun c P e => by
    unfold PySem.W.tabIn at e
    rw [hn] at e
    simp only [lk] at e
    cases cdv with
    | ref c' =>
      simp only [PySem.W.fnOf] at e
      split at e
      · split at e
        · cases e; rfl
        · cases e
      · cases e
    | _ => simp [PySem.W.fnOf] at e
  obtain ⟨t, h, q⟩ := hbody cdv A outer s H vs Q E hcc hr hsp
  exact ⟨t, h.nox, q⟩
theorem fn_qM {x qual : Str} {st : Stmt} {f : Addr} {fd : FuncData} {N ps : List Str} {k : Nat} {M : Md} {bp : List Bool} {body : FS} (F : Fun K x qual st f fd) (hn : PySem.W.nsIn K mainGlobals x = some (some (.ref f))) (S : FnScope N ps (defScope st)) (hbp : bp.length = ps.length) (hM : bpOk M bp = true)
    (hbody : ∀ (cdv : Value) (A : Around) (outer : List Env) (s : Shared) (H : Hp) (E : XK), (∀ c P, PySem.W.tabIn K x = some (c, P) → cdv = .ref c) → RoomM k (A.deeper (envOfC qual (defScope st) s.heap.objs.size f cdv)) →
      QSs (cxOfM CX0 P w K mg base N qual (defScope st) f cdv A outer s H E).nox M (defBody st) body) : FnOkM P w K mg base CX0 (k + 1) f fd ps (spq K M.tn bp (fnM N.length bp body)) := by
  have hnp : M.np = bp.length := by
    unfold bpOk at hM
    simp only [Bool.and_eq_true, decide_eq_true_eq] at hM
    exact hM.1
  refine F.okcM hn S (fun vs H Q E h => ?_) (fun cdv A outer s H vs Q E hcc hr h => ?_)
  · obtain ⟨F, I, ds, as, d, os, _, _, _, _, _, p, _⟩ := h
    rw [p.len.1, hbp]
  · obtain ⟨F, I, ds, as, d, os, h1, h2, h3, h4, h5, p, e, k⟩ := h
    obtain ⟨⟨o, ρ'⟩, e1, e⟩ := bind_some e
    obtain ⟨d', e2, e⟩ := bind_some e
    obtain ⟨os', e3, e⟩ := bind_some e
    cases e
    have hlen := p.len
    have hNl : ds.length ≤ N.length := by
      have := congrArg List.length S.pre
      rw [List.length_take] at this
      omega
    let G : Nat → Option Addr := fun i => if bp[i]? = some true then (match vs[i]? with | some (.ref a) => some a | _ => none) else none
    have hG : ∀ i a, G i = some a → bp[i]? = some true ∧ vs[i]? = some (.ref a) := fun i a q => by
      have q : (if bp[i]? = some true then (match vs[i]? with | some (.ref a) => some a | _ => none) else none) = some a := q
      by_cases z : bp[i]? = some true
      · rw [if_pos z] at q
        refine ⟨z, ?_⟩
        split at q
        · cases q; assumption
        · cases q
      · rw [if_neg z] at q; cases q
    refine ⟨_, (hbody cdv A outer s H E hcc hr).ps, ⟨F, G⟩, I, _, o, ρ', ⟨h1, h2, h3, h4, fun i d q hi => ?_, fun i d q hi => ?_, fun i j d e a hi hj q1 q2 s1 s2 => ?_, ?_, fun i a q => ?_, h5⟩, e1, fun σ' H' I' s' R' => ?_⟩
    · obtain ⟨v, q1, q2⟩ := p.at i d (ev_get.mp q)
      rcases q2 with ⟨_, q2⟩ | ⟨q2, _⟩
      · exact ⟨v, start_get.mpr q1, q2⟩
      · exact absurd ((bpOk_at hM q2).1.mpr rfl) hi
    · obtain ⟨v, q1, q2⟩ := p.at i d (ev_get.mp q)
      rcases q2 with ⟨q2, _⟩ | ⟨q2, a, _, rfl, b1, b2, b3⟩
      · exact absurd ((bpOk_at hM q2).1.mp hi) (by simp)
      · exact ⟨a, start_get.mpr q1, b1, b2, b3⟩
    · have key : ∀ i d, i ∈ M.bs → (ds.map some ++ List.replicate (N.length - ds.length) none)[i]? = some (some d) → bp[i]? = some true := fun i d hi q => by
        obtain ⟨v, q1, q2⟩ := p.at i d (ev_get.mp q)
        rcases q2 with ⟨q2, _⟩ | ⟨q2, _⟩
        · exact absurd ((bpOk_at hM q2).1.mp hi) (by simp)
        · exact q2
      exact p.inj i j a (key i d hi q1) (key j e hj q2) (start_get.mp s1) (start_get.mp s2)
    · unfold start
      rw [List.length_append, List.length_append, List.length_map, List.length_map, List.length_replicate, List.length_replicate]
      omega
    · obtain ⟨z1, z2⟩ := hG i a q
      obtain ⟨w1, w2⟩ := bpOk_at hM z1
      exact ⟨start_get.mpr z2, w1.mpr rfl, w2⟩
    · have fin : ∀ v, Dp K I' v d → Q v H' := fun v dv => by
        refine k v H' I' s' R'.sub R'.frm R'.dis R'.sz R'.tab (out_of hlen.1 (fun i e z1 z2 => ?_) e3) dv
        have hib := (bpOk_at hM z1).1.mpr rfl
        obtain ⟨a, q1, q2, q3, _⟩ := R'.box i e z2 hib
        have hi : i < ds.length := by rw [hlen.2]; exact (List.getElem?_eq_some_iff.mp z1).1
        obtain ⟨v0, y1, y2⟩ := p.at i _ (List.getElem?_eq_getElem hi)
        rcases y2 with ⟨y2, _⟩ | ⟨_, b, _, rfl, _⟩
        · rw [z1] at y2; cases y2
        · have hg : G i = some b := by
            show (if bp[i]? = some true then (match vs[i]? with | some (.ref a) => some a | _ => none) else none) = some b
            rw [if_pos z1, y1]
          have := (R'.anc i b hg).1
          rw [q1] at this; cases this
          exact ⟨a, y1, q2, q3⟩
      cases o with
      | nx => cases e2; exact fin .non .non
      | rt d => cases e2; exact fun v dv => fin v dv
      | bk => cases e2
      | ct => cases e2
end
section
variable {X : Cx} {bs : Md} {e : Expr} {es : List Expr} {cs : List (Option Nat)} {fr : FA} {pos : Pos}
open Classical in
theorem qe_callM {k : Nat} {f : Addr} {fd : FuncData} {ps : List Str} {bp : List Bool} {fn : Fn} {x : Str} {p : Pos} (F : FnOkM X.prog X.w X.K X.mg X.base CX0 k f fd ps (spq X.K bs.tn bp fn)) (hr : RoomM k X.A) (hm : X.mg x = some (.ref f)) (hk : PySem.W.keepIn X.K (.ref f) = true) (hb : Binds X.K fd ps [])
    (ha : QA X bs (e :: es) cs fr) (hg : Gl X x := by rfl) (hbp : bp = cs.map Option.isSome := by rfl) (hcs : (cs.filterMap id).Nodup := by decide) (hcb : ∀ i, some i ∈ cs → i ∈ bs.bs := by simp)
    (hdb : (x == ("__debug__" : Str)) = false := by decide) (he : starEach (e :: es) X.env = (false, eval e X.env) :: starEach es X.env := by rfl) (hpl : (backTo pos (starEach es X.env)).any (·.1) = false := by rfl) :
    QE X bs (.Call (.Name x p) (e :: es) [] pos) (callF fn cs fr) := by
  subst hbp
  refine ⟨PE.weak (pe_callM F hr hg hm hk hb .nil pass0 ha.pa hdb he hpl) fun σ H Q ⟨F, I, ρ, d, ρ', R, e, k⟩ => ?_⟩
  obtain ⟨⟨ds, ρ1⟩, e1, e⟩ := bind_some e
  obtain ⟨as, e2, e⟩ := bind_some e
  obtain ⟨⟨d', os⟩, e3, e⟩ := bind_some e
  obtain ⟨ρ2, e4, e⟩ := bind_some e
  cases e
  refine ⟨F, I, ρ, ds, ρ1, R, e1, fun vs H1 I1 s1 R1 d1 => ?_⟩
  show spq X.K bs.tn (List.map Option.isSome cs) fn (vs ++ []) H1 Q E0
  rw [List.append_nil]
  let OB : Addr → Prop := fun a => ∃ i d, i ∈ bs.bs ∧ ρ1[i]? = some (some d) ∧ σ[i]? = some (some (.ref a)) ∧ some i ∉ cs
  let F' : Hp := fun a => if OB a then H1 a else F.F a
  have oI : ∀ a, OB a → I1 a = none ∧ F.F a = none ∧ ∃ o, H1 a = some o := fun a ⟨i, d, h1, h2, h3, h4⟩ => by
    obtain ⟨b, s1, b1, i1, f1⟩ := R1.box i d h2 h1
    rw [h3] at s1; cases s1
    exact ⟨i1, f1, b1.some⟩
  obtain ⟨ads, P, _⟩ := par_of (cs := cs) (F' := F') R1 (fun i a d hi hd hs hc => by
    have hn : ¬ OB a := fun ⟨j, e, h1, h2, h3, h4⟩ => h4 (R1.inj i j d e a hi h1 hd h2 hs h3 ▸ hc)
    show (if OB a then H1 a else F.F a) = none
    rw [if_neg hn]
    obtain ⟨b, s1, _, _, f1⟩ := R1.box i d hd hi
    rw [hs] at s1; cases s1
    exact f1) (fun c m => m) hcb hcs d1 e2
  refine ⟨F', I1, as, ads, d, os, R1.sub, fun a o h => ?_, fun a o h => ?_, R1.sz, ⟨fun x hx c P' e => ?_, fun a xs h => ?_⟩, P, e3, fun v H2 I2 s2 sub2 frm2 dis2 sz2 tab2 out dv => ?_⟩
  · have h : (if OB a then H1 a else F.F a) = some o := h
    by_cases ho : OB a
    · rw [if_pos ho] at h; exact h
    · rw [if_neg ho] at h; exact R1.frm a o h
  · have h : (if OB a then H1 a else F.F a) = some o := h
    by_cases ho : OB a
    · exact (oI a ho).1
    · rw [if_neg ho] at h; exact R1.dis a o h
  · obtain ⟨⟨ps, t1, t2⟩, t3, t4⟩ := R1.tab.1 x hx c P' e
    refine ⟨⟨ps, t1, t2⟩, t3, ?_⟩
    have hn : ¬ OB P' := fun ⟨i, d, h1, h2, h3, h4⟩ => by
      obtain ⟨b, s1, b1, _, _⟩ := R1.box i d h2 h1
      rw [h3] at s1; cases s1
      cases d with
      | list ds => obtain ⟨xs, q, _⟩ := b1; rw [q] at t1; cases t1
      | dict kvs => obtain ⟨kv, q, r⟩ := b1; rw [q] at t1; cases t1; exact False.elim r
      | str x => obtain ⟨_, _, q⟩ := b1; rw [q] at t1; cases t1
      | _ => exact b1.elim
    show (if OB P' then H1 P' else F.F P') = none
    rw [if_neg hn]; exact t4
  · have h : (if OB a then H1 a else F.F a) = some (.tup xs) := h
    by_cases ho : OB a
    · rw [if_pos ho] at h
      obtain ⟨i, d, h1, h2, h3, h4⟩ := ho
      obtain ⟨b, s1, b1, _, _⟩ := R1.box i d h2 h1
      rw [h3] at s1; cases s1
      exact bx_nt b1 xs h
    · rw [if_neg ho] at h; exact R1.tab.2 a xs h
  · have toF' : ∀ a o, F.F a = some o → F' a = some o := fun a o h => by
      have hn : ¬ OB a := fun ho => by rw [(oI a ho).2.1] at h; cases h
      show (if OB a then H1 a else F.F a) = some o
      rw [if_neg hn]; exact h
    obtain ⟨hl, hno, hyes⟩ := putA_spec d1 out e4 hcs
    refine k v H2 I2 (s1.trans s2) ⟨sub2, fun a o h => frm2 a o (toF' a o h), fun a o h => dis2 a o (toF' a o h), sz2, fun i d q hi => ?_, fun i d q hi => ?_, fun i j d e a hi hj q1 q2 => ?_, hl.trans R1.len, R1.anc, ⟨fun x hx c P' e => ⟨(tab2.1 x hx c P' e).1, (tab2.1 x hx c P' e).2.1, (R1.tab.1 x hx c P' e).2.2⟩, R1.tab.2⟩⟩ dv
    · rw [hno i fun m => hi (hcb i m)] at q
      obtain ⟨v, h1, h2⟩ := R1.val i d q hi
      exact ⟨v, h1, Dp.up s2 h2⟩
    · by_cases hc : some i ∈ cs
      · obtain ⟨a, d', h1, h2, h3, h4⟩ := hyes i hc (by rw [← hl]; exact lt_of_get q)
        rw [q] at h2; cases h2
        have hw : ∃ w, ρ1[i]? = some (some w) := fill_some e2 hc
        obtain ⟨w, hw⟩ := hw
        obtain ⟨b, s1, _, _, f1⟩ := R1.box i w hw hi
        rw [h1] at s1; cases s1
        exact ⟨a, h1, h3, h4, f1⟩
      · rw [hno i hc] at q
        obtain ⟨a, h1, h2, h3, h4⟩ := R1.box i d q hi
        have ho : OB a := ⟨i, d, hi, q, h1, hc⟩
        obtain ⟨_, _, o, hO⟩ := oI a ho
        have hF' : F' a = some o := by show (if OB a then H1 a else F.F a) = some o; rw [if_pos ho]; exact hO
        exact ⟨a, h1, h2.up s2 ((frm2 a o hF').trans hO.symm), dis2 a o hF', h4⟩
    · have w : ∀ i d, i ∈ bs.bs → ρ'[i]? = some (some d) → ∃ e, ρ1[i]? = some (some e) := fun i d hi q => by
        by_cases hc : some i ∈ cs
        · exact fill_some e2 hc
        · rw [hno i hc] at q; exact ⟨d, q⟩
      obtain ⟨d', w1⟩ := w i d hi q1
      obtain ⟨e', w2⟩ := w j e hj q2
      exact R1.inj i j d' e' a hi hj w1 w2
end
end L2
namespace PF
open PySem L2
def b_is_whole : FS := retS (andV (isF "int" (nameF 0)) (notV (isF "bool" (nameF 0))))
def f_is_whole : Fn := fnM 1 [false] b_is_whole
def b_is_sign : FS := retS (andV (callF PF.f_is_whole [none] (consA (nameF 0) (nilA))) (chainF leD ltT (cF (.int 0)) (nameF 0) (nameF 1)))
def f_is_sign : Fn := fnM 2 [false, false] b_is_sign
def b_is_pair : FS := seqS (ifS (orT (notT (truF (isF "tuple" (nameF 0)))) (tF (opF neD (bF lenD (consA (nameF 0) (nilA))) (cF (.int 2))))) (retS (cF (.bool false))) (skipS)) (seqS (asgS (nameF 0) (tupG 2 (consG (nameG 2) (consG (nameG 3) (nilG))))) (retS (andV (callF PF.f_is_sign [none, none] (consA (nameF 2) (consA (nameF 1) (nilA)))) (andV (callF PF.f_is_sign [none, none] (consA (nameF 3) (consA (nameF 1) (nilA)))) (opF ltT (nameF 2) (nameF 3))))))
def f_is_pair : Fn := fnM 4 [false, false] b_is_pair
def b_rises : FS := retS (gaF false (rng1I (consA (opF subD (bF lenD (consA (nameF 0) (nilA))) (cF (.int 1))) (nilA))) [1] (nameG 1) (yesT) (opF ltT (opF ixD (nameF 0) (nameF 1)) (opF ixD (nameF 0) (opF addD (nameF 1) (cF (.int 1))))))
def f_rises : Fn := fnM 2 [false] b_rises
def b_is_table : FS := seqS (ifS (orT (notT (truF (isF "tuple" (nameF 0)))) (tF (opF neD (bF lenD (consA (nameF 0) (nilA))) (cF (.int 2))))) (retS (cF (.bool false))) (skipS)) (seqS (asgS (nameF 0) (tupG 2 (consG (nameG 1) (consG (nameG 2) (nilG))))) (seqS (ifS (orT (notT (truF (callF PF.f_is_whole [none] (consA (nameF 1) (nilA))))) (orT (notT (tF (chainF leD leD (cF (.int 1)) (nameF 1) (cF (.int 6))))) (notT (truF (isF "tuple" (nameF 2)))))) (retS (cF (.bool false))) (skipS)) (retS (andV (gaF false (seqI (nameF 2)) [3] (nameG 3) (yesT) (callF PF.f_is_pair [none, none] (consA (nameF 3) (consA (nameF 1) (nilA))))) (callF PF.f_rises [none] (consA (nameF 2) (nilA)))))))
def f_is_table : Fn := fnM 4 [false] b_is_table
def p_has_pair_1 : FS := seqS (setS 4 (opF fdivD (opF addD (nameF 2) (nameF 3)) (cF (.int 2)))) (ifS (tF (opF ltT (opF ixD (nameF 0) (nameF 4)) (nameF 1))) (setS 2 (opF addD (nameF 4) (cF (.int 1)))) (setS 3 (nameF 4)))
def b_has_pair : FS := seqS (setS 2 (cF (.int 0))) (seqS (setS 3 (bF lenD (consA (nameF 0) (nilA)))) (seqS (whileS (tF (opF ltT (nameF 2) (nameF 3))) (PF.p_has_pair_1) 100000) (retS (andV (opF ltT (nameF 2) (bF lenD (consA (nameF 0) (nilA)))) (opF eqD (opF ixD (nameF 0) (nameF 2)) (nameF 1))))))
def f_has_pair : Fn := fnM 5 [false, false] b_has_pair
def b_mixed : FS := seqS (ifS (tF (opF eqD (nameF 1) (nameF 2))) (retS (cF (.bool true))) (skipS)) (retS (callF PF.f_has_pair [none, none] (consA (opF ixD (nameF 0) (cF (.int 1))) (consA (tupF (consA (bF minD (consA (nameF 1) (consA (nameF 2) (nilA)))) (consA (bF maxD (consA (nameF 1) (consA (nameF 2) (nilA)))) (nilA)))) (nilA)))))
def f_mixed : Fn := fnM 3 [false, false, false] b_mixed
def b_near : FS := retS (bF tupleD (consA (lcF (rng1I (consA (opF ixD (nameF 0) (cF (.int 0))) (nilA))) [2] (nameG 2) (truF (callF PF.f_mixed [none, none, none] (consA (nameF 0) (consA (nameF 1) (consA (nameF 2) (nilA)))))) (nameF 2)) (nilA)))
def f_near : Fn := fnM 3 [false, false] b_near
def b_all_pairs : FS := retS (lc2F (rng1I (consA (nameF 0) (nilA))) [1, 2] [2] (nameG 1) (yesT) (rng2I (consA (opF addD (nameF 1) (cF (.int 1))) (consA (nameF 0) (nilA)))) (nameG 2) (yesT) (tupF (consA (nameF 1) (consA (nameF 2) (nilA)))))
def f_all_pairs : Fn := fnM 3 [false] b_all_pairs
def b_turned : FS := seqS (setS 1 (opF ixD (nameF 0) (cF (.int 0)))) (retS (tupF (consA (nameF 1) (consA (bF tupleD (consA (lcF (seqI (callF PF.f_all_pairs [none] (consA (nameF 1) (nilA)))) [2, 3] (tupG 2 (consG (nameG 2) (consG (nameG 3) (nilG)))) (notT (truF (callF PF.f_mixed [none, none, none] (consA (nameF 0) (consA (nameF 2) (consA (nameF 3) (nilA))))))) (tupF (consA (nameF 2) (consA (nameF 3) (nilA))))) (nilA))) (nilA)))))
def f_turned : Fn := fnM 4 [false] b_turned
def b_part : FS := seqS (setS 2 (bF lenD (consA (nameF 1) (nilA)))) (seqS (setS 3 (lcF (seqI (callF PF.f_all_pairs [none] (consA (nameF 2) (nilA)))) [4, 5] (tupG 2 (consG (nameG 4) (consG (nameG 5) (nilG)))) (truF (callF PF.f_mixed [none, none, none] (consA (nameF 0) (consA (opF ixD (nameF 1) (nameF 4)) (consA (opF ixD (nameF 1) (nameF 5)) (nilA)))))) (tupF (consA (nameF 4) (consA (nameF 5) (nilA)))))) (retS (tupF (consA (nameF 2) (consA (bF tupleD (consA (nameF 3) (nilA))) (nilA))))))
def f_part : Fn := fnM 6 [false, false] b_part
def b_renamed : FS := seqS (asgS (nameF 0) (tupG 2 (consG (nameG 2) (consG (nameG 3) (nilG))))) (seqS (setS 4 (lcF (seqI (nameF 3)) [5, 6] (tupG 2 (consG (nameG 5) (consG (nameG 6) (nilG)))) (yesT) (tupF (consA (opF ixD (nameF 1) (nameF 5)) (consA (opF ixD (nameF 1) (nameF 6)) (nilA)))))) (retS (tupF (consA (nameF 2) (consA (bF tupleD (consA (bFl sortedD (consA (lcF (seqI (nameF 4)) [7] (nameG 7) (yesT) (tupF (consA (bF minD (consA (nameF 7) (nilA))) (consA (bF maxD (consA (nameF 7) (nilA))) (nilA))))) (nilA))) (nilA))) (nilA))))))
def f_renamed : Fn := fnM 8 [false, false] b_renamed
def b_law_draw_k16 : FS := seqS (appB 1 (cF (.int 0))) (seqS (setS 3 (lenB 1)) (seqS (setS 4 (cF (.int 0))) (seqS (ifS (truF (nameF 0)) (setS 4 (opF ixD (nameF 0) (opF modD (nameF 3) (bF lenD (consA (nameF 0) (nilA)))))) (skipS)) (seqS (setS 5 (opF modD (opF addD (nameF 4) (opF mulD (cF (.int 104729)) (nameF 3))) (cF (.int 4294967291)))) (seqS (setS 5 (opF modD (opF mulD (opF modD (opF mulD (nameF 5) (nameF 5)) (cF (.int 4294967279))) (cF (.int 48271))) (cF (.int 4294967291)))) (seqS (setS 6 (opF modD (opF mulD (opF modD (opF mulD (nameF 5) (nameF 5)) (cF (.int 4294967279))) (cF (.int 69621))) (cF (.int 4294967291)))) (retS (opF modD (opF addD (opF mulD (opF fdivD (nameF 5) (cF (.int 64))) (cF (.int 67108864))) (opF fdivD (nameF 6) (cF (.int 64)))) (nameF 2)))))))))
def f_law_draw_k16 : Fn := fnM 7 [false, true, false] b_law_draw_k16
def b_law_pick_k16 : FS := retS (opF ixD (nameF 2) (callF PF.f_law_draw_k16 [none, some 1, none] (consA (nameF 0) (boxA 1 (consA (bF lenD (consA (nameF 2) (nilA))) (nilA))))))
def f_law_pick_k16 : Fn := fnM 3 [false, true, false] b_law_pick_k16
def p_law_table_k16_1 : FS := ifS (tF (opF ltT (callF PF.f_law_draw_k16 [none, some 1, none] (consA (nameF 0) (boxA 1 (consA (cF (.int 4)) (nilA))))) (nameF 5))) (setS 4 (opF addD (nameF 4) (tupF (consA (tupF (consA (nameF 6) (consA (nameF 7) (nilA)))) (nilA))))) (skipS)
def p_law_table_k16_2 : FS := forS (rng2I (consA (opF addD (nameF 6) (cF (.int 1))) (consA (nameF 3) (nilA)))) (nameG 7) (PF.p_law_table_k16_1)
def b_law_table_k16 : FS := seqS (par2S 3 4 (opF addD (cF (.int 1)) (callF PF.f_law_draw_k16 [none, some 1, none] (consA (nameF 0) (boxA 1 (consA (nameF 2) (nilA)))))) (tupF (nilA))) (seqS (setS 5 (callF PF.f_law_pick_k16 [none, some 1, none] (consA (nameF 0) (boxA 1 (consA (lstF (consA (cF (.int 1)) (consA (cF (.int 2)) (consA (cF (.int 3)) (nilA))))) (nilA)))))) (seqS (forS (rng1I (consA (nameF 3) (nilA))) (nameG 6) (PF.p_law_table_k16_2)) (retS (tupF (consA (nameF 3) (consA (nameF 4) (nilA)))))))
def f_law_table_k16 : Fn := fnM 8 [false, true, false] b_law_table_k16
def p_law_mixed_k16_1 : FS := appB 4 (popB 3 (callF PF.f_law_draw_k16 [none, some 1, none] (consA (nameF 0) (boxA 1 (consA (lenB 3) (nilA))))))
def b_law_mixed_k16 : FS := seqS (par2S 3 4 (bFl listD (consA (nameF 2) (nilA))) (lstF (nilA))) (seqS (whileS (truB 3) (PF.p_law_mixed_k16_1) 100000) (retS (tupB 4)))
def f_law_mixed_k16 : Fn := fnM 5 [false, true, false] b_law_mixed_k16
def b_law_back_k16 : FS := retS (bF tupleD (consA (lcF (rng1I (consA (bF lenD (consA (nameF 0) (nilA))) (nilA))) [1] (nameG 1) (yesT) (idxF (nameF 0) (nameF 1))) (nilA)))
def f_law_back_k16 : Fn := fnM 2 [false] b_law_back_k16
def p_law_pairs_hold_k16_1 : FS := seqS (setS 8 (opF inD (tupF (consA (bF minD (consA (nameF 4) (consA (nameF 7) (nilA)))) (consA (bF maxD (consA (nameF 4) (consA (nameF 7) (nilA)))) (nilA)))) (nameF 2))) (seqS (ifS (orT (tF (opF neD (callF PF.f_mixed [none, none, none] (consA (nameF 0) (consA (nameF 4) (consA (nameF 7) (nilA))))) (callF PF.f_mixed [none, none, none] (consA (nameF 0) (consA (nameF 7) (consA (nameF 4) (nilA))))))) (tF (opF neD (callF PF.f_mixed [none, none, none] (consA (nameF 0) (consA (nameF 4) (consA (nameF 7) (nilA))))) (orV (nameF 8) (opF eqD (nameF 4) (nameF 7)))))) (retS (cF (.bool false))) (skipS)) (ifS (orT (andT (tF (opF neD (nameF 4) (nameF 7))) (tF (opF eqD (callF PF.f_mixed [none, none, none] (consA (nameF 3) (consA (nameF 4) (consA (nameF 7) (nilA))))) (nameF 8)))) (tF (opF neD (opF inD (nameF 4) (callF PF.f_near [none, none] (consA (nameF 0) (consA (nameF 7) (nilA))))) (opF inD (nameF 7) (nameF 5))))) (retS (cF (.bool false))) (skipS)))
def p_law_pairs_hold_k16_2 : FS := seqS (par2S 5 6 (callF PF.f_near [none, none] (consA (nameF 0) (consA (nameF 4) (nilA)))) (lcF (rng1I (consA (nameF 1) (nilA))) [7] (nameG 7) (truF (callF PF.f_mixed [none, none, none] (consA (nameF 0) (consA (nameF 4) (consA (nameF 7) (nilA)))))) (nameF 7))) (seqS (ifS (orT (tF (opF notInD (nameF 4) (nameF 5))) (tF (opF neD (bFl listD (consA (nameF 5) (nilA))) (nameF 6)))) (retS (cF (.bool false))) (skipS)) (forS (rng1I (consA (nameF 1) (nilA))) (nameG 7) (PF.p_law_pairs_hold_k16_1)))
def b_law_pairs_hold_k16 : FS := seqS (asgS (nameF 0) (tupG 2 (consG (nameG 1) (consG (nameG 2) (nilG))))) (seqS (setS 3 (callF PF.f_turned [none] (consA (nameF 0) (nilA)))) (seqS (ifS (orT (tF (opF neD (callF PF.f_turned [none] (consA (nameF 3) (nilA))) (nameF 0))) (orT (tF (opF neD (opF addD (bF lenD (consA (nameF 2) (nilA))) (bF lenD (consA (opF ixD (nameF 3) (cF (.int 1))) (nilA)))) (opF fdivD (opF mulD (nameF 1) (opF subD (nameF 1) (cF (.int 1)))) (cF (.int 2))))) (notT (truF (callF PF.f_is_table [none] (consA (nameF 3) (nilA))))))) (retS (cF (.bool false))) (skipS)) (seqS (forS (rng1I (consA (nameF 1) (nilA))) (nameG 4) (PF.p_law_pairs_hold_k16_2)) (retS (cF (.bool true))))))
def f_law_pairs_hold_k16 : Fn := fnM 9 [false] b_law_pairs_hold_k16
def p_law_k16_1 : FS := ifS (tF (opF neD (callF PF.f_near [none, none] (consA (nameF 7) (consA (opF ixD (nameF 5) (nameF 8)) (nilA)))) (bF tupleD (consA (bFl sortedD (consA (lcF (seqI (callF PF.f_near [none, none] (consA (nameF 3) (consA (nameF 8) (nilA))))) [12] (nameG 12) (yesT) (opF ixD (nameF 5) (nameF 12))) (nilA))) (nilA))))) (retS (cF (.bool false))) (skipS)
def p_law_k16_2 : FS := seqS (setS 3 (callF PF.f_law_table_k16 [none, some 1, none] (consA (nameF 0) (boxA 1 (consA (cF (.int 6)) (nilA)))))) (seqS (setS 4 (opF ixD (nameF 3) (cF (.int 0)))) (seqS (asgS (tupF (consA (callF PF.f_law_mixed_k16 [none, some 1, none] (consA (nameF 0) (boxA 1 (consA (lrngF (consA (nameF 4) (nilA))) (nilA))))) (consA (callF PF.f_law_mixed_k16 [none, some 1, none] (consA (nameF 0) (boxA 1 (consA (lrngF (consA (nameF 4) (nilA))) (nilA))))) (nilA)))) (tupG 2 (consG (nameG 5) (consG (nameG 6) (nilG))))) (seqS (setS 7 (callF PF.f_renamed [none, none] (consA (nameF 3) (consA (nameF 5) (nilA))))) (seqS (ifS (orT (notT (truF (callF PF.f_law_pairs_hold_k16 [none] (consA (nameF 3) (nilA))))) (orT (notT (truF (callF PF.f_is_table [none] (consA (nameF 7) (nilA))))) (tF (opF neD (callF PF.f_renamed [none, none] (consA (nameF 7) (consA (callF PF.f_law_back_k16 [none] (consA (nameF 5) (nilA))) (nilA)))) (nameF 3))))) (retS (cF (.bool false))) (skipS)) (seqS (ifS (tF (opF neD (callF PF.f_renamed [none, none] (consA (nameF 7) (consA (nameF 6) (nilA)))) (callF PF.f_renamed [none, none] (consA (nameF 3) (consA (bF tupleD (consA (lcF (seqI (nameF 5)) [11] (nameG 11) (yesT) (opF ixD (nameF 6) (nameF 11))) (nilA))) (nilA)))))) (retS (cF (.bool false))) (skipS)) (seqS (ifS (orT (tF (opF neD (callF PF.f_renamed [none, none] (consA (callF PF.f_turned [none] (consA (nameF 3) (nilA))) (consA (nameF 5) (nilA)))) (callF PF.f_turned [none] (consA (nameF 7) (nilA))))) (tF (opF neD (callF PF.f_part [none, none] (consA (nameF 3) (consA (callF PF.f_law_back_k16 [none] (consA (nameF 5) (nilA))) (nilA)))) (nameF 7)))) (retS (cF (.bool false))) (skipS)) (seqS (forS (rng1I (consA (nameF 4) (nilA))) (nameG 8) (PF.p_law_k16_1)) (seqS (setS 9 (slF (nameF 5) (noO) (someO (opF addD (cF (.int 1)) (callF PF.f_law_draw_k16 [none, some 1, none] (consA (nameF 0) (boxA 1 (consA (nameF 4) (nilA))))))))) (seqS (setS 10 (slF (callF PF.f_law_mixed_k16 [none, some 1, none] (consA (nameF 0) (boxA 1 (consA (lrngF (consA (bF lenD (consA (nameF 9) (nilA))) (nilA))) (nilA))))) (noO) (someO (opF addD (cF (.int 1)) (callF PF.f_law_draw_k16 [none, some 1, none] (consA (nameF 0) (boxA 1 (consA (bF lenD (consA (nameF 9) (nilA))) (nilA))))))))) (seqS (ifS (tF (opF neD (callF PF.f_part [none, none] (consA (callF PF.f_part [none, none] (consA (nameF 3) (consA (nameF 9) (nilA)))) (consA (nameF 10) (nilA)))) (callF PF.f_part [none, none] (consA (nameF 3) (consA (bF tupleD (consA (lcF (seqI (nameF 10)) [12] (nameG 12) (yesT) (opF ixD (nameF 9) (nameF 12))) (nilA))) (nilA)))))) (retS (cF (.bool false))) (skipS)) (ifS (tF (opF neD (callF PF.f_turned [none] (consA (callF PF.f_part [none, none] (consA (nameF 3) (consA (nameF 9) (nilA)))) (nilA))) (callF PF.f_part [none, none] (consA (callF PF.f_turned [none] (consA (nameF 3) (nilA))) (consA (nameF 9) (nilA)))))) (retS (cF (.bool false))) (skipS))))))))))))
def b_law_k16 : FS := seqS (setS 1 (lstF (nilA))) (seqS (forS (rng1I (consA (cF (.int 6)) (nilA))) (nameG 2) (PF.p_law_k16_2)) (retS (cF (.bool true))))
def f_law_k16 : Fn := fnM 13 [false] b_law_k16
def b_law_draw_k02 : FS := seqS (appB 1 (cF (.int 0))) (seqS (setS 3 (lenB 1)) (seqS (setS 4 (cF (.int 0))) (seqS (ifS (truF (nameF 0)) (setS 4 (opF ixD (nameF 0) (opF modD (nameF 3) (bF lenD (consA (nameF 0) (nilA)))))) (skipS)) (seqS (setS 5 (opF modD (opF addD (nameF 4) (opF mulD (cF (.int 104729)) (nameF 3))) (cF (.int 4294967291)))) (seqS (setS 5 (opF modD (opF mulD (opF modD (opF mulD (nameF 5) (nameF 5)) (cF (.int 4294967279))) (cF (.int 48271))) (cF (.int 4294967291)))) (retS (opF modD (opF fdivD (nameF 5) (cF (.int 64))) (nameF 2))))))))
def f_law_draw_k02 : Fn := fnM 6 [false, true, false] b_law_draw_k02
def b_law_pick_k02 : FS := retS (opF ixD (nameF 2) (callF PF.f_law_draw_k02 [none, some 1, none] (consA (nameF 0) (boxA 1 (consA (bF lenD (consA (nameF 2) (nilA))) (nilA))))))
def f_law_pick_k02 : Fn := fnM 3 [false, true, false] b_law_pick_k02
def b_may_be_heard : FS := retS (gaF false (zipI (consA (nameF 1) (consA (nameF 2) (nilA)))) [3, 4] (tupG 2 (consG (nameG 3) (consG (nameG 4) (nilG)))) (yesT) (opF inD (nameF 4) (opF ixD (nameF 0) (nameF 3))))
def f_may_be_heard : Fn := fnM 5 [false, false, false] b_may_be_heard
def b_sent : FS := retS (bF tupleD (consA (lcF (enumI (consA (nameF 1) (nilA))) [3, 4] (tupG 2 (consG (nameG 3) (consG (nameG 4) (nilG)))) (truF (callF PF.f_may_be_heard [none, none, none] (consA (nameF 0) (consA (nameF 4) (consA (nameF 2) (nilA)))))) (nameF 3)) (nilA)))
def f_sent : Fn := fnM 5 [false, false, false] b_sent
def b_told : FSx := xSeq (setS 3 (callF PF.f_sent [none, none, none] (consA (nameF 0) (consA (nameF 1) (consA (nameF 2) (nilA)))))) (xIf (tF (opF neD (bF lenD (consA (nameF 3) (nilA))) (cF (.int 1)))) (jnF (consA (bF lenD (consA (nameF 3) (nilA))) (consA (cF (.str " words may be heard as these letters")) (nilA)))) (xEnd (retS (opF ixD (nameF 1) (opF ixD (nameF 3) (cF (.int 0)))))))
def f_told : FnX := fnX 4 3 b_told
def b_figure : FS := seqS (ifS (orT (tF (opF neD (bF (orL lenD lenS) (consA (nameF 0) (nilA))) (cF (.int 1)))) (tF (opF (orD notInD notInS) (nameF 0) (cF (.str "0123456789"))))) (retS (cF .none)) (skipS)) (retS (m1F indexS (cF (.str "0123456789")) (nameF 0)))
def f_figure : Fn := fnM 1 [false] b_figure
def b_read : FSx := xSeq (asgS (m1F partS (nameF 0) (cF (.str ":"))) (tupG 3 (consG (nameG 1) (consG (nameG 2) (consG (nameG 3) (nilG)))))) (xSeq (setS 4 (ifF (truX (nameF 3)) (m1F splitS (nameF 3) (cF (.str ","))) (lstF (nilA)))) (xSeq (setS 5 (tupF (consA (callF PF.f_figure [none] (consA (nameF 1) (nilA))) (consA (bF tupleD (consA (lcF (seqX (nameF 4)) [6] (nameG 6) (yesT) (bF tupleD (consA (lcF (seqX (nameF 6)) [7] (nameG 7) (yesT) (callF PF.f_figure [none] (consA (nameF 7) (nilA)))) (nilA)))) (nilA))) (nilA))))) (xIf (orT (notT (truX (nameF 2))) (notT (truX (callF PF.f_is_table [none] (consA (nameF 5) (nilA)))))) (cF (.str "the text is no table's")) (xEnd (retS (nameF 5))))))
def f_read : FnX := fnX 8 1 b_read
def b_law_names_k15 : FS := seqS (setS 1 (opF addD (repF (lstF (consA (cF (.str "NoSign")) (nilA))) (bF intD (consA (isE 0 ["NoSign"] ["NoText"]) (nilA)))) (repF (lstF (consA (cF (.str "NoText")) (nilA))) (bF intD (consA (isE 0 ["NoText"] ["NoSign"]) (nilA)))))) (seqS (ifS (notT (truF (isE 0 ["NoSign", "NoText"] []))) (retS (lstF (consA (cF (.str "other")) (nilA)))) (skipS)) (retS (nameF 1)))
def f_law_names_k15 : Fn := fnM 2 [true] b_law_names_k15
def b_law_ask_k15 : FS := seqS (setS 3 (lstF (nilA))) (seqS (setS 4 (tupF (consA (tupF (consA (cF (.int 0)) (consA (cF (.int 1)) (nilA)))) (consA (tupF (consA (cF (.int 1)) (consA (cF (.int 2)) (nilA)))) (consA (tupF (consA (cF (.int 3)) (nilA))) (nilA)))))) (seqS (tryZ 5 ["NoSign", "NoText"] (zIf (tF (opF eqD (nameF 0) (cF (.int 0)))) (zCall "NoSign" PF.f_told (consA (nameF 4) (consA (tupF (consA (tupF (consA (cF (.int 0)) (nilA))) (consA (tupF (consA (cF (.int 1)) (nilA))) (nilA)))) (consA (tupF (consA (cF (.int 1)) (nilA))) (nilA))))) (zIf (tF (opF eqD (nameF 0) (cF (.int 1)))) (zCall "NoSign" PF.f_told (consA (nameF 4) (consA (tupF (consA (tupF (consA (cF (.int 0)) (nilA))) (consA (tupF (consA (cF (.int 2)) (nilA))) (nilA)))) (consA (tupF (consA (nameF 1) (nilA))) (nilA))))) (zIf (tF (opF eqD (nameF 0) (cF (.int 2)))) (zCall "NoSign" PF.f_told (consA (nameF 4) (consA (tupF (nilA)) (consA (tupF (consA (nameF 1) (nilA))) (nilA))))) (zCall "NoText" PF.f_read (consA (nameF 2) (nilA)))))) (setS 3 (callF PF.f_law_names_k15 [some 5] (boxA 5 (nilA))))) (retS (nameF 3))))
def f_law_ask_k15 : Fn := fnM 6 [false, false, false] b_law_ask_k15
def p_law_k15_1 : FS := seqS (setS 3 (callF PF.f_law_pick_k02 [none, some 1, none] (consA (nameF 0) (boxA 1 (consA (lstF (consA (cF (.int 2)) (consA (cF (.int 4)) (consA (cF (.int 5)) (nilA))))) (nilA)))))) (seqS (setS 4 (callF PF.f_law_pick_k02 [none, some 1, none] (consA (nameF 0) (boxA 1 (consA (lstF (consA (cF (.str "")) (consA (cF (.str "x")) (consA (cF (.str "7:")) (consA (cF (.str "2:10")) (consA (cF (.str "3:01,01")) (consA (cF (.str "2:01,")) (consA (cF (.str "1:00")) (nilA))))))))) (nilA)))))) (ifS (tF (opF neD (lcF (rng1I (consA (cF (.int 4)) (nilA))) [5] (nameG 5) (yesT) (callF PF.f_law_ask_k15 [none, none, none] (consA (nameF 5) (consA (nameF 3) (consA (nameF 4) (nilA)))))) (opF addD (repF (lstF (consA (lstF (consA (cF (.str "NoSign")) (nilA))) (nilA))) (cF (.int 3))) (lstF (consA (lstF (consA (cF (.str "NoText")) (nilA))) (nilA)))))) (retS (cF (.bool false))) (skipS)))
def b_law_k15 : FS := seqS (setS 1 (lstF (nilA))) (seqS (forS (rng1I (consA (cF (.int 8)) (nilA))) (nameG 2) (PF.p_law_k15_1)) (retS (cF (.bool true))))
def f_law_k15 : Fn := fnM 6 [false] b_law_k15
end PF
namespace PT
open PySem L2 PF
abbrev DI (n : Nat) : Dt := .int (n : Int)
abbrev pr (p : Nat × Nat) : Dt := .tuple [DI p.1, DI p.2]
def plt (p q : Nat × Nat) : Bool := decide (p.1 < q.1 ∨ (p.1 = q.1 ∧ p.2 < q.2))
abbrev prs (ps : List (Nat × Nat)) : Dt := .tuple (ps.map pr)
def Ris (ps : List (Nat × Nat)) : Prop := ps.Pairwise fun a b => plt a b = true
theorem ltT_pr (p q : Nat × Nat) : ltT (pr p) (pr q) = some (.bool (plt p q)) := by
  obtain ⟨a, b⟩ := p
  obtain ⟨c, d⟩ := q
  show some (PyData.bool (if (a : Int) = c then if (b : Int) = d then false else decide ((b : Int) < d) else decide ((a : Int) < c))) = some (.bool (plt (a, b) (c, d)))
  congr 2
  unfold plt
  by_cases h : a = c
  · subst h
    rw [if_pos rfl]
    by_cases h2 : b = d
    · subst h2; simp
    · rw [if_neg (by omega)]; simp
  · rw [if_neg (by omega)]
    have : ¬ (a = c ∧ b < d) := fun z => h z.1
    simp [h]
theorem ix_tup' {ds : List Dt} {i : Nat} {d : Dt} (h : ds[i]? = some d) : ixD (.tuple ds) (.int (i : Int)) = some d := by
  show (atI ds (i : Int)) = some d
  exact atI_nat h
theorem getp {ps : List (Nat × Nat)} {i : Nat} {q : Nat × Nat} (h : ps[i]? = some q) : (ps.map pr)[i]? = some (pr q) := by rw [List.getElem?_map, h]; rfl
def hpT : FT := tF (opF ltT (nameF 2) (nameF 3))
def hpB : FS := seqS (setS 4 (opF fdivD (opF addD (nameF 2) (nameF 3)) (cF (.int 2)))) (ifS (tF (opF ltT (opF ixD (nameF 0) (nameF 4)) (nameF 1))) (setS 2 (opF addD (nameF 4) (cF (.int 1)))) (setS 3 (nameF 4)))
theorem hp_test (a b : Dt) (lo hi : Nat) (x : Option Dt) : hpT [some a, some b, some (DI lo), some (DI hi), x] = some (decide ((lo : Int) < hi), [some a, some b, some (DI lo), some (DI hi), x]) := rfl
theorem hp_body {ps : List (Nat × Nat)} {p q : Nat × Nat} {lo hi : Nat} {x : Option Dt} (h : ps[(lo + hi) / 2]? = some q) :
    hpB [some (prs ps), some (pr p), some (DI lo), some (DI hi), x] = some (.nx, if plt q p = true then [some (prs ps), some (pr p), some (DI ((lo + hi) / 2 + 1)), some (DI hi), some (DI ((lo + hi) / 2))] else [some (prs ps), some (pr p), some (DI lo), some (DI ((lo + hi) / 2)), some (DI ((lo + hi) / 2))]) := by
  have e : fdivD (.int ((lo : Int) + hi)) (.int 2) = some (DI ((lo + hi) / 2)) := by
    show some (PyData.int (((lo : Int) + hi) / 2)) = _
    rw [show ((lo : Int) + hi) / 2 = (((lo + hi) / 2 : Nat) : Int) by omega]
  have e1 : ixD (prs ps) (DI ((lo + hi) / 2)) = some (pr q) := ix_tup' (getp h)
  have e2 : addD (DI ((lo + hi) / 2)) (.int 1) = some (DI ((lo + hi) / 2 + 1)) := by
    show some (PyData.int ((((lo + hi) / 2 : Nat) : Int) + 1)) = _
    rw [show (((lo + hi) / 2 : Nat) : Int) + 1 = (((lo + hi) / 2 + 1 : Nat) : Int) by omega]
  have e3 : addD (DI lo) (DI hi) = some (.int ((lo : Int) + hi)) := rfl
  simp only [hpB, ap_seq, ap_set, ap_op, ap_name, ap_c, ap_if, ap_tF, List.getElem?_cons_zero, List.getElem?_cons_succ, Option.bind_some, e3, e, List.set_cons_zero, List.set_cons_succ, e1, ltT_pr, e2]
  cases plt q p <;> rfl
theorem hp_loop {ps : List (Nat × Nat)} {p : Nat × Nat} : ∀ (fuel lo hi : Nat) (x : Option Dt), hi - lo < fuel → lo ≤ hi → hi ≤ ps.length → (∀ i q, i < lo → ps[i]? = some q → plt q p = true) → (∀ i q, hi ≤ i → ps[i]? = some q → plt q p = false) → Ris ps →
    ∃ m x', whileS hpT hpB fuel [some (prs ps), some (pr p), some (DI lo), some (DI hi), x] = some (.nx, [some (prs ps), some (pr p), some (DI m), some (DI m), x']) ∧ m ≤ ps.length ∧ (∀ i q, i < m → ps[i]? = some q → plt q p = true) ∧ (∀ i q, m ≤ i → ps[i]? = some q → plt q p = false)
  | 0, lo, hi, x, h, _, _, _, _, _ => by omega
  | f + 1, lo, hi, x, h, h1, h2, g1, g2, hr => by
    rw [ap_while1, hp_test]
    by_cases hlt : lo < hi
    · have hd : decide ((lo : Int) < hi) = true := decide_eq_true (by omega)
      obtain ⟨q, hq⟩ : ∃ q, ps[(lo + hi) / 2]? = some q := ⟨_, List.getElem?_eq_getElem (by omega)⟩
      simp only [hd, Option.bind_some, if_true]
      rw [hp_body hq]
      have mono : ∀ i j a b, i < j → ps[i]? = some a → ps[j]? = some b → plt a b = true := fun i j a b hij ha hb => by
        obtain ⟨la, ea⟩ := List.getElem?_eq_some_iff.mp ha
        obtain ⟨lb, eb⟩ := List.getElem?_eq_some_iff.mp hb
        have := List.pairwise_iff_getElem.mp hr i j la lb hij
        rw [ea, eb] at this; exact this
      have tr : ∀ a b c : Nat × Nat, plt a b = true → plt b c = true → plt a c = true := fun a b c h1 h2 => by unfold plt at *; simp at *; omega
      cases hc : plt q p with
      | true =>
        simp only [Option.bind_some, if_true]
        refine hp_loop f ((lo + hi) / 2 + 1) hi _ (by omega) (by omega) h2 (fun i a hi' ha => ?_) g2 hr
        by_cases e : i = (lo + hi) / 2
        · subst e; rw [hq] at ha; cases ha; exact hc
        · exact tr a q p (mono i _ a q (by omega) ha hq) hc
      | false =>
        simp only [Option.bind_some, Bool.false_eq_true, if_false]
        refine hp_loop f lo ((lo + hi) / 2) _ (by omega) (by omega) (by omega) g1 (fun i a hi' ha => ?_) hr
        by_cases e : i = (lo + hi) / 2
        · subst e; rw [hq] at ha; cases ha; exact hc
        · have hqa := mono _ i q a (by omega) hq ha
          cases hap : plt a p with
          | false => rfl
          | true => rw [tr q a p hqa hap] at hc; cases hc
    · have hd : decide ((lo : Int) < hi) = false := decide_eq_false (by omega)
      have : lo = hi := by omega
      subst this
      simp only [hd, Option.bind_some, Bool.false_eq_true, if_false]
      exact ⟨lo, x, rfl, h2, g1, g2⟩
theorem eqv_pr (p q : Nat × Nat) : eqD (pr p) (pr q) = some (.bool (decide (p = q))) := by
  obtain ⟨a, b⟩ := p
  obtain ⟨c, d⟩ := q
  show (if (true = true ∧ true = true) then some (PyData.bool (PyData.eqv (pr (a, b)) (pr (c, d)))) else none) = _
  rw [if_pos ⟨rfl, rfl⟩]
  congr 2
  have key : ∀ x y : Nat, ((x : Int) == (y : Int)) = decide (x = y) := fun x y => by
    by_cases h : x = y
    · subst h; simp
    · rw [decide_eq_false h]; exact beq_false_of_ne (by omega)
  simp [PyData.eqv, PyData.eqvAll, key]
theorem has_pair_ok {ps : List (Nat × Nat)} {p : Nat × Nat} (hr : Ris ps) (hl : ps.length < 100000) : f_has_pair [prs ps, pr p] = some (.bool (decide (p ∈ ps)), []) := by
  obtain ⟨m, x', hw, hm, g1, g2⟩ := hp_loop (ps := ps) (p := p) 100000 0 ps.length none (by omega) (Nat.zero_le _) (Nat.le_refl _) (fun i q h => by omega) (fun i q h e => by
    rw [List.getElem?_eq_none (by omega)] at e; cases e) hr
  have el : lenD [prs ps] = some (DI ps.length) := by
    show some (PyData.int ((ps.map pr).length : Int)) = _
    rw [List.length_map]
  have main : ∀ b : Bool, b = decide (p ∈ ps) → (retS (andV (opF ltT (nameF 2) (bF lenD (consA (nameF 0) (nilA)))) (opF eqD (opF ixD (nameF 0) (nameF 2)) (nameF 1)))) [some (prs ps), some (pr p), some (DI m), some (DI m), x'] = some (.rt (.bool b), [some (prs ps), some (pr p), some (DI m), some (DI m), x']) := by
    rintro b rfl
    have e0 : ltT (DI m) (DI ps.length) = some (.bool (decide ((m : Int) < ps.length))) := rfl
    simp only [ap_ret, ap_andV, ap_op, ap_name, ap_bF, ap_consA, ap_nilA, List.getElem?_cons_zero, List.getElem?_cons_succ, Option.bind_some, el, e0]
    by_cases h : m < ps.length
    · have hd : decide ((m : Int) < ps.length) = true := decide_eq_true (by omega)
      have hq : ps[m]? = some ps[m] := List.getElem?_eq_getElem h
      have e1 : ixD (prs ps) (DI m) = some (pr ps[m]) := ix_tup' (getp hq)
      simp only [hd, Option.bind_some, e1, List.getElem?_cons_zero, List.getElem?_cons_succ, eqv_pr]
      have : decide (ps[m] = p) = decide (p ∈ ps) := by
        by_cases e : ps[m] = p
        · rw [decide_eq_true e, decide_eq_true (e ▸ List.getElem_mem h)]
        · rw [decide_eq_false e, decide_eq_false]
          intro hmem
          obtain ⟨i, hi, ei⟩ := List.mem_iff_getElem.mp hmem
          have hpi : ps[i]? = some p := by rw [List.getElem?_eq_getElem hi, ei]
          have irr : plt p p = false := by unfold plt; simp
          rcases Nat.lt_trichotomy i m with q | q | q
          · have := g1 i p q hpi; rw [irr] at this; cases this
          · subst q; exact e ei
          · have h1 := List.pairwise_iff_getElem.mp hr m i h hi q
            rw [ei] at h1
            rw [g2 m _ (Nat.le_refl _) hq] at h1; cases h1
      rw [this]
    · have hd : decide ((m : Int) < ps.length) = false := decide_eq_false (by omega)
      simp only [hd, Option.bind_some]
      have : decide (p ∈ ps) = false := by
        refine decide_eq_false fun hmem => ?_
        obtain ⟨i, hi, ei⟩ := List.mem_iff_getElem.mp hmem
        have := g1 i p (by omega) (by rw [List.getElem?_eq_getElem hi, ei])
        have irr : plt p p = false := by unfold plt; simp
        rw [irr] at this; cases this
      rw [this]
  have hb : b_has_pair [some (prs ps), some (pr p), none, none, none] = some (.rt (.bool (decide (p ∈ ps))), [some (prs ps), some (pr p), some (DI m), some (DI m), x']) := by
    have hs : b_has_pair = seqS (setS 2 (cF (.int 0))) (seqS (setS 3 (bF lenD (consA (nameF 0) (nilA)))) (seqS (whileS hpT hpB 100000) (retS (andV (opF ltT (nameF 2) (bF lenD (consA (nameF 0) (nilA)))) (opF eqD (opF ixD (nameF 0) (nameF 2)) (nameF 1)))))) := rfl
    rw [hs]
    simp only [ap_seq, ap_set, ap_name, ap_c, ap_bF, ap_consA, ap_nilA, List.getElem?_cons_zero, List.getElem?_cons_succ, Option.bind_some, el, List.set_cons_zero, List.set_cons_succ]
    have z : (PyData.int 0) = DI 0 := rfl
    rw [z, hw]
    simp only [Option.bind_some]
    exact main _ rfl
  show fnM 5 [false, false] b_has_pair _ = _
  rw [ap_fnM]
  show ((b_has_pair [some (prs ps), some (pr p), none, none, none]).bind _) = _
  rw [hb]
  rfl
end PT
namespace L2
open PySem
theorem lc_of {α : Type} {own : List Nat} {g : FG} {t : FT} {fe : FE} {ρ0 : Ev} (e : α → Dt) (b : α → Bool) (y : α → Dt) : ∀ (as : List α), (∀ a ∈ as, ∃ ρ1, g (e a) ρ0 = some ρ1 ∧ t ρ1 = some (b a, ρ1) ∧ (b a = true → fe ρ1 = some (y a, ρ1)) ∧ wipeE ρ1 own = ρ0) → lcL own g t fe (as.map e) ρ0 = some ((as.filter b).map y, ρ0)
  | [], _ => rfl
  | a :: as, h => by
    obtain ⟨ρ1, h1, h2, h3, h4⟩ := h a List.mem_cons_self
    have ih := lc_of e b y as fun c hc => h c (List.mem_cons_of_mem _ hc)
    show ((g (e a) ρ0).bind fun ρ1 => (t ρ1).bind fun (b, ρ2) => if b = true then (fe ρ2).bind fun (y, ρ3) => (lcL own g t fe (as.map e) (wipeE ρ3 own)).bind fun (ys, ρ4) => some (y :: ys, ρ4) else lcL own g t fe (as.map e) (wipeE ρ2 own)) = _
    rw [h1]
    simp only [Option.bind_some]
    rw [h2]
    simp only [Option.bind_some]
    cases hb : b a with
    | true =>
      rw [h3 hb]
      simp only [Option.bind_some, if_true, h4, ih, List.filter_cons, hb, List.map_cons]
    | false =>
      simp only [Bool.false_eq_true, if_false, h4, ih, List.filter_cons, hb]
theorem rngD0 (n : Nat) : rngD 0 n = (List.range n).map fun (i : Nat) => PyData.int (i : Int) := by
  unfold rngD
  refine List.map_congr_left fun i _ => ?_
  rw [Int.zero_add]
section
variable (ρ : Ev)
@[simp] theorem fill0 : fillA [] [] ρ = some [] := rfl
@[simp] theorem fill1 (cs : List (Option Nat)) (d : Dt) (ds : List Dt) : fillA (none :: cs) (d :: ds) ρ = (fillA cs ds ρ).bind fun r => some (d :: r) := rfl
@[simp] theorem fill2 (i : Nat) (cs : List (Option Nat)) (d : Dt) (ds : List Dt) : fillA (some i :: cs) (d :: ds) ρ = match ρ[i]? with | some (some d) => (fillA cs ds ρ).bind fun r => some (d :: r) | _ => none := rfl
@[simp] theorem put0 : putA [] [] ρ = some ρ := rfl
@[simp] theorem put1 (cs : List (Option Nat)) (os : List Dt) : putA (none :: cs) os ρ = putA cs os ρ := rfl
@[simp] theorem put2 (i : Nat) (cs : List (Option Nat)) (o : Dt) (os : List Dt) : putA (some i :: cs) (o :: os) ρ = putA cs os (ρ.set i (some o)) := rfl
@[simp] theorem ap_rng1 (fr : FA) : rng1I fr ρ = (fr ρ).bind fun p => match p.1 with | [.int j] => if -(2 ^ 62) ≤ j ∧ j ≤ 16777216 then some (rngD 0 j.toNat, p.2) else none | _ => none := rfl
end
theorem truD_b (b : Bool) : truD (.bool b) = some b := rfl
end L2
namespace PT
open PySem L2 PF
def mxb (ps : List (Nat × Nat)) (a b : Nat) : Bool := decide (a = b ∨ (min a b, max a b) ∈ ps)
abbrev tb (n : Nat) (ps : List (Nat × Nat)) : Dt := .tuple [DI n, prs ps]
theorem eqD_ii (a b : Nat) : eqD (DI a) (DI b) = some (.bool (decide (a = b))) := by
  show (if (true = true ∧ true = true) then some (PyData.bool (PyData.eqv (DI a) (DI b))) else none) = _
  rw [if_pos ⟨rfl, rfl⟩]
  congr 2
  by_cases h : a = b
  · subst h; simp [PyData.eqv]
  · rw [decide_eq_false h]; simp [PyData.eqv]; omega
theorem minD_ii (a b : Nat) : minD [DI a, DI b] = some (DI (min a b)) := by
  show some (PyData.int (if (b : Int) < a then (b : Int) else a)) = _
  congr 2
  by_cases h : b < a
  · rw [if_pos (by omega)]; omega
  · rw [if_neg (by omega)]; omega
theorem maxD_ii (a b : Nat) : maxD [DI a, DI b] = some (DI (max a b)) := by
  show some (PyData.int (if (b : Int) > a then (b : Int) else a)) = _
  congr 2
  by_cases h : a < b
  · rw [if_pos (by omega)]; omega
  · rw [if_neg (by omega)]; omega
theorem mixed_ok {n : Nat} {ps : List (Nat × Nat)} (hr : Ris ps) (hl : ps.length < 100000) (a b : Nat) : f_mixed [tb n ps, DI a, DI b] = some (.bool (mxb ps a b), []) := by
  show fnM 3 [false, false, false] b_mixed _ = _
  rw [ap_fnM]
  show ((b_mixed [some (tb n ps), some (DI a), some (DI b)]).bind _) = _
  have e1 : ixD (tb n ps) (.int 1) = some (prs ps) := rfl
  have hb : b_mixed [some (tb n ps), some (DI a), some (DI b)] = some (.rt (.bool (mxb ps a b)), [some (tb n ps), some (DI a), some (DI b)]) := by
    unfold b_mixed
    simp only [ap_seq, ap_if, ap_tF, ap_op, ap_name, List.getElem?_cons_zero, List.getElem?_cons_succ, Option.bind_some, eqD_ii, ap_ret, ap_c, ap_skip]
    by_cases h : a = b
    · rw [decide_eq_true h]
      simp only [if_true, Option.bind_some]
      unfold mxb
      rw [decide_eq_true (.inl h)]
    · rw [decide_eq_false h]
      simp only [Bool.false_eq_true, if_false, Option.bind_some, ap_call, ap_consA, ap_op, ap_name, ap_c, ap_tup, ap_bF, ap_nilA, List.getElem?_cons_zero, List.getElem?_cons_succ, e1, minD_ii, maxD_ii]
      show ((f_has_pair [prs ps, pr (min a b, max a b)]).bind _).bind _ = _
      rw [has_pair_ok hr hl]
      unfold mxb
      have : decide (a = b ∨ (min a b, max a b) ∈ ps) = decide ((min a b, max a b) ∈ ps) := by simp [h]
      rw [this]; rfl
  rw [hb]; rfl
def near_l (n : Nat) (ps : List (Nat × Nat)) (a : Nat) : List Nat := (List.range n).filter (mxb ps a)
abbrev nats (l : List Nat) : Dt := .tuple (l.map DI)
theorem near_ok {n : Nat} {ps : List (Nat × Nat)} (hr : Ris ps) (hl : ps.length < 100000) (hn : n ≤ 1000) (a : Nat) : f_near [tb n ps, DI a] = some (nats (near_l n ps a), []) := by
  show fnM 3 [false, false] b_near _ = _
  rw [ap_fnM]
  show ((b_near [some (tb n ps), some (DI a), none]).bind _) = _
  have e1 : ixD (tb n ps) (.int 0) = some (DI n) := rfl
  have lc : lcL [2] (nameG 2) (truF (callF f_mixed [none, none, none] (consA (nameF 0) (consA (nameF 1) (consA (nameF 2) (nilA)))))) (nameF 2) ((List.range n).map DI) [some (tb n ps), some (DI a), none] = some ((near_l n ps a).map DI, [some (tb n ps), some (DI a), none]) := by
    refine lc_of DI (mxb ps a) DI (List.range n) fun i hi => ⟨[some (tb n ps), some (DI a), some (DI i)], rfl, ?_, fun _ => rfl, rfl⟩
    simp only [ap_truF, ap_call, ap_consA, ap_name, ap_nilA, List.getElem?_cons_zero, List.getElem?_cons_succ, Option.bind_some, fill0, fill1, put0, put1, mixed_ok hr hl, truD_b]
  have hb : b_near [some (tb n ps), some (DI a), none] = some (.rt (nats (near_l n ps a)), [some (tb n ps), some (DI a), none]) := by
    unfold b_near
    simp only [ap_ret, ap_bF, ap_consA, ap_lc, ap_rng1, ap_op, ap_name, ap_c, ap_nilA, List.getElem?_cons_zero, List.getElem?_cons_succ, Option.bind_some, e1]
    rw [if_pos (by omega)]
    simp only [Option.bind_some]
    have e2 : rngD 0 ((n : Int)).toNat = (List.range n).map DI := by rw [rngD0]; simp
    rw [e2]
    have e3 : wipeE [some (tb n ps), some (DI a), none] [2] = [some (tb n ps), some (DI a), none] := rfl
    rw [e3, lc]
    rfl
  rw [hb]; rfl
def allp (n : Nat) : List (Nat × Nat) := (List.range n).flatMap fun i => (List.range' (i + 1) (n - (i + 1))).map fun j => (i, j)
theorem mem_allp {n i j : Nat} : (i, j) ∈ allp n ↔ i < j ∧ j < n := by
  unfold allp
  simp only [List.mem_flatMap, List.mem_range, List.mem_map, List.mem_range'_1, Prod.mk.injEq]
  constructor
  · rintro ⟨a, ha, b, ⟨h1, h2⟩, rfl, rfl⟩; omega
  · rintro ⟨h1, h2⟩; exact ⟨i, by omega, j, ⟨by omega, by omega⟩, rfl, rfl⟩
theorem all_pairs_ok {n : Nat} (hn : n ≤ 6) : f_all_pairs [DI n] = some (.list ((allp n).map pr), []) := by
  match n, hn with
  | 0, _ => rfl
  | 1, _ => rfl
  | 2, _ => rfl
  | 3, _ => rfl
  | 4, _ => rfl
  | 5, _ => rfl
  | 6, _ => rfl
theorem ris_allp {n : Nat} (hn : n ≤ 6) : Ris (allp n) := by
  unfold Ris
  match n, hn with
  | 0, _ => decide +kernel
  | 1, _ => decide +kernel
  | 2, _ => decide +kernel
  | 3, _ => decide +kernel
  | 4, _ => decide +kernel
  | 5, _ => decide +kernel
  | 6, _ => decide +kernel
def prel (n : Nat) (r : Nat → Nat → Bool) : List (Nat × Nat) := (allp n).filter fun p => r p.1 p.2
theorem ris_prel {n : Nat} {r : Nat → Nat → Bool} (hn : n ≤ 6) : Ris (prel n r) := (ris_allp hn).filter _
theorem len_prel {n : Nat} {r : Nat → Nat → Bool} (hn : n ≤ 6) : (prel n r).length < 100000 := by
  have h1 : (prel n r).length ≤ (allp n).length := List.length_filter_le _ _
  have h2 : (allp n).length ≤ 15 := by
    match n, hn with
    | 0, _ => decide
    | 1, _ => decide
    | 2, _ => decide
    | 3, _ => decide
    | 4, _ => decide
    | 5, _ => decide
    | 6, _ => decide
  omega
def mx (r : Nat → Nat → Bool) (a b : Nat) : Bool := decide (a = b) || r (min a b) (max a b)
theorem mxb_prel {n : Nat} {r : Nat → Nat → Bool} {a b : Nat} (ha : a < n) (hb : b < n) : mxb (prel n r) a b = mx r a b := by
  unfold mxb mx prel
  by_cases h : a = b
  · simp [h]
  · simp only [h, false_or, List.mem_filter, mem_allp, decide_false, Bool.false_or]
    rw [Bool.eq_iff_iff]
    simp only [decide_eq_true_eq]
    constructor
    · exact fun q => q.2
    · exact fun q => ⟨by omega, q⟩
theorem prel_congr {n : Nat} {r s : Nat → Nat → Bool} (h : ∀ i j, i < j → j < n → r i j = s i j) : prel n r = prel n s := by
  unfold prel
  refine List.filter_congr fun p hp => ?_
  obtain ⟨i, j⟩ := p
  obtain ⟨h1, h2⟩ := mem_allp.mp hp
  exact h i j h1 h2
theorem turned_ok {n : Nat} {r : Nat → Nat → Bool} (hn : n ≤ 6) : f_turned [tb n (prel n r)] = some (tb n (prel n fun i j => !r i j), []) := by
  show fnM 4 [false] b_turned _ = _
  rw [ap_fnM]
  show ((b_turned [some (tb n (prel n r)), none, none, none]).bind _) = _
  have e1 : ixD (tb n (prel n r)) (.int 0) = some (DI n) := rfl
  have lc : lcL [2, 3] (tupG 2 (consG (nameG 2) (consG (nameG 3) (nilG)))) (notT (truF (callF f_mixed [none, none, none] (consA (nameF 0) (consA (nameF 2) (consA (nameF 3) (nilA))))))) (tupF (consA (nameF 2) (consA (nameF 3) (nilA)))) ((allp n).map pr) [some (tb n (prel n r)), some (DI n), none, none]
      = some (((allp n).filter fun p => !mxb (prel n r) p.1 p.2).map pr, [some (tb n (prel n r)), some (DI n), none, none]) := by
    refine lc_of pr (fun p => !mxb (prel n r) p.1 p.2) pr (allp n) fun p hp => ⟨[some (tb n (prel n r)), some (DI n), some (DI p.1), some (DI p.2)], rfl, ?_, fun _ => rfl, rfl⟩
    simp only [ap_notT, ap_truF, ap_call, ap_consA, ap_name, ap_nilA, List.getElem?_cons_zero, List.getElem?_cons_succ, Option.bind_some, fill0, fill1, put0, put1, mixed_ok (ris_prel hn) (len_prel hn), truD_b]
  have e5 : ((allp n).filter fun p => !mxb (prel n r) p.1 p.2) = prel n fun i j => !r i j := by
    unfold prel
    refine List.filter_congr fun p hp => ?_
    obtain ⟨i, j⟩ := p
    obtain ⟨h1, h2⟩ := mem_allp.mp hp
    have := mxb_prel (r := r) (show i < n by omega) h2
    unfold prel at this
    simp only
    rw [this]
    unfold mx
    rw [decide_eq_false (by omega), show min i j = i by omega, show max i j = j by omega, Bool.false_or]
  rw [e5] at lc
  have hb : b_turned [some (tb n (prel n r)), none, none, none] = some (.rt (tb n (prel n fun i j => !r i j)), [some (tb n (prel n r)), some (DI n), none, none]) := by
    unfold b_turned
    simp only [ap_seq, ap_set, ap_ret, ap_tup, ap_bF, ap_consA, ap_lc, ap_seqI, ap_call, ap_op, ap_name, ap_c, ap_nilA, List.getElem?_cons_zero, List.getElem?_cons_succ, List.set_cons_zero, List.set_cons_succ, Option.bind_some, e1, fill0, fill1, put0, put1, all_pairs_ok hn]
    have e3 : wipeE [some (tb n (prel n r)), some (DI n), none, none] [2, 3] = [some (tb n (prel n r)), some (DI n), none, none] := rfl
    rw [e3, lc]
    rfl
  rw [hb]; rfl
end PT
namespace PT
open PySem L2 PF
theorem lenD_nats (l : List Nat) : lenD [nats l] = some (DI l.length) := by
  show some (PyData.int ((l.map DI).length : Int)) = _
  rw [List.length_map]
theorem ix_nats {l : List Nat} {i : Nat} (h : i < l.length) : ixD (nats l) (DI i) = some (DI (l.getD i 0)) := by
  refine ix_tup' ?_
  rw [List.getElem?_map, List.getElem?_eq_getElem h]
  simp [List.getD_eq_getElem?_getD, List.getElem?_eq_getElem h]
theorem part_ok {n : Nat} {r : Nat → Nat → Bool} {sg : List Nat} (hn : n ≤ 6) (hk : sg.length ≤ 6) (hs : ∀ x ∈ sg, x < n) : f_part [tb n (prel n r), nats sg] = some (tb sg.length (prel sg.length fun i j => mx r (sg.getD i 0) (sg.getD j 0)), []) := by
  show fnM 6 [false, false] b_part _ = _
  rw [ap_fnM]
  show ((b_part [some (tb n (prel n r)), some (nats sg), none, none, none, none]).bind _) = _
  have hsg : ∀ i, i < sg.length → sg.getD i 0 < n := fun i hi => by
    rw [List.getD_eq_getElem?_getD, List.getElem?_eq_getElem hi]; exact hs _ (List.getElem_mem hi)
  have lc : lcL [4, 5] (tupG 2 (consG (nameG 4) (consG (nameG 5) (nilG)))) (truF (callF f_mixed [none, none, none] (consA (nameF 0) (consA (opF ixD (nameF 1) (nameF 4)) (consA (opF ixD (nameF 1) (nameF 5)) (nilA)))))) (tupF (consA (nameF 4) (consA (nameF 5) (nilA)))) ((allp sg.length).map pr) [some (tb n (prel n r)), some (nats sg), some (DI sg.length), none, none, none]
      = some ((prel sg.length fun i j => mx r (sg.getD i 0) (sg.getD j 0)).map pr, [some (tb n (prel n r)), some (nats sg), some (DI sg.length), none, none, none]) := by
    refine lc_of pr (fun p => mx r (sg.getD p.1 0) (sg.getD p.2 0)) pr (allp sg.length) fun p hp => ⟨[some (tb n (prel n r)), some (nats sg), some (DI sg.length), none, some (DI p.1), some (DI p.2)], rfl, ?_, fun _ => rfl, rfl⟩
    obtain ⟨i, j⟩ := p
    obtain ⟨h1, h2⟩ := mem_allp.mp hp
    have i1 := ix_nats (l := sg) (i := i) (by omega)
    have i2 := ix_nats (l := sg) (i := j) h2
    simp only [ap_truF, ap_call, ap_consA, ap_op, ap_name, ap_nilA, List.getElem?_cons_zero, List.getElem?_cons_succ, Option.bind_some, fill0, fill1, put0, put1, i1, i2, mixed_ok (ris_prel hn) (len_prel hn), truD_b, mxb_prel (hsg i (by omega)) (hsg j h2)]
  have hb : b_part [some (tb n (prel n r)), some (nats sg), none, none, none, none] = some (.rt (tb sg.length (prel sg.length fun i j => mx r (sg.getD i 0) (sg.getD j 0))), [some (tb n (prel n r)), some (nats sg), some (DI sg.length), some (.list ((prel sg.length fun i j => mx r (sg.getD i 0) (sg.getD j 0)).map pr)), none, none]) := by
    unfold b_part
    simp only [ap_seq, ap_set, ap_ret, ap_tup, ap_bF, ap_consA, ap_lc, ap_seqI, ap_call, ap_op, ap_name, ap_c, ap_nilA, List.getElem?_cons_zero, List.getElem?_cons_succ, List.set_cons_zero, List.set_cons_succ, Option.bind_some, lenD_nats, fill0, fill1, put0, put1, all_pairs_ok hk]
    have e3 : wipeE [some (tb n (prel n r)), some (nats sg), some (DI sg.length), none, none, none] [4, 5] = [some (tb n (prel n r)), some (nats sg), some (DI sg.length), none, none, none] := rfl
    rw [e3, lc]
    rfl
  rw [hb]; rfl
def toL (p : Nat × Nat) : List Int := [(p.1 : Int), (p.2 : Int)]
theorem lex_toL (p q : Nat × Nat) : HT.lexLt (toL p) (toL q) = plt p q := by
  have h := ltT_pr p q
  have e : ltT (pr p) (pr q) = some (.bool (HT.lexLt (toL p) (toL q))) := rfl
  rw [e] at h
  injection h with h
  injection h
theorem tups_prs : ∀ ps : List (Nat × Nat), tupsD (ps.map pr) = some (ps.map toL)
  | [] => rfl
  | p :: ps => by
    show ((intsD [DI p.1, DI p.2]).bind fun ns => if ns.isEmpty then none else (tupsD (ps.map pr)).bind fun nss => some (ns :: nss)) = _
    rw [tups_prs ps]; rfl
theorem sorted_prs {qs ps : List (Nat × Nat)} (h64 : qs.length < 64) (hp : ps.Perm qs) (hr : Ris ps) : sortedD [.list (qs.map pr)] = some (ps.map pr) := by
  have hs : (ps.map toL) = sortT (qs.map toL) := by
    refine sortT_eq (hp.map toL) ?_
    rw [List.pairwise_map]
    refine hr.imp fun {a b} h => ?_
    rw [lex_toL]
    cases e : plt b a with
    | false => rfl
    | true => unfold plt at h e; simp at h e; omega
  have ht : ∀ l : List (Nat × Nat), (l.map toL).map tupD = l.map pr := fun l => by rw [List.map_map]; rfl
  show (if (qs.map pr).length < 64 then _ else none) = _
  rw [if_pos (by rw [List.length_map]; exact h64)]
  cases qs with
  | nil =>
    have : ps = [] := List.Perm.eq_nil hp
    subst this
    have e : sortI [] = [] := by unfold sortI; simp
    show some ((sortI []).map PyData.int) = _
    rw [e]; rfl
  | cons q r =>
    have e1 : intsD ((q :: r).map pr) = none := rfl
    rw [e1, tups_prs]
    show some ((sortT ((q :: r).map toL)).map tupD) = _
    rw [← hs, ht]
structure Prm (n : Nat) (nm : List Nat) : Prop where
  perm : nm.Perm (List.range n)
theorem Prm.len {n : Nat} {nm : List Nat} (h : Prm n nm) : nm.length = n := by rw [h.perm.length_eq, List.length_range]
theorem Prm.nd {n : Nat} {nm : List Nat} (h : Prm n nm) : nm.Nodup := h.perm.nodup_iff.mpr List.nodup_range
theorem Prm.mem {n : Nat} {nm : List Nat} (h : Prm n nm) {x : Nat} : x ∈ nm ↔ x < n := by rw [h.perm.mem_iff, List.mem_range]
abbrev at_ (nm : List Nat) (i : Nat) : Nat := nm.getD i 0
abbrev iv (nm : List Nat) (i : Nat) : Nat := nm.idxOf i
theorem Prm.lt {n : Nat} {nm : List Nat} (h : Prm n nm) {i : Nat} (hi : i < n) : at_ nm i < n := by
  have hi' : i < nm.length := by rw [h.len]; exact hi
  show nm.getD i 0 < n
  rw [List.getD_eq_getElem?_getD, List.getElem?_eq_getElem hi']; exact h.mem.mp (List.getElem_mem hi')
theorem Prm.ivlt {n : Nat} {nm : List Nat} (h : Prm n nm) {i : Nat} (hi : i < n) : iv nm i < n := by
  have := List.idxOf_lt_length_iff.mpr (h.mem.mpr hi); rw [h.len] at this; exact this
theorem Prm.at_iv {n : Nat} {nm : List Nat} (h : Prm n nm) {i : Nat} (hi : i < n) : at_ nm (iv nm i) = i := by
  have h1 := List.idxOf_lt_length_iff.mpr (h.mem.mpr hi)
  show nm.getD (nm.idxOf i) 0 = i
  rw [List.getD_eq_getElem?_getD, List.getElem?_eq_getElem h1]; exact List.getElem_idxOf h1
theorem Prm.iv_at {n : Nat} {nm : List Nat} (h : Prm n nm) {i : Nat} (hi : i < n) : iv nm (at_ nm i) = i := by
  have hi' : i < nm.length := by rw [h.len]; exact hi
  show nm.idxOf (nm.getD i 0) = i
  rw [List.getD_eq_getElem?_getD, List.getElem?_eq_getElem hi']; exact h.nd.idxOf_getElem i hi'
theorem ris_nodup {ps : List (Nat × Nat)} (h : Ris ps) : ps.Nodup := h.imp fun {a b} h e => by
  subst e; unfold plt at h; simp at h
theorem mx_symm (r : Nat → Nat → Bool) (a b : Nat) : mx r a b = mx r b a := by
  unfold mx
  rw [Nat.min_comm, Nat.max_comm]
  congr 1
  by_cases h : a = b
  · simp [h]
  · simp [h, Ne.symm h]
theorem renamed_ok {n : Nat} {r : Nat → Nat → Bool} {nm : List Nat} (hn : n ≤ 6) (hp : Prm n nm) : f_renamed [tb n (prel n r), nats nm] = some (tb n (prel n fun i j => mx r (iv nm i) (iv nm j)), []) := by
  show fnM 8 [false, false] b_renamed _ = _
  rw [ap_fnM]
  show ((b_renamed [some (tb n (prel n r)), some (nats nm), none, none, none, none, none, none]).bind _) = _
  have mem : ∀ p ∈ prel n r, p.1 < p.2 ∧ p.2 < n ∧ r p.1 p.2 = true := fun p h => by
    obtain ⟨i, j⟩ := p
    obtain ⟨h1, h2⟩ := List.mem_filter.mp h
    exact ⟨(mem_allp.mp h1).1, (mem_allp.mp h1).2, h2⟩
  have len15 : (prel n r).length < 64 := by
    have h1 : (prel n r).length ≤ (allp n).length := List.length_filter_le _ _
    have h2 : (allp n).length ≤ 15 := by
      match n, hn with
      | 0, _ => decide
      | 1, _ => decide
      | 2, _ => decide
      | 3, _ => decide
      | 4, _ => decide
      | 5, _ => decide
      | 6, _ => decide
    omega
  let cp : Nat × Nat → Nat × Nat := fun p => (at_ nm p.1, at_ nm p.2)
  let so : Nat × Nat → Nat × Nat := fun p => (min p.1 p.2, max p.1 p.2)
  generalize hT : tb n (prel n r) = tbl
  have lc1 : lcL [5, 6] (tupG 2 (consG (nameG 5) (consG (nameG 6) (nilG)))) (yesT) (tupF (consA (opF ixD (nameF 1) (nameF 5)) (consA (opF ixD (nameF 1) (nameF 6)) (nilA)))) ((prel n r).map pr) [some tbl, some (nats nm), some (DI n), some (prs (prel n r)), none, none, none, none]
      = some (((prel n r).map cp).map pr, [some tbl, some (nats nm), some (DI n), some (prs (prel n r)), none, none, none, none]) := by
    have := lc_of (own := [5, 6]) (g := tupG 2 (consG (nameG 5) (consG (nameG 6) (nilG)))) (t := yesT) (fe := tupF (consA (opF ixD (nameF 1) (nameF 5)) (consA (opF ixD (nameF 1) (nameF 6)) (nilA)))) (ρ0 := [some tbl, some (nats nm), some (DI n), some (prs (prel n r)), none, none, none, none]) pr (fun _ => true) (fun p => pr (cp p)) (prel n r) fun p hp' => ⟨[some tbl, some (nats nm), some (DI n), some (prs (prel n r)), none, some (DI p.1), some (DI p.2), none], rfl, rfl, fun _ => ?_, rfl⟩
    · rw [this, List.map_map, List.filter_eq_self.mpr (fun _ _ => rfl)]; rfl
    · obtain ⟨h1, h2, _⟩ := mem p hp'
      have i1 := ix_nats (l := nm) (i := p.1) (by rw [hp.len]; omega)
      have i2 := ix_nats (l := nm) (i := p.2) (by rw [hp.len]; omega)
      simp only [ap_tup, ap_consA, ap_op, ap_name, ap_nilA, List.getElem?_cons_zero, List.getElem?_cons_succ, Option.bind_some, i1, i2]
      rfl
  have lc2 : lcL [7] (nameG 7) (yesT) (tupF (consA (bF minD (consA (nameF 7) (nilA))) (consA (bF maxD (consA (nameF 7) (nilA))) (nilA)))) (((prel n r).map cp).map pr) [some tbl, some (nats nm), some (DI n), some (prs (prel n r)), some (.list (((prel n r).map cp).map pr)), none, none, none]
      = some ((((prel n r).map cp).map so).map pr, [some tbl, some (nats nm), some (DI n), some (prs (prel n r)), some (.list (((prel n r).map cp).map pr)), none, none, none]) := by
    have := lc_of (own := [7]) (g := nameG 7) (t := yesT) (fe := tupF (consA (bF minD (consA (nameF 7) (nilA))) (consA (bF maxD (consA (nameF 7) (nilA))) (nilA)))) (ρ0 := [some tbl, some (nats nm), some (DI n), some (prs (prel n r)), some (.list (((prel n r).map cp).map pr)), none, none, none]) pr (fun _ => true) (fun p => pr (so p)) ((prel n r).map cp) fun p hp' => ⟨[some tbl, some (nats nm), some (DI n), some (prs (prel n r)), some (.list (((prel n r).map cp).map pr)), none, none, some (pr p)], rfl, rfl, fun _ => ?_, rfl⟩
    · rw [this, List.filter_eq_self.mpr (fun _ _ => rfl)]
      congr 2
      rw [List.map_map (f := so) (g := pr)]; rfl
    · obtain ⟨a, b⟩ := p
      have m1 : minD [pr (a, b)] = some (DI (min a b)) := by
        show some (PyData.int (min (a : Int) b)) = _
        congr 2; omega
      have m2 : maxD [pr (a, b)] = some (DI (max a b)) := by
        show some (PyData.int (max (a : Int) b)) = _
        congr 2; omega
      simp only [ap_tup, ap_consA, ap_bF, ap_name, ap_nilA, List.getElem?_cons_zero, List.getElem?_cons_succ, Option.bind_some, m1, m2]
      rfl
  have srt : sortedD [.list ((((prel n r).map cp).map so).map pr)] = some ((prel n fun i j => mx r (iv nm i) (iv nm j)).map pr) := by
    refine sorted_prs (by rw [List.length_map, List.length_map]; exact len15) ?_ (ris_prel hn)
    refine (List.perm_ext_iff_of_nodup (ris_nodup (ris_prel hn)) ?_).mpr fun p => ?_
    · have inj : ∀ a b, a < n → b < n → at_ nm a = at_ nm b → a = b := fun a b ha hb e => by rw [← hp.iv_at ha, ← hp.iv_at hb, e]
      rw [List.map_map]
      refine List.pairwise_map.mpr (List.Pairwise.imp_of_mem (fun {p q} h1 h2 hne e => hne ?_) (ris_nodup (ris_prel (r := r) hn)))
      obtain ⟨a, b⟩ := p
      obtain ⟨c, d⟩ := q
      obtain ⟨p1, p2, _⟩ := mem _ h1
      obtain ⟨q1, q2, _⟩ := mem _ h2
      have e1 : min (at_ nm a) (at_ nm b) = min (at_ nm c) (at_ nm d) := congrArg Prod.fst e
      have e2 : max (at_ nm a) (at_ nm b) = max (at_ nm c) (at_ nm d) := congrArg Prod.snd e
      have cs : (at_ nm a = at_ nm c ∧ at_ nm b = at_ nm d) ∨ (at_ nm a = at_ nm d ∧ at_ nm b = at_ nm c) := by
        generalize at_ nm a = w at *
        generalize at_ nm b = x at *
        generalize at_ nm c = y at *
        generalize at_ nm d = z at *
        omega
      dsimp only at p1 p2 q1 q2
      rcases cs with ⟨u, v⟩ | ⟨u, v⟩
      · rw [inj a c (by omega) (by omega) u, inj b d (by omega) (by omega) v]
      · have := inj a d (by omega) (by omega) u
        have := inj b c (by omega) (by omega) v
        omega
    · obtain ⟨i, j⟩ := p
      rw [List.map_map, List.mem_map]
      constructor
      · intro h
        obtain ⟨h1, h2⟩ := List.mem_filter.mp h
        obtain ⟨h3, h4⟩ := mem_allp.mp h1
        have h2 : mx r (iv nm i) (iv nm j) = true := h2
        have ai := hp.at_iv (show i < n by omega)
        have aj := hp.at_iv h4
        have li := hp.ivlt (show i < n by omega)
        have lj := hp.ivlt h4
        have ne : iv nm i ≠ iv nm j := fun e => by rw [e, aj] at ai; omega
        refine ⟨(min (iv nm i) (iv nm j), max (iv nm i) (iv nm j)), List.mem_filter.mpr ⟨mem_allp.mpr ⟨by omega, by omega⟩, ?_⟩, ?_⟩
        · unfold mx at h2
          rw [decide_eq_false ne, Bool.false_or] at h2
          exact h2
        · show (min (at_ nm (min (iv nm i) (iv nm j))) (at_ nm (max (iv nm i) (iv nm j))), max (at_ nm (min (iv nm i) (iv nm j))) (at_ nm (max (iv nm i) (iv nm j)))) = (i, j)
          rcases Nat.lt_or_ge (iv nm i) (iv nm j) with q | q
          · rw [show min (iv nm i) (iv nm j) = iv nm i by omega, show max (iv nm i) (iv nm j) = iv nm j by omega, ai, aj]
            exact Prod.ext (by show min i j = i; omega) (by show max i j = j; omega)
          · rw [show min (iv nm i) (iv nm j) = iv nm j by omega, show max (iv nm i) (iv nm j) = iv nm i by omega, ai, aj]
            exact Prod.ext (by show min j i = i; omega) (by show max j i = j; omega)
      · rintro ⟨⟨a, b⟩, h, e⟩
        obtain ⟨p1, p2, p3⟩ := mem _ h
        dsimp only at p1 p2 p3
        have e1 : min (at_ nm a) (at_ nm b) = i := congrArg Prod.fst e
        have e2 : max (at_ nm a) (at_ nm b) = j := congrArg Prod.snd e
        have ia := hp.iv_at (show a < n by omega)
        have ib := hp.iv_at p2
        have la := hp.lt (show a < n by omega)
        have lb := hp.lt p2
        have ne : at_ nm a ≠ at_ nm b := fun z => by rw [z, ib] at ia; omega
        have rab : mx r a b = true := by
          unfold mx
          rw [show min a b = a by omega, show max a b = b by omega, p3, Bool.or_true]
        refine List.mem_filter.mpr ⟨mem_allp.mpr ⟨by omega, by omega⟩, ?_⟩
        show mx r (iv nm i) (iv nm j) = true
        rcases Nat.lt_or_ge (at_ nm a) (at_ nm b) with q | q
        · rw [show i = at_ nm a by omega, show j = at_ nm b by omega, ia, ib]; exact rab
        · rw [show i = at_ nm b by omega, show j = at_ nm a by omega, ia, ib, mx_symm]; exact rab
  have hb : ∃ ρ', b_renamed [some tbl, some (nats nm), none, none, none, none, none, none] = some (.rt (tb n (prel n fun i j => mx r (iv nm i) (iv nm j))), ρ') ∧ outsB [false, false] ρ' = some [] := by
    unfold b_renamed
    have g1 : asgS (nameF 0) (tupG 2 (consG (nameG 2) (consG (nameG 3) (nilG)))) [some tbl, some (nats nm), none, none, none, none, none, none] = some (.nx, [some tbl, some (nats nm), some (DI n), some (prs (prel n r)), none, none, none, none]) := by rw [← hT]; rfl
    rw [ap_seq, g1]
    simp only [ap_seq, ap_set, ap_ret, ap_tup, ap_bF, ap_bFl, ap_consA, ap_lc, ap_seqI, ap_name, ap_nilA, List.getElem?_cons_zero, List.getElem?_cons_succ, List.set_cons_zero, List.set_cons_succ, Option.bind_some]
    have w1 : wipeE [some tbl, some (nats nm), some (DI n), some (prs (prel n r)), none, none, none, none] [5, 6] = [some tbl, some (nats nm), some (DI n), some (prs (prel n r)), none, none, none, none] := rfl
    rw [w1, lc1]
    have w2 : backE [some tbl, some (nats nm), some (DI n), some (prs (prel n r)), none, none, none, none] [some tbl, some (nats nm), some (DI n), some (prs (prel n r)), none, none, none, none] [5, 6] = [some tbl, some (nats nm), some (DI n), some (prs (prel n r)), none, none, none, none] := rfl
    simp only [Option.bind_some, w2, List.getElem?_cons_zero, List.getElem?_cons_succ, List.set_cons_zero, List.set_cons_succ]
    have w3 : wipeE [some tbl, some (nats nm), some (DI n), some (prs (prel n r)), some (.list (((prel n r).map cp).map pr)), none, none, none] [7] = [some tbl, some (nats nm), some (DI n), some (prs (prel n r)), some (.list (((prel n r).map cp).map pr)), none, none, none] := rfl
    rw [w3, lc2]
    simp only [Option.bind_some, srt]
    exact ⟨_, rfl, rfl⟩
  obtain ⟨ρ', h1, h2⟩ := hb
  rw [h1]
  show ((some (tb n (prel n fun i j => mx r (iv nm i) (iv nm j)))).bind fun d => (outsB [false, false] ρ').bind fun os => some (d, os)) = _
  rw [h2]; rfl
end PT
namespace L2
open PySem
theorem ga_all {α : Type} {own : List Nat} {g : FG} {t : FT} {fe : FE} {ρ0 : Ev} (e : α → Dt) (b : α → Bool) : ∀ (as : List α), (∀ a ∈ as, ∃ ρ1, g (e a) ρ0 = some ρ1 ∧ t ρ1 = some (true, ρ1) ∧ fe ρ1 = some (.bool (b a), ρ1) ∧ wipeE ρ1 own = ρ0) → gaL false own g t fe (as.map e) ρ0 = some (as.all b, ρ0)
  | [], _ => rfl
  | a :: as, h => by
    obtain ⟨ρ1, h1, h2, h3, h4⟩ := h a List.mem_cons_self
    have ih := ga_all e b as fun c hc => h c (List.mem_cons_of_mem _ hc)
    show ((g (e a) ρ0).bind fun ρ1 => (t ρ1).bind fun (b, ρ2) => if b = true then (fe ρ2).bind fun (y, ρ3) => match y with
      | .bool c => if c = false then some (false, wipeE ρ3 own) else gaL false own g t fe (as.map e) (wipeE ρ3 own)
      | _ => none
      else gaL false own g t fe (as.map e) (wipeE ρ2 own)) = _
    rw [h1]
    simp only [Option.bind_some]
    rw [h2]
    simp only [Option.bind_some, if_true]
    rw [h3]
    simp only [Option.bind_some, h4, List.all_cons]
    cases b a with
    | true => simp [ih]
    | false => simp
@[simp] theorem ap_ga (st : Bool) (fi : FI) (own : List Nat) (g : FG) (t : FT) (fe : FE) (ρ : Ev) : gaF st fi own g t fe ρ = (fi ρ).bind fun p => (gaL st own g t fe p.1 (wipeE p.2 own)).bind fun q => some (.bool q.1, backE p.2 q.2 own) := rfl
@[simp] theorem ap_chain (g g' : Dt → Dt → Option Dt) (fa fb fc : FE) (ρ : Ev) : chainF g g' fa fb fc ρ = (fa ρ).bind fun x => (fb x.2).bind fun y => (g x.1 y.1).bind fun z => match z with
  | .bool true => (fc y.2).bind fun w => (g' y.1 w.1).bind fun r => some (r, w.2)
  | .bool false => some (.bool false, y.2)
  | _ => none := rfl
end L2
namespace PT
open PySem L2 PF
theorem is_whole_ok (a : Nat) : f_is_whole [DI a] = some (.bool true, []) := rfl
theorem le_0 (a : Nat) : leD (.int 0) (DI a) = some (.bool true) := by
  show some (PyData.bool (decide ((0 : Int) ≤ a))) = _
  rw [decide_eq_true (by omega)]
theorem lt_ii (a b : Nat) : ltT (DI a) (DI b) = some (.bool (decide (a < b))) := by
  show some (PyData.bool (decide ((a : Int) < b))) = _
  congr 2
  by_cases h : a < b
  · rw [decide_eq_true h, decide_eq_true (by omega)]
  · rw [decide_eq_false h, decide_eq_false (by omega)]
theorem is_sign_ok (a n : Nat) : f_is_sign [DI a, DI n] = some (.bool (decide (a < n)), []) := by
  show fnM 2 [false, false] b_is_sign _ = _
  rw [ap_fnM]
  show ((b_is_sign [some (DI a), some (DI n)]).bind _) = _
  have c3 : chainF leD ltT (cF (.int 0)) (nameF 0) (nameF 1) [some (DI a), some (DI n)] = some (.bool (decide (a < n)), [some (DI a), some (DI n)]) := by
    unfold chainF
    simp only [ap_c, ap_name, List.getElem?_cons_zero, List.getElem?_cons_succ, Option.bind_some, le_0, lt_ii]
  have hb : b_is_sign [some (DI a), some (DI n)] = some (.rt (.bool (decide (a < n))), [some (DI a), some (DI n)]) := by
    unfold b_is_sign
    simp only [ap_ret, ap_andV, ap_call, ap_consA, ap_name, ap_nilA, List.getElem?_cons_zero, List.getElem?_cons_succ, Option.bind_some, fill0, fill1, put0, put1, is_whole_ok, c3]
  rw [hb]; rfl
theorem is_pair_ok {a b n : Nat} (h1 : a < b) (h2 : b < n) : f_is_pair [pr (a, b), DI n] = some (.bool true, []) := by
  show fnM 4 [false, false] b_is_pair _ = _
  rw [ap_fnM]
  show ((b_is_pair [some (pr (a, b)), some (DI n), none, none]).bind _) = _
  have g0 : (ifS (orT (notT (truF (isF "tuple" (nameF 0)))) (tF (opF neD (bF lenD (consA (nameF 0) (nilA))) (cF (.int 2))))) (retS (cF (.bool false))) (skipS)) [some (pr (a, b)), some (DI n), none, none] = some (.nx, [some (pr (a, b)), some (DI n), none, none]) := rfl
  have g1 : (asgS (nameF 0) (tupG 2 (consG (nameG 2) (consG (nameG 3) (nilG))))) [some (pr (a, b)), some (DI n), none, none] = some (.nx, [some (pr (a, b)), some (DI n), some (DI a), some (DI b)]) := rfl
  have hb : b_is_pair [some (pr (a, b)), some (DI n), none, none] = some (.rt (.bool true), [some (pr (a, b)), some (DI n), some (DI a), some (DI b)]) := by
    unfold b_is_pair
    rw [ap_seq, g0]
    simp only [Option.bind_some]
    rw [ap_seq, g1]
    simp only [ap_ret, ap_andV, ap_op, ap_call, ap_consA, ap_name, ap_nilA, List.getElem?_cons_zero, List.getElem?_cons_succ, Option.bind_some, fill0, fill1, put0, put1, is_sign_ok, lt_ii, decide_eq_true h1, decide_eq_true h2, decide_eq_true (show a < n by omega)]
  rw [hb]; rfl
theorem rises_ok {ps : List (Nat × Nat)} (hr : Ris ps) (hl : ps.length < 100000) : f_rises [prs ps] = some (.bool true, []) := by
  show fnM 2 [false] b_rises _ = _
  rw [ap_fnM]
  show ((b_rises [some (prs ps), none]).bind _) = _
  have el : lenD [prs ps] = some (DI ps.length) := by
    show some (PyData.int ((ps.map pr).length : Int)) = _
    rw [List.length_map]
  have es : subD (DI ps.length) (.int 1) = some (.int ((ps.length : Int) - 1)) := rfl
  have ga : gaL false [1] (nameG 1) yesT (opF ltT (opF ixD (nameF 0) (nameF 1)) (opF ixD (nameF 0) (opF addD (nameF 1) (cF (.int 1))))) ((List.range (ps.length - 1)).map DI) [some (prs ps), none] = some ((List.range (ps.length - 1)).all (fun _ => true), [some (prs ps), none]) := by
    refine ga_all DI (fun _ => true) (List.range (ps.length - 1)) fun i hi => ⟨[some (prs ps), some (DI i)], rfl, rfl, ?_, rfl⟩
    have hi := List.mem_range.mp hi
    have q1 : ps[i]? = some ps[i] := List.getElem?_eq_getElem (by omega)
    have q2 : ps[i + 1]? = some ps[i + 1] := List.getElem?_eq_getElem (by omega)
    have e1 : ixD (prs ps) (DI i) = some (pr ps[i]) := ix_tup' (getp q1)
    have e2 : ixD (prs ps) (DI (i + 1)) = some (pr ps[i + 1]) := ix_tup' (getp q2)
    have e3 : addD (DI i) (.int 1) = some (DI (i + 1)) := by
      show some (PyData.int ((i : Int) + 1)) = _
      congr 2
    have e4 : plt ps[i] ps[i + 1] = true := List.pairwise_iff_getElem.mp hr i (i + 1) (by omega) (by omega) (by omega)
    simp only [ap_op, ap_name, ap_c, List.getElem?_cons_zero, List.getElem?_cons_succ, Option.bind_some, e1, e3, e2, ltT_pr, e4]
  have hb : b_rises [some (prs ps), none] = some (.rt (.bool true), [some (prs ps), none]) := by
    unfold b_rises
    simp only [ap_ret, ap_ga, ap_rng1, ap_consA, ap_op, ap_bF, ap_name, ap_c, ap_nilA, List.getElem?_cons_zero, Option.bind_some, el, es]
    rw [if_pos (by omega)]
    simp only [Option.bind_some]
    have e2 : rngD 0 ((ps.length : Int) - 1).toNat = (List.range (ps.length - 1)).map DI := by
      rw [rngD0]
      have : ((ps.length : Int) - 1).toNat = ps.length - 1 := by omega
      rw [this]
    rw [e2]
    have e3 : wipeE [some (prs ps), none] [1] = [some (prs ps), none] := rfl
    rw [e3, ga]
    have : (List.range (ps.length - 1)).all (fun _ => true) = true := by simp
    rw [this]; rfl
  rw [hb]; rfl
theorem is_table_ok {n : Nat} {r : Nat → Nat → Bool} (h1 : 1 ≤ n) (hn : n ≤ 6) : f_is_table [tb n (prel n r)] = some (.bool true, []) := by
  show fnM 4 [false] b_is_table _ = _
  rw [ap_fnM]
  show ((b_is_table [some (tb n (prel n r)), none, none, none]).bind _) = _
  generalize hT : tb n (prel n r) = tbl
  have g0 : (ifS (orT (notT (truF (isF "tuple" (nameF 0)))) (tF (opF neD (bF lenD (consA (nameF 0) (nilA))) (cF (.int 2))))) (retS (cF (.bool false))) (skipS)) [some tbl, none, none, none] = some (.nx, [some tbl, none, none, none]) := by rw [← hT]; rfl
  have g1 : (asgS (nameF 0) (tupG 2 (consG (nameG 1) (consG (nameG 2) (nilG))))) [some tbl, none, none, none] = some (.nx, [some tbl, some (DI n), some (prs (prel n r)), none]) := by rw [← hT]; rfl
  have l1 : leD (.int 1) (DI n) = some (.bool true) := by
    show some (PyData.bool (decide ((1 : Int) ≤ n))) = _
    rw [decide_eq_true (by omega)]
  have l2 : leD (DI n) (.int 6) = some (.bool true) := by
    show some (PyData.bool (decide ((n : Int) ≤ 6))) = _
    rw [decide_eq_true (by omega)]
  have t1 : isinstD "tuple" (prs (prel n r)) = true := rfl
  have g2 : (ifS (orT (notT (truF (callF f_is_whole [none] (consA (nameF 1) (nilA))))) (orT (notT (tF (chainF leD leD (cF (.int 1)) (nameF 1) (cF (.int 6))))) (notT (truF (isF "tuple" (nameF 2)))))) (retS (cF (.bool false))) (skipS)) [some tbl, some (DI n), some (prs (prel n r)), none] = some (.nx, [some tbl, some (DI n), some (prs (prel n r)), none]) := by
    simp only [ap_if, ap_orT, ap_notT, ap_truF, ap_tF, ap_chain, ap_isF, ap_call, ap_consA, ap_name, ap_nilA, ap_c, List.getElem?_cons_zero, List.getElem?_cons_succ, Option.bind_some, fill0, fill1, put0, put1, is_whole_ok, truD_b, l1, l2, t1, Bool.not_true, Bool.false_eq_true, if_false, ap_skip]
  have ga : gaL false [3] (nameG 3) yesT (callF f_is_pair [none, none] (consA (nameF 3) (consA (nameF 1) (nilA)))) ((prel n r).map pr) [some tbl, some (DI n), some (prs (prel n r)), none] = some ((prel n r).all (fun _ => true), [some tbl, some (DI n), some (prs (prel n r)), none]) := by
    refine ga_all pr (fun _ => true) (prel n r) fun p hp => ⟨[some tbl, some (DI n), some (prs (prel n r)), some (pr p)], rfl, rfl, ?_, rfl⟩
    obtain ⟨i, j⟩ := p
    obtain ⟨q1, q2⟩ := mem_allp.mp (List.mem_filter.mp hp).1
    simp only [ap_call, ap_consA, ap_name, ap_nilA, List.getElem?_cons_zero, List.getElem?_cons_succ, Option.bind_some, fill0, fill1, put0, put1, is_pair_ok q1 q2]
  have hb : b_is_table [some tbl, none, none, none] = some (.rt (.bool true), [some tbl, some (DI n), some (prs (prel n r)), none]) := by
    unfold b_is_table
    rw [ap_seq, g0]
    simp only [Option.bind_some]
    rw [ap_seq, g1]
    simp only [Option.bind_some]
    rw [ap_seq, g2]
    simp only [Option.bind_some]
    simp only [ap_ret, ap_andV, ap_ga, ap_seqI, ap_name, List.getElem?_cons_zero, List.getElem?_cons_succ, Option.bind_some]
    have e3 : wipeE [some tbl, some (DI n), some (prs (prel n r)), none] [3] = [some tbl, some (DI n), some (prs (prel n r)), none] := rfl
    have e4 : backE [some tbl, some (DI n), some (prs (prel n r)), none] [some tbl, some (DI n), some (prs (prel n r)), none] [3] = [some tbl, some (DI n), some (prs (prel n r)), none] := rfl
    rw [e3, ga]
    have : (prel n r).all (fun _ => true) = true := by simp
    simp only [this, Option.bind_some, e4, ap_call, ap_consA, ap_name, ap_nilA, List.getElem?_cons_zero, List.getElem?_cons_succ, fill0, fill1, put0, put1, rises_ok (ris_prel hn) (len_prel hn)]
  rw [hb]; rfl
end PT
namespace L2
open PySem
theorem boxL_at {i : Nat} {ρ : Ev} {ds : List Dt} (h : ρ[i]? = some (some (.list ds))) : boxL i ρ = some ds := by unfold boxL; rw [h]
@[simp] theorem ap_lenB (i : Nat) (ρ : Ev) : lenB i ρ = (boxL i ρ).bind fun ds => some (.int ds.length, ρ) := rfl
@[simp] theorem ap_tupB (i : Nat) (ρ : Ev) : tupB i ρ = (boxL i ρ).bind fun ds => some (.tuple ds, ρ) := rfl
@[simp] theorem ap_truB (i : Nat) (ρ : Ev) : truB i ρ = (boxL i ρ).bind fun ds => some (!ds.isEmpty, ρ) := rfl
@[simp] theorem ap_appB (i : Nat) (f : FE) (ρ : Ev) : appB i f ρ = (boxL i ρ).bind fun _ => (f ρ).bind fun p => (boxL i p.2).bind fun ds => if ds.length < 16777216 then some (.nx, p.2.set i (some (.list (ds ++ [p.1])))) else none := rfl
@[simp] theorem ap_boxA (i : Nat) (r : FA) (ρ : Ev) : boxA i r ρ = match ρ[i]? with | some (some _) => (r ρ).bind fun p => some (.none :: p.1, p.2) | _ => none := by
  unfold boxA
  cases ρ[i]? with
  | none => rfl
  | some x => cases x <;> rfl
theorem mod_ok {i j : Int} (h : 0 < j) : modD (.int i) (.int j) = some (.int (i % j)) := if_pos h
theorem mul_ok {i j : Int} (h : -(2 ^ 64) < i ∧ i < 2 ^ 64) : mulD (.int i) (.int j) = some (.int (i * j)) := if_pos (.inl h)
end L2
namespace PT
open PySem L2 PF
abbrev scr (ns : List Int) : Dt := .list (ns.map PyData.int)
theorem draw_ok (ns : List Int) (town : List Dt) (m : Nat) (hm : 0 < m) (ht : town.length < 1000000) : ∃ r, r < m ∧ f_law_draw_k16 [scr ns, .list town, DI m] = some (DI r, [.list (town ++ [.int 0])]) := by
  have s1 : appB 1 (cF (.int 0)) [some (scr ns), some (.list town), some (DI m), none, none, none, none] = some (.nx, [some (scr ns), some (.list (town ++ [.int 0])), some (DI m), none, none, none, none]) := by
    simp only [ap_appB, ap_c, boxL_at (i := 1) (ρ := [some (scr ns), some (.list town), some (DI m), none, none, none, none]) rfl, Option.bind_some, List.set_cons_zero, List.set_cons_succ]
    rw [if_pos (by omega)]
  generalize hW : town ++ [PyData.int 0] = tw at s1 ⊢
  have hwl : tw.length = town.length + 1 := by rw [← hW]; simp
  have s2 : setS 3 (lenB 1) [some (scr ns), some (.list tw), some (DI m), none, none, none, none] = some (.nx, [some (scr ns), some (.list tw), some (DI m), some (DI tw.length), none, none, none]) := rfl
  have s3 : setS 4 (cF (.int 0)) [some (scr ns), some (.list tw), some (DI m), some (DI tw.length), none, none, none] = some (.nx, [some (scr ns), some (.list tw), some (DI m), some (DI tw.length), some (.int 0), none, none]) := rfl
  have s4 : ∃ c : Int, ifS (truF (nameF 0)) (setS 4 (opF ixD (nameF 0) (opF modD (nameF 3) (bF lenD (consA (nameF 0) (nilA)))))) (skipS) [some (scr ns), some (.list tw), some (DI m), some (DI tw.length), some (.int 0), none, none] = some (.nx, [some (scr ns), some (.list tw), some (DI m), some (DI tw.length), some (.int c), none, none]) := by
    cases ns with
    | nil => exact ⟨0, rfl⟩
    | cons x xs =>
      have el : lenD [scr (x :: xs)] = some (DI (x :: xs).length) := by
        show some (PyData.int (((x :: xs).map PyData.int).length : Int)) = _
        rw [List.length_map]
      have em : modD (DI tw.length) (DI (x :: xs).length) = some (DI (tw.length % (x :: xs).length)) := by
        rw [mod_ok (by simp)]
        congr 2
      have hlt : tw.length % (x :: xs).length < (x :: xs).length := Nat.mod_lt _ (by simp)
      have ei : ixD (scr (x :: xs)) (DI (tw.length % (x :: xs).length)) = some (.int ((x :: xs)[tw.length % (x :: xs).length])) := by
        show atI ((x :: xs).map PyData.int) ((tw.length % (x :: xs).length : Nat) : Int) = _
        refine atI_nat ?_
        rw [List.getElem?_map, List.getElem?_eq_getElem hlt]; rfl
      refine ⟨(x :: xs)[tw.length % (x :: xs).length], ?_⟩
      have et : truD (scr (x :: xs)) = some true := rfl
      simp only [ap_if, ap_truF, ap_name, ap_set, ap_op, ap_bF, ap_consA, ap_nilA, List.getElem?_cons_zero, List.getElem?_cons_succ, Option.bind_some, et, if_true, el, em, ei, List.set_cons_zero, List.set_cons_succ]
  obtain ⟨c, s4⟩ := s4
  obtain ⟨v5, hv5⟩ : ∃ v, v = (c + 104729 * (tw.length : Int)) % 4294967291 := ⟨_, rfl⟩
  have b5 : 0 ≤ v5 ∧ v5 < 4294967291 := by subst hv5; omega
  have s5 : setS 5 (opF modD (opF addD (nameF 4) (opF mulD (cF (.int 104729)) (nameF 3))) (cF (.int 4294967291))) [some (scr ns), some (.list tw), some (DI m), some (DI tw.length), some (.int c), none, none] = some (.nx, [some (scr ns), some (.list tw), some (DI m), some (DI tw.length), some (.int c), some (.int v5), none]) := by
    have e1 : mulD (.int 104729) (DI tw.length) = some (.int (104729 * (tw.length : Int))) := mul_ok (by decide)
    have e2 : addD (.int c) (.int (104729 * (tw.length : Int))) = some (.int (c + 104729 * (tw.length : Int))) := rfl
    simp only [ap_set, ap_op, ap_name, ap_c, List.getElem?_cons_zero, List.getElem?_cons_succ, Option.bind_some, e1, e2, mod_ok (show (0 : Int) < 4294967291 by decide), List.set_cons_zero, List.set_cons_succ, ← hv5]
  obtain ⟨v6, hv6⟩ : ∃ v, v = (v5 * v5 % 4294967279 * 48271) % 4294967291 := ⟨_, rfl⟩
  have b6 : 0 ≤ v6 ∧ v6 < 4294967291 := by subst hv6; omega
  have m5 : 0 ≤ v5 * v5 % 4294967279 ∧ v5 * v5 % 4294967279 < 4294967279 := ⟨Int.emod_nonneg _ (by decide), Int.emod_lt_of_pos _ (by decide)⟩
  have s6 : setS 5 (opF modD (opF mulD (opF modD (opF mulD (nameF 5) (nameF 5)) (cF (.int 4294967279))) (cF (.int 48271))) (cF (.int 4294967291))) [some (scr ns), some (.list tw), some (DI m), some (DI tw.length), some (.int c), some (.int v5), none] = some (.nx, [some (scr ns), some (.list tw), some (DI m), some (DI tw.length), some (.int c), some (.int v6), none]) := by
    have e1 : mulD (.int v5) (.int v5) = some (.int (v5 * v5)) := mul_ok (by omega)
    have e2 : mulD (.int (v5 * v5 % 4294967279)) (.int 48271) = some (.int (v5 * v5 % 4294967279 * 48271)) := mul_ok (by omega)
    simp only [ap_set, ap_op, ap_name, ap_c, List.getElem?_cons_zero, List.getElem?_cons_succ, Option.bind_some, e1, mod_ok (show (0 : Int) < 4294967279 by decide), e2, mod_ok (show (0 : Int) < 4294967291 by decide), List.set_cons_zero, List.set_cons_succ, ← hv6]
  obtain ⟨v7, hv7⟩ : ∃ v, v = (v6 * v6 % 4294967279 * 69621) % 4294967291 := ⟨_, rfl⟩
  have b7 : 0 ≤ v7 ∧ v7 < 4294967291 := by subst hv7; omega
  have m6 : 0 ≤ v6 * v6 % 4294967279 ∧ v6 * v6 % 4294967279 < 4294967279 := ⟨Int.emod_nonneg _ (by decide), Int.emod_lt_of_pos _ (by decide)⟩
  have s7 : setS 6 (opF modD (opF mulD (opF modD (opF mulD (nameF 5) (nameF 5)) (cF (.int 4294967279))) (cF (.int 69621))) (cF (.int 4294967291))) [some (scr ns), some (.list tw), some (DI m), some (DI tw.length), some (.int c), some (.int v6), none] = some (.nx, [some (scr ns), some (.list tw), some (DI m), some (DI tw.length), some (.int c), some (.int v6), some (.int v7)]) := by
    have e1 : mulD (.int v6) (.int v6) = some (.int (v6 * v6)) := mul_ok (by omega)
    have e2 : mulD (.int (v6 * v6 % 4294967279)) (.int 69621) = some (.int (v6 * v6 % 4294967279 * 69621)) := mul_ok (by omega)
    simp only [ap_set, ap_op, ap_name, ap_c, List.getElem?_cons_zero, List.getElem?_cons_succ, Option.bind_some, e1, mod_ok (show (0 : Int) < 4294967279 by decide), e2, mod_ok (show (0 : Int) < 4294967291 by decide), List.set_cons_zero, List.set_cons_succ, ← hv7]
  obtain ⟨r, hr⟩ : ∃ r : Nat, (r : Int) = (v6 / 64 * 67108864 + v7 / 64) % (m : Int) := ⟨((v6 / 64 * 67108864 + v7 / 64) % (m : Int)).toNat, Int.toNat_of_nonneg (Int.emod_nonneg _ (by omega))⟩
  have hrm : r < m := by
    have := Int.emod_lt_of_pos (v6 / 64 * 67108864 + v7 / 64) (show (0 : Int) < m by omega)
    omega
  have s8 : retS (opF modD (opF addD (opF mulD (opF fdivD (nameF 5) (cF (.int 64))) (cF (.int 67108864))) (opF fdivD (nameF 6) (cF (.int 64)))) (nameF 2)) [some (scr ns), some (.list tw), some (DI m), some (DI tw.length), some (.int c), some (.int v6), some (.int v7)] = some (.rt (DI r), [some (scr ns), some (.list tw), some (DI m), some (DI tw.length), some (.int c), some (.int v6), some (.int v7)]) := by
    have e1 : fdivD (.int v6) (.int 64) = some (.int (v6 / 64)) := rfl
    have e2 : fdivD (.int v7) (.int 64) = some (.int (v7 / 64)) := rfl
    have e3 : mulD (.int (v6 / 64)) (.int 67108864) = some (.int (v6 / 64 * 67108864)) := mul_ok (by omega)
    have e4 : addD (.int (v6 / 64 * 67108864)) (.int (v7 / 64)) = some (.int (v6 / 64 * 67108864 + v7 / 64)) := rfl
    simp only [ap_ret, ap_op, ap_name, ap_c, List.getElem?_cons_zero, List.getElem?_cons_succ, Option.bind_some, e1, e2, e3, e4, mod_ok (show (0 : Int) < m by omega), ← hr]
  refine ⟨r, hrm, ?_⟩
  show fnM 7 [false, true, false] b_law_draw_k16 _ = _
  rw [ap_fnM]
  show ((b_law_draw_k16 [some (scr ns), some (.list town), some (DI m), none, none, none, none]).bind _) = _
  have hb : b_law_draw_k16 [some (scr ns), some (.list town), some (DI m), none, none, none, none] = some (.rt (DI r), [some (scr ns), some (.list tw), some (DI m), some (DI tw.length), some (.int c), some (.int v6), some (.int v7)]) := by
    unfold b_law_draw_k16
    rw [ap_seq, s1]; simp only [Option.bind_some]
    rw [ap_seq, s2]; simp only [Option.bind_some]
    rw [ap_seq, s3]; simp only [Option.bind_some]
    rw [ap_seq, s4]; simp only [Option.bind_some]
    rw [ap_seq, s5]; simp only [Option.bind_some]
    rw [ap_seq, s6]; simp only [Option.bind_some]
    rw [ap_seq, s7]; simp only [Option.bind_some]
    exact s8
  rw [hb]; rfl
end PT
namespace L2
open PySem
@[simp] theorem ap_rng2 (fr : FA) (ρ : Ev) : rng2I fr ρ = (fr ρ).bind fun p => match p.1 with | [.int i, .int j] => if -(2 ^ 62) ≤ i ∧ i < 2 ^ 62 ∧ -(2 ^ 62) ≤ j ∧ j < 2 ^ 62 ∧ j - i ≤ 16777216 then some (rngD i (j - i).toNat, p.2) else none | _ => none := rfl
theorem loop_nx {g : FG} {f : FS} {d : Dt} {ds : List Dt} {ρ r r' : Ev} (h1 : g d ρ = some r) (h2 : f r = some (.nx, r')) : loopS g f (d :: ds) ρ = loopS g f ds r' := by
  rw [ap_loop1, h1]
  simp only [Option.bind_some, h2]
end L2
namespace PT
open PySem L2 PF
theorem draw_call {ρ : Ev} {fe : FE} {ns : List Int} {town : List Dt} {m : Nat} (h0 : ρ[0]? = some (some (scr ns))) (h1 : ρ[1]? = some (some (.list town))) (hfe : fe ρ = some (DI m, ρ)) (hm : 0 < m) (ht : town.length < 1000000) :
    ∃ r, r < m ∧ callF f_law_draw_k16 [none, some 1, none] (consA (nameF 0) (boxA 1 (consA fe nilA))) ρ = some (DI r, ρ.set 1 (some (.list (town ++ [.int 0])))) := by
  obtain ⟨r, hr, e⟩ := draw_ok ns town m hm ht
  refine ⟨r, hr, ?_⟩
  simp only [ap_call, ap_consA, ap_boxA, ap_name, h0, h1, hfe, ap_nilA, Option.bind_some, fill0, fill1, fill2, e, put0, put1, put2]
theorem pick_ok (ns : List Int) (town : List Dt) (xs : List Nat) (hx : xs ≠ []) (ht : town.length < 1000000) : ∃ x ∈ xs, f_law_pick_k16 [scr ns, .list town, .list (xs.map DI)] = some (DI x, [.list (town ++ [.int 0])]) := by
  have el : lenD [.list (xs.map DI)] = some (DI xs.length) := by
    show some (PyData.int ((xs.map DI).length : Int)) = _
    rw [List.length_map]
  obtain ⟨r, hr, e⟩ := draw_call (ρ := [some (scr ns), some (.list town), some (.list (xs.map DI))]) (fe := bF lenD (consA (nameF 2) (nilA))) (ns := ns) (town := town) (m := xs.length) rfl rfl (by
    simp only [ap_bF, ap_consA, ap_name, ap_nilA, List.getElem?_cons_zero, List.getElem?_cons_succ, Option.bind_some, el]) (List.length_pos_iff.mpr hx) ht
  refine ⟨xs[r], List.getElem_mem hr, ?_⟩
  show fnM 3 [false, true, false] b_law_pick_k16 _ = _
  rw [ap_fnM]
  show ((b_law_pick_k16 [some (scr ns), some (.list town), some (.list (xs.map DI))]).bind _) = _
  have ei : ixD (.list (xs.map DI)) (DI r) = some (DI xs[r]) := by
    show atI (xs.map DI) (r : Int) = _
    refine atI_nat ?_
    rw [List.getElem?_map, List.getElem?_eq_getElem hr]; rfl
  unfold b_law_pick_k16
  rw [ap_ret, ap_op, show nameF 2 [some (scr ns), some (.list town), some (.list (xs.map DI))] = some (.list (xs.map DI), [some (scr ns), some (.list town), some (.list (xs.map DI))]) from rfl]
  simp only [Option.bind_some, e, ei, List.set_cons_zero, List.set_cons_succ]
  rfl
def tbBody : FS := ifS (tF (opF ltT (callF f_law_draw_k16 [none, some 1, none] (consA (nameF 0) (boxA 1 (consA (cF (.int 4)) (nilA))))) (nameF 5))) (setS 4 (opF addD (nameF 4) (tupF (consA (tupF (consA (nameF 6) (consA (nameF 7) (nilA)))) (nilA))))) (skipS)
theorem add_prs {ps qs : List (Nat × Nat)} (h : ps.length + qs.length ≤ 16777216) : addD (prs ps) (prs qs) = some (prs (ps ++ qs)) := by
  show (if (ps.map pr).length + (qs.map pr).length ≤ 16777216 then some (PyData.tuple (ps.map pr ++ qs.map pr)) else none) = _
  rw [if_pos (by rw [List.length_map, List.length_map]; exact h), ← List.map_append]
theorem tb_inner {ns : List Int} {hi n o i : Nat} : ∀ (js : List Nat) (ps : List (Nat × Nat)) (town : List Dt) (x : Option Dt), town.length + js.length < 1000000 → ps.length + js.length < 1000000 →
    ∃ qs town' x', loopS (nameG 7) tbBody (js.map DI) [some (scr ns), some (.list town), some (DI hi), some (DI n), some (prs ps), some (DI o), some (DI i), x] = some (.nx, [some (scr ns), some (.list town'), some (DI hi), some (DI n), some (prs (ps ++ qs)), some (DI o), some (DI i), x']) ∧ qs.Sublist (js.map fun j => (i, j)) ∧ town'.length = town.length + js.length
  | [], ps, town, x, _, _ => ⟨[], town, x, by simp, by simp, by simp⟩
  | j :: js, ps, town, x, h1, h2 => by
    rw [List.length_cons] at h1 h2
    obtain ⟨r, hr, e⟩ := draw_call (ρ := [some (scr ns), some (.list town), some (DI hi), some (DI n), some (prs ps), some (DI o), some (DI i), some (DI j)]) (fe := cF (.int 4)) (ns := ns) (town := town) (m := 4) rfl rfl rfl (by decide) (by omega)
    have hw : (town ++ [PyData.int 0]).length = town.length + 1 := by simp
    generalize town ++ [PyData.int 0] = tw at e hw
    have body : ∃ qs, tbBody [some (scr ns), some (.list town), some (DI hi), some (DI n), some (prs ps), some (DI o), some (DI i), some (DI j)] = some (.nx, [some (scr ns), some (.list tw), some (DI hi), some (DI n), some (prs (ps ++ qs)), some (DI o), some (DI i), some (DI j)]) ∧ qs.Sublist [(i, j)] := by
      unfold tbBody
      rw [ap_if, ap_tF, ap_op, e]
      simp only [ap_name, List.getElem?_cons_zero, List.getElem?_cons_succ, List.set_cons_zero, List.set_cons_succ, Option.bind_some, lt_ii]
      by_cases h : r < o
      · refine ⟨[(i, j)], ?_, List.Sublist.refl _⟩
        rw [decide_eq_true h]
        have ea : addD (prs ps) (.tuple [pr (i, j)]) = some (prs (ps ++ [(i, j)])) := add_prs (qs := [(i, j)]) (by simp; omega)
        simp only [if_true, ap_set, ap_op, ap_tup, ap_consA, ap_name, ap_nilA, List.getElem?_cons_zero, List.getElem?_cons_succ, List.set_cons_zero, List.set_cons_succ, Option.bind_some]
        rw [show PyData.tuple [PyData.tuple [DI i, DI j]] = PyData.tuple [pr (i, j)] from rfl, ea]
        rfl
      · refine ⟨[], ?_, List.nil_sublist _⟩
        rw [decide_eq_false h]
        simp
    obtain ⟨qs, e2, sl⟩ := body
    have lq : qs.length ≤ 1 := by have := sl.length_le; simpa using this
    obtain ⟨qs', town', x', e3, sl', hl⟩ := tb_inner (hi := hi) (n := n) (o := o) (i := i) (ns := ns) js (ps ++ qs) tw (some (DI j)) (by omega) (by rw [List.length_append]; omega)
    refine ⟨qs ++ qs', town', x', ?_, ?_, by rw [hl, hw, List.length_cons]; omega⟩
    · have e0 : nameG 7 (DI j) [some (scr ns), some (.list town), some (DI hi), some (DI n), some (prs ps), some (DI o), some (DI i), x] = some [some (scr ns), some (.list town), some (DI hi), some (DI n), some (prs ps), some (DI o), some (DI i), some (DI j)] := rfl
      rw [List.map_cons, loop_nx e0 e2, e3, List.append_assoc]
    · exact sl.append sl'
def tbRow : FS := forS (rng2I (consA (opF addD (nameF 6) (cF (.int 1))) (consA (nameF 3) (nilA)))) (nameG 7) tbBody
theorem rng_nat (a k : Nat) : rngD (a : Int) k = (List.range' a k).map DI := by
  unfold rngD
  rw [List.range'_eq_map_range, List.map_map]
  refine List.map_congr_left fun i _ => ?_
  show PyData.int ((a : Int) + (i : Int)) = PyData.int ((a + i : Nat) : Int)
  congr 1
theorem rng2_ok {fr : FA} {ρ : Ev} {a b : Nat} (h : fr ρ = some ([DI a, DI b], ρ)) (ha : a ≤ 1000) (hb : b ≤ 1000) : rng2I fr ρ = some ((List.range' a (b - a)).map DI, ρ) := by
  have e : ((b : Int) - (a : Int)).toNat = b - a := by omega
  have key : ∀ i j : Int, -(2 ^ 62) ≤ i ∧ i < 2 ^ 62 ∧ -(2 ^ 62) ≤ j ∧ j < 2 ^ 62 ∧ j - i ≤ 16777216 → fr ρ = some ([.int i, .int j], ρ) → rng2I fr ρ = some (rngD i (j - i).toNat, ρ) := fun i j hc hf => by
    rw [ap_rng2, hf]
    exact if_pos hc
  have k := key (a : Int) (b : Int) ⟨by omega, by omega, by omega, by omega, by omega⟩ h
  rw [k, rng_nat, e]
theorem row_ok {ns : List Int} {hi n o i : Nat} {ps ps' : List (Nat × Nat)} {town tw : List Dt} {y y' : Option Dt} (hn : n ≤ 6) (hi' : i < n)
    (e2 : loopS (nameG 7) tbBody ((List.range' (i + 1) (n - (i + 1))).map DI) [some (scr ns), some (.list town), some (DI hi), some (DI n), some (prs ps), some (DI o), some (DI i), y] = some (.nx, [some (scr ns), some (.list tw), some (DI hi), some (DI n), some (prs ps'), some (DI o), some (DI i), y'])) :
    tbRow [some (scr ns), some (.list town), some (DI hi), some (DI n), some (prs ps), some (DI o), some (DI i), y] = some (.nx, [some (scr ns), some (.list tw), some (DI hi), some (DI n), some (prs ps'), some (DI o), some (DI i), y']) := by
  have ea : addD (DI i) (.int 1) = some (DI (i + 1)) := rfl
  have hr2 := rng2_ok (fr := consA (opF addD (nameF 6) (cF (.int 1))) (consA (nameF 3) (nilA))) (ρ := [some (scr ns), some (.list town), some (DI hi), some (DI n), some (prs ps), some (DI o), some (DI i), y]) (a := i + 1) (b := n) (by
    simp only [ap_consA, ap_op, ap_name, ap_c, ap_nilA, List.getElem?_cons_zero, List.getElem?_cons_succ, Option.bind_some, ea]) (by omega) (by omega)
  unfold tbRow
  rw [ap_for, hr2]
  simp only [Option.bind_some]
  rw [e2]
theorem tb_step {ns : List Int} {hi n o i : Nat} (hn : n ≤ 6) (ps : List (Nat × Nat)) (town : List Dt) (y : Option Dt) (h1 : town.length ≤ 1000) (h2 : ps.length ≤ 1000) (hi' : i < n) :
    ∃ qs tw y', tbRow [some (scr ns), some (.list town), some (DI hi), some (DI n), some (prs ps), some (DI o), some (DI i), y] = some (.nx, [some (scr ns), some (.list tw), some (DI hi), some (DI n), some (prs (ps ++ qs)), some (DI o), some (DI i), y']) ∧ qs.Sublist ((List.range' (i + 1) (n - (i + 1))).map fun j => (i, j)) ∧ tw.length ≤ town.length + 6 ∧ qs.length ≤ 6 := by
  have g1 : town.length + (List.range' (i + 1) (n - (i + 1))).length < 1000000 := by rw [List.length_range']; omega
  have g2 : ps.length + (List.range' (i + 1) (n - (i + 1))).length < 1000000 := by rw [List.length_range']; omega
  obtain ⟨qs, tw, y', e2, sl, hw⟩ := tb_inner (hi := hi) (n := n) (o := o) (i := i) (ns := ns) (List.range' (i + 1) (n - (i + 1))) ps town y g1 g2
  have lq := sl.length_le
  rw [List.length_map, List.length_range'] at lq
  rw [List.length_range'] at hw
  exact ⟨qs, tw, y', row_ok hn hi' e2, sl, by omega, by omega⟩
def tbSub (n : Nat) (is : List Nat) : List (Nat × Nat) := is.flatMap fun i => (List.range' (i + 1) (n - (i + 1))).map fun j => (i, j)
def tbEnv (ns : List Int) (hi n o : Nat) (ps : List (Nat × Nat)) (town : List Dt) (x y : Option Dt) : Ev := [some (scr ns), some (.list town), some (DI hi), some (DI n), some (prs ps), some (DI o), x, y]
def TbO (ns : List Int) (hi n o : Nat) (is : List Nat) : Prop := ∀ (ps : List (Nat × Nat)) (town : List Dt) (x y : Option Dt), (∀ i ∈ is, i < n) → town.length + 6 * is.length ≤ 1000 → ps.length + 6 * is.length ≤ 1000 →
    ∃ qs town' x' y', loopS (nameG 6) tbRow (is.map DI) (tbEnv ns hi n o ps town x y) = some (.nx, tbEnv ns hi n o (ps ++ qs) town' x' y') ∧ qs.Sublist (tbSub n is) ∧ town'.length ≤ town.length + 6 * is.length
theorem tb_nil {ns : List Int} {hi n o : Nat} : TbO ns hi n o [] := fun ps town x y _ _ _ => ⟨[], town, x, y, by rw [List.append_nil]; rfl, List.nil_sublist _, Nat.le_add_right _ _⟩
theorem tb_one {ns : List Int} {hi n o i : Nat} {is : List Nat} {ps qs qs' : List (Nat × Nat)} {town tw town' : List Dt} {x y y' x' y'' : Option Dt} (row : tbRow (tbEnv ns hi n o ps town (some (DI i)) y) = some (.nx, tbEnv ns hi n o (ps ++ qs) tw (some (DI i)) y'))
    (e3 : loopS (nameG 6) tbRow (is.map DI) (tbEnv ns hi n o (ps ++ qs) tw (some (DI i)) y') = some (.nx, tbEnv ns hi n o (ps ++ qs ++ qs') town' x' y'')) : loopS (nameG 6) tbRow ((i :: is).map DI) (tbEnv ns hi n o ps town x y) = some (.nx, tbEnv ns hi n o (ps ++ (qs ++ qs')) town' x' y'') := by
  have e0 : nameG 6 (DI i) (tbEnv ns hi n o ps town x y) = some (tbEnv ns hi n o ps town (some (DI i)) y) := rfl
  rw [List.map_cons, loop_nx e0 row, e3, List.append_assoc]
theorem tb_cons {ns : List Int} {hi n o i : Nat} {is : List Nat} (hn : n ≤ 6) (ih : TbO ns hi n o is) : TbO ns hi n o (i :: is) := by
  intro ps town x y hb h1 h2
  rw [List.length_cons] at h1 h2
  obtain ⟨qs, tw, y', row, sl, hw, lq⟩ := tb_step (ns := ns) (hi := hi) (o := o) hn ps town y (by omega) (by omega) (hb i List.mem_cons_self)
  have a1 : tw.length + 6 * is.length ≤ 1000 := by omega
  have a2 : (ps ++ qs).length + 6 * is.length ≤ 1000 := by rw [List.length_append]; omega
  obtain ⟨qs', town', x', y'', e3, sl', hl⟩ := ih (ps ++ qs) tw (some (DI i)) y' (fun k hk => hb k (List.mem_cons_of_mem _ hk)) a1 a2
  have a3 : town'.length ≤ town.length + 6 * (is.length + 1) := by omega
  exact ⟨qs ++ qs', town', x', y'', tb_one row e3, sl.append sl', a3⟩
theorem tb_outer {ns : List Int} {hi n o : Nat} (hn : n ≤ 6) : ∀ is : List Nat, TbO ns hi n o is
  | [] => tb_nil
  | i :: is => tb_cons hn (tb_outer hn is)
theorem sub_filter {l s : List (Nat × Nat)} (hs : s.Sublist l) (hn : l.Nodup) : s = l.filter fun p => decide (p ∈ s) := by
  induction hs with
  | slnil => rfl
  | cons a h ih =>
    rename_i l1 l2
    have ⟨h1, h2⟩ := List.nodup_cons.mp hn
    rw [List.filter_cons, if_neg (by simpa using fun z => h1 (h.mem z))]
    exact ih h2
  | cons_cons a h ih =>
    rename_i l1 l2
    have ⟨h1, h2⟩ := List.nodup_cons.mp hn
    rw [List.filter_cons, if_pos (by simp)]
    congr 1
    refine (ih h2).trans (List.filter_congr fun p hp => ?_)
    have : p ≠ a := fun z => h1 (z ▸ hp)
    simp [this]
theorem table_ok (ns : List Int) (town : List Dt) (ht : town.length < 900) : ∃ n r town', 1 ≤ n ∧ n ≤ 6 ∧ town'.length ≤ town.length + 38 ∧ f_law_table_k16 [scr ns, .list town, DI 6] = some (tb n (prel n r), [.list town']) := by
  obtain ⟨v, hv, e1⟩ := draw_call (ρ := [some (scr ns), some (.list town), some (DI 6), none, none, none, none, none]) (fe := nameF 2) (ns := ns) (town := town) (m := 6) rfl rfl rfl (by decide) (by omega)
  have hw1 : (town ++ [PyData.int 0]).length = town.length + 1 := by simp
  generalize town ++ [PyData.int 0] = t1 at e1 hw1
  obtain ⟨o, ho, e2⟩ := pick_ok ns t1 [1, 2, 3] (by simp) (by omega)
  have hw2 : (t1 ++ [PyData.int 0]).length = t1.length + 1 := by simp
  generalize t1 ++ [PyData.int 0] = t2 at e2 hw2
  obtain ⟨qs, t3, x', y', e3, sl, hw3⟩ := tb_outer (ns := ns) (hi := 6) (n := 1 + v) (o := o) (by omega) (List.range (1 + v)) [] t2 none none (fun i hi => List.mem_range.mp hi) (by rw [List.length_range]; omega) (by rw [List.length_range]; show 0 + _ ≤ _; omega)
  rw [List.length_range] at hw3
  have hqs : qs = prel (1 + v) fun i j => decide ((i, j) ∈ qs) := sub_filter sl (ris_nodup (ris_allp (n := 1 + v) (by omega)))
  refine ⟨1 + v, fun i j => decide ((i, j) ∈ qs), t3, by omega, by omega, by omega, ?_⟩
  show fnM 8 [false, true, false] b_law_table_k16 _ = _
  rw [ap_fnM]
  show ((b_law_table_k16 [some (scr ns), some (.list town), some (DI 6), none, none, none, none, none]).bind _) = _
  have hs : b_law_table_k16 = seqS (par2S 3 4 (opF addD (cF (.int 1)) (callF f_law_draw_k16 [none, some 1, none] (consA (nameF 0) (boxA 1 (consA (nameF 2) (nilA)))))) (tupF (nilA))) (seqS (setS 5 (callF f_law_pick_k16 [none, some 1, none] (consA (nameF 0) (boxA 1 (consA (lstF (consA (cF (.int 1)) (consA (cF (.int 2)) (consA (cF (.int 3)) (nilA))))) (nilA)))))) (seqS (forS (rng1I (consA (nameF 3) (nilA))) (nameG 6) tbRow) (retS (tupF (consA (nameF 3) (consA (nameF 4) (nilA))))))) := rfl
  have g1 : par2S 3 4 (opF addD (cF (.int 1)) (callF f_law_draw_k16 [none, some 1, none] (consA (nameF 0) (boxA 1 (consA (nameF 2) (nilA)))))) (tupF (nilA)) [some (scr ns), some (.list town), some (DI 6), none, none, none, none, none] = some (.nx, [some (scr ns), some (.list t1), some (DI 6), some (DI (1 + v)), some (prs []), none, none, none]) := by
    have ea : addD (.int 1) (DI v) = some (DI (1 + v)) := by
      show some (PyData.int (1 + (v : Int))) = _
      congr 2
    rw [ap_par, ap_op, ap_c]
    simp only [Option.bind_some, e1, ea, List.set_cons_zero, List.set_cons_succ, ap_tup, ap_nilA]
    rfl
  have g2 : setS 5 (callF f_law_pick_k16 [none, some 1, none] (consA (nameF 0) (boxA 1 (consA (lstF (consA (cF (.int 1)) (consA (cF (.int 2)) (consA (cF (.int 3)) (nilA))))) (nilA))))) [some (scr ns), some (.list t1), some (DI 6), some (DI (1 + v)), some (prs []), none, none, none] = some (.nx, [some (scr ns), some (.list t2), some (DI 6), some (DI (1 + v)), some (prs []), some (DI o), none, none]) := by
    have e2' : f_law_pick_k16 [scr ns, .list t1, .list [.int 1, .int 2, .int 3]] = some (DI o, [.list t2]) := e2
    simp only [ap_set, ap_call, ap_consA, ap_boxA, ap_lst, ap_c, ap_name, ap_nilA, List.getElem?_cons_zero, List.getElem?_cons_succ, List.set_cons_zero, List.set_cons_succ, Option.bind_some, fill0, fill1, fill2, e2', put0, put1, put2]
  have g3 : forS (rng1I (consA (nameF 3) (nilA))) (nameG 6) tbRow [some (scr ns), some (.list t2), some (DI 6), some (DI (1 + v)), some (prs []), some (DI o), none, none] = some (.nx, [some (scr ns), some (.list t3), some (DI 6), some (DI (1 + v)), some (prs qs), some (DI o), x', y']) := by
    simp only [ap_for, ap_rng1, ap_consA, ap_name, ap_nilA, List.getElem?_cons_zero, List.getElem?_cons_succ, Option.bind_some]
    rw [if_pos (by omega)]
    have er : rngD 0 (((1 + v : Nat)) : Int).toNat = (List.range (1 + v)).map DI := by rw [rngD0]; rfl
    unfold tbEnv at e3
    rw [List.nil_append] at e3
    simp only [Option.bind_some, er]
    exact e3
  have hb : b_law_table_k16 [some (scr ns), some (.list town), some (DI 6), none, none, none, none, none] = some (.rt (tb (1 + v) qs), [some (scr ns), some (.list t3), some (DI 6), some (DI (1 + v)), some (prs qs), some (DI o), x', y']) := by
    rw [hs, ap_seq, g1]; simp only [Option.bind_some]
    rw [ap_seq, g2]; simp only [Option.bind_some]
    rw [ap_seq, g3]; simp only [Option.bind_some]
    rfl
  rw [hb, ← hqs]
  rfl
end PT
namespace L2
open PySem
theorem while_go {t : FT} {f : FS} {n : Nat} {ρ r r' : Ev} (h1 : t ρ = some (true, r)) (h2 : f r = some (.nx, r')) : whileS t f (n + 1) ρ = whileS t f n r' := by
  rw [ap_while1, h1]
  simp only [Option.bind_some, if_true, h2]
theorem while_stop {t : FT} {f : FS} {n : Nat} {ρ r : Ev} (h1 : t ρ = some (false, r)) : whileS t f (n + 1) ρ = some (.nx, r) := by
  rw [ap_while1, h1]
  simp only [Option.bind_some, Bool.false_eq_true, if_false]
theorem ixN_nat' {n k : Nat} (h : k < n) : ixN n (k : Int) = some k := by
  unfold ixN
  rw [if_pos (by omega)]
  simp [h]
theorem er_map {α β : Type} (f : α → β) : ∀ (l : List α) (k : Nat), (l.map f).eraseIdx k = (l.eraseIdx k).map f
  | [], _ => rfl
  | a :: l, 0 => rfl
  | a :: l, k + 1 => by simp only [List.map_cons, List.eraseIdx_cons_succ, er_map f l k]
theorem er_perm {α : Type} : ∀ (l : List α) (k : Nat) (h : k < l.length), (l[k] :: l.eraseIdx k).Perm l
  | [], _, h => absurd h (by simp)
  | a :: l, 0, _ => List.Perm.refl _
  | a :: l, k + 1, h => by
    have ih := er_perm l k (by simpa using h)
    simp only [List.getElem_cons_succ, List.eraseIdx_cons_succ]
    exact (List.Perm.swap a _ _).trans (ih.cons a)
theorem popB_ok {i : Nat} {f : FE} {ρ ρ1 : Ev} {ds0 ds : List Dt} {k : Nat} {d : Dt} (h0 : boxL i ρ = some ds0) (h1 : f ρ = some (.int (k : Int), ρ1)) (h2 : boxL i ρ1 = some ds) (hk : ds[k]? = some d) : popB i f ρ = some (d, ρ1.set i (some (.list (ds.eraseIdx k)))) := by
  have hlt : k < ds.length := (List.getElem?_eq_some_iff.mp hk).1
  unfold popB
  rw [h0]
  simp only [Option.bind_some, h1, h2, ixN_nat' hlt, hk]
end L2
namespace PT
open PySem L2 PF
abbrev mT : FT := truB 3
def mB : FS := appB 4 (popB 3 (callF f_law_draw_k16 [none, some 1, none] (consA (nameF 0) (boxA 1 (consA (lenB 3) (nilA))))))
def mEnv (ns : List Int) (town : List Dt) (arg : Dt) (left found : List Nat) : Ev := [some (scr ns), some (.list town), some arg, some (.list (left.map DI)), some (.list (found.map DI))]
theorem m_step {ns : List Int} {town : List Dt} {arg : Dt} {left found : List Nat} (hl : left ≠ []) (ht : town.length < 1000) (hf : found.length < 1000) : ∃ k : Nat, ∃ h : k < left.length, ∃ tw : List Dt, tw.length = town.length + 1 ∧ mB (mEnv ns town arg left found) = some (.nx, mEnv ns tw arg (left.eraseIdx k) (found ++ [left[k]])) := by
  obtain ⟨r, hr, e⟩ := draw_call (ρ := mEnv ns town arg left found) (fe := lenB 3) (ns := ns) (town := town) (m := left.length) rfl rfl (by
    show some (PyData.int ((left.map DI).length : Int), _) = _
    rw [List.length_map]) (List.length_pos_iff.mpr hl) (by omega)
  have hw : (town ++ [PyData.int 0]).length = town.length + 1 := by simp
  generalize town ++ [PyData.int 0] = tw at e hw
  refine ⟨r, hr, tw, hw, ?_⟩
  have e' : callF f_law_draw_k16 [none, some 1, none] (consA (nameF 0) (boxA 1 (consA (lenB 3) (nilA)))) (mEnv ns town arg left found) = some (DI r, mEnv ns tw arg left found) := e
  have hk : (left.map DI)[r]? = some (DI left[r]) := by rw [List.getElem?_map, List.getElem?_eq_getElem hr]; rfl
  have p := popB_ok (i := 3) (ρ := mEnv ns town arg left found) (ds0 := left.map DI) (ds := left.map DI) rfl e' rfl hk
  have p' : popB 3 (callF f_law_draw_k16 [none, some 1, none] (consA (nameF 0) (boxA 1 (consA (lenB 3) (nilA))))) (mEnv ns town arg left found) = some (DI left[r], [some (scr ns), some (.list tw), some arg, some (.list ((left.map DI).eraseIdx r)), some (.list (found.map DI))]) := p
  unfold mB
  have b1 : boxL 4 (mEnv ns town arg left found) = some (found.map DI) := rfl
  have b2 : boxL 4 [some (scr ns), some (.list tw), some arg, some (.list ((left.map DI).eraseIdx r)), some (.list (found.map DI))] = some (found.map DI) := rfl
  rw [ap_appB, b1, p']
  simp only [Option.bind_some, b2]
  rw [if_pos (by rw [List.length_map]; omega)]
  show some (Out.nx, [some (scr ns), some (PyData.list tw), some arg, some (PyData.list ((left.map DI).eraseIdx r)), some (PyData.list (found.map DI ++ [DI left[r]]))]) = _
  unfold mEnv
  rw [er_map, List.map_append]
  rfl
theorem m_loop {ns : List Int} {arg : Dt} : ∀ (k fuel : Nat) (left found : List Nat) (town : List Dt), left.length = k → k < fuel → town.length + k < 1000 → found.length + k < 1000 →
    ∃ found' town', whileS mT mB fuel (mEnv ns town arg left found) = some (.nx, mEnv ns town' arg [] found') ∧ found'.Perm (found ++ left) ∧ town'.length = town.length + k := by
  intro k
  induction k with
  | zero =>
    intro fuel left found town hk hf _ _
    have : left = [] := List.length_eq_zero_iff.mp hk
    subst this
    obtain ⟨f, rfl⟩ : ∃ f, fuel = f + 1 := ⟨fuel - 1, by omega⟩
    exact ⟨found, town, while_stop rfl, by simp, rfl⟩
  | succ k ih =>
    intro fuel left found town hk hf h1 h2
    obtain ⟨f, rfl⟩ : ∃ f, fuel = f + 1 := ⟨fuel - 1, by omega⟩
    have hne : left ≠ [] := fun z => by rw [z] at hk; simp at hk
    obtain ⟨j, hj, tw, hw, e⟩ := m_step (ns := ns) (arg := arg) (town := town) (found := found) hne (by omega) (by omega)
    have hl : (left.eraseIdx j).length = k := by rw [List.length_eraseIdx_of_lt hj]; omega
    obtain ⟨found', town', e2, hp, hw2⟩ := ih f (left.eraseIdx j) (found ++ [left[j]]) tw hl (by omega) (by omega) (by rw [List.length_append]; simp; omega)
    have ht : mT (mEnv ns town arg left found) = some (true, mEnv ns town arg left found) := by
      cases left with
      | nil => exact absurd rfl hne
      | cons a as => rfl
    refine ⟨found', town', (while_go ht e).trans e2, ?_, by omega⟩
    refine hp.trans ?_
    rw [List.append_assoc]
    refine List.Perm.append_left found ?_
    exact er_perm left j hj
theorem lmixed_ok (ns : List Int) (town : List Dt) (row : List Nat) (ht : town.length + row.length < 1000) (hr : row.length < 900) : ∃ nm town', f_law_mixed_k16 [scr ns, .list town, .list (row.map DI)] = some (nats nm, [.list town']) ∧ nm.Perm row ∧ town'.length = town.length + row.length := by
  obtain ⟨nm, town', e, hp, hw⟩ := m_loop (ns := ns) (arg := .list (row.map DI)) row.length 100000 row [] town rfl (by omega) ht (by simp; omega)
  refine ⟨nm, town', ?_, by simpa using hp, hw⟩
  show fnM 5 [false, true, false] b_law_mixed_k16 _ = _
  rw [ap_fnM]
  show ((b_law_mixed_k16 [some (scr ns), some (.list town), some (.list (row.map DI)), none, none]).bind _) = _
  have g1 : par2S 3 4 (bFl listD (consA (nameF 2) (nilA))) (lstF (nilA)) [some (scr ns), some (.list town), some (.list (row.map DI)), none, none] = some (.nx, mEnv ns town (.list (row.map DI)) row []) := rfl
  have hb : b_law_mixed_k16 [some (scr ns), some (.list town), some (.list (row.map DI)), none, none] = some (.rt (nats nm), mEnv ns town' (.list (row.map DI)) [] nm) := by
    have hs : b_law_mixed_k16 = seqS (par2S 3 4 (bFl listD (consA (nameF 2) (nilA))) (lstF (nilA))) (seqS (whileS mT mB 100000) (retS (tupB 4))) := rfl
    rw [hs, ap_seq, g1]
    simp only [Option.bind_some]
    rw [ap_seq, e]
    rfl
  rw [hb]; rfl
theorem placeI_nat (y : Nat) : ∀ (l : List Nat), y ∈ l → placeI (y : Int) (l.map fun (i : Nat) => (i : Int)) = some (l.idxOf y)
  | [], h => nomatch h
  | a :: l, h => by
    unfold placeI
    rw [List.map_cons]
    by_cases e : a = y
    · subst e; simp
    · have hl : y ∈ l := by
        rcases List.mem_cons.mp h with z | z
        · exact absurd z.symm e
        · exact z
      have : ¬ ((a : Int) = (y : Int)) := by omega
      simp only [this, if_false, placeI_nat y l hl]
      rw [List.idxOf_cons, beq_false_of_ne e]
      rfl
theorem intsD_nats (l : List Nat) : intsD (l.map DI) = some (l.map fun (i : Nat) => (i : Int)) := by
  induction l with
  | nil => rfl
  | cons a l ih =>
    show (intsD (l.map DI)).bind (fun ns => some ((a : Int) :: ns)) = _
    rw [ih]; rfl
theorem back_ok {n : Nat} {nm : List Nat} (hn : n ≤ 6) (hp : Prm n nm) : f_law_back_k16 [nats nm] = some (nats ((List.range n).map (iv nm)), []) := by
  show fnM 2 [false] b_law_back_k16 _ = _
  rw [ap_fnM]
  show ((b_law_back_k16 [some (nats nm), none]).bind _) = _
  have lc : lcL [1] (nameG 1) yesT (idxF (nameF 0) (nameF 1)) ((List.range n).map DI) [some (nats nm), none] = some (((List.range n).filter (fun _ => true)).map (fun i => DI (iv nm i)), [some (nats nm), none]) := by
    refine lc_of DI (fun _ => true) (fun i => DI (iv nm i)) (List.range n) fun i hi => ⟨[some (nats nm), some (DI i)], rfl, rfl, fun _ => ?_, rfl⟩
    have hm : i ∈ nm := hp.mem.mpr (List.mem_range.mp hi)
    have e : idxD (nats nm) (DI i) = some (DI (iv nm i)) := by
      show ((intsD (nm.map DI)).bind fun ns => (placeI (i : Int) ns).bind fun j => some (PyData.int j)) = _
      rw [intsD_nats]
      simp only [Option.bind_some]
      rw [placeI_nat i nm hm]; rfl
    unfold idxF
    simp only [ap_name, List.getElem?_cons_zero, List.getElem?_cons_succ, Option.bind_some, isTup, if_true, e]
  rw [List.filter_eq_self.mpr (fun _ _ => rfl)] at lc
  have hb : b_law_back_k16 [some (nats nm), none] = some (.rt (nats ((List.range n).map (iv nm))), [some (nats nm), none]) := by
    unfold b_law_back_k16
    simp only [ap_ret, ap_bF, ap_consA, ap_lc, ap_rng1, ap_name, ap_nilA, List.getElem?_cons_zero, Option.bind_some, lenD_nats, hp.len]
    rw [if_pos (by omega)]
    have e2 : rngD 0 ((n : Int)).toNat = (List.range n).map DI := by rw [rngD0]; simp
    have e3 : wipeE [some (nats nm), none] [1] = [some (nats nm), none] := rfl
    simp only [Option.bind_some, e2, e3, lc]
    show some (Out.rt (PyData.tuple ((List.range n).map fun i => DI (iv nm i))), _) = _
    unfold nats
    rw [List.map_map]
    rfl
  rw [hb]; rfl
end PT
namespace L2
open PySem
theorem loop_all {α : Type} {g : FG} {f : FS} (P : Ev → Prop) (e : α → Dt) : ∀ (as : List α) (ρ : Ev), P ρ → (∀ a ∈ as, ∀ ρ, P ρ → ∃ r r', g (e a) ρ = some r ∧ f r = some (.nx, r') ∧ P r') → ∃ ρ', loopS g f (as.map e) ρ = some (.nx, ρ') ∧ P ρ'
  | [], ρ, h, _ => ⟨ρ, rfl, h⟩
  | a :: as, ρ, h, s => by
    obtain ⟨r, r', h1, h2, h3⟩ := s a List.mem_cons_self ρ h
    obtain ⟨ρ', e2, h4⟩ := loop_all P e as r' h3 fun b hb => s b (List.mem_cons_of_mem _ hb)
    exact ⟨ρ', by rw [List.map_cons, loop_nx h1 h2, e2], h4⟩
section
variable {ρ : Ev} {fa fb fc : FE} {g : Dt → Dt → Option Dt} {x y z d0 d1 d2 d : Dt} {fn : Fn} {ta tb : FT} {ba bb : Bool} {f1 f2 : FS}
theorem r_op (ha : fa ρ = some (x, ρ)) (hb : fb ρ = some (y, ρ)) (hg : g x y = some z) : opF g fa fb ρ = some (z, ρ) := by rw [ap_op, ha]; simp only [Option.bind_some, hb, hg]
theorem r_call1 (h0 : fa ρ = some (d0, ρ)) (hf : fn [d0] = some (d, [])) : callF fn [none] (consA fa nilA) ρ = some (d, ρ) := by simp only [ap_call, ap_consA, ap_nilA, h0, Option.bind_some, fill0, fill1, hf, put0, put1]
theorem r_call2 (h0 : fa ρ = some (d0, ρ)) (h1 : fb ρ = some (d1, ρ)) (hf : fn [d0, d1] = some (d, [])) : callF fn [none, none] (consA fa (consA fb nilA)) ρ = some (d, ρ) := by simp only [ap_call, ap_consA, ap_nilA, h0, h1, Option.bind_some, fill0, fill1, hf, put0, put1]
theorem r_call3 (h0 : fa ρ = some (d0, ρ)) (h1 : fb ρ = some (d1, ρ)) (h2 : fc ρ = some (d2, ρ)) (hf : fn [d0, d1, d2] = some (d, [])) : callF fn [none, none, none] (consA fa (consA fb (consA fc nilA))) ρ = some (d, ρ) := by simp only [ap_call, ap_consA, ap_nilA, h0, h1, h2, Option.bind_some, fill0, fill1, hf, put0, put1]
theorem r_tF (h : fa ρ = some (.bool ba, ρ)) : tF fa ρ = some (ba, ρ) := by rw [ap_tF, h]; rfl
theorem r_tru (h : fa ρ = some (.bool ba, ρ)) : truF fa ρ = some (ba, ρ) := by rw [ap_truF, h]; rfl
theorem r_or (ha : ta ρ = some (false, ρ)) (hb : tb ρ = some (bb, ρ)) : orT ta tb ρ = some (bb, ρ) := by rw [ap_orT, ha]; simp only [Option.bind_some, Bool.false_eq_true, if_false, hb]
theorem r_andF (ha : ta ρ = some (false, ρ)) : andT ta tb ρ = some (false, ρ) := by rw [ap_andT, ha]; simp only [Option.bind_some, Bool.false_eq_true, if_false]
theorem r_andT (ha : ta ρ = some (true, ρ)) (hb : tb ρ = some (bb, ρ)) : andT ta tb ρ = some (bb, ρ) := by rw [ap_andT, ha]; simp only [Option.bind_some, if_true, hb]
theorem r_not (ha : ta ρ = some (ba, ρ)) : notT ta ρ = some (!ba, ρ) := by rw [ap_notT, ha]; rfl
theorem r_ifF (h : ta ρ = some (false, ρ)) : ifS ta f1 f2 ρ = f2 ρ := by rw [ap_if, h]; simp only [Option.bind_some, Bool.false_eq_true, if_false]
theorem r_orV (ha : fa ρ = some (.bool ba, ρ)) (hb : fb ρ = some (.bool bb, ρ)) : orV fa fb ρ = some (.bool (ba || bb), ρ) := by
  rw [ap_orV, ha]
  cases ba with
  | true => rfl
  | false => simp only [Option.bind_some, hb, Bool.false_or]
theorem r_seq {r : Ev} (h : f1 ρ = some (.nx, r)) : seqS f1 f2 ρ = f2 r := by rw [ap_seq, h]; rfl
theorem r_set {i : Nat} (h : fa ρ = some (d, ρ)) : setS i fa ρ = some (.nx, ρ.set i (some d)) := by rw [ap_set, h]; rfl
end
theorem eqv_bb (a b : Bool) : PyData.eqv (.bool a) (.bool b) = (a == b) := by cases a <;> cases b <;> rfl
theorem eqv_ii (a b : Int) : PyData.eqv (.int a) (.int b) = (a == b) := rfl
theorem eqvAll_refl {α : Type} (e : α → Dt) (h : ∀ a, PyData.eqv (e a) (e a) = true) : ∀ l : List α, PyData.eqvAll (l.map e) (l.map e) = true
  | [] => rfl
  | a :: l => by
    show (PyData.eqv (e a) (e a) && PyData.eqvAll (l.map e) (l.map e)) = true
    rw [h a, eqvAll_refl e h l]; rfl
theorem tameAll_map {α : Type} {k : Nat} (e : α → Dt) (h : ∀ a, tame k (e a) = true) : ∀ l : List α, tameAll k (l.map e) = true
  | [] => rfl
  | a :: l => by
    show (tame k (e a) && tameAll k (l.map e)) = true
    rw [h a, tameAll_map e h l]; rfl
theorem ne_refl {d : Dt} (ht : tame 12 d = true) (hr : PyData.eqv d d = true) : neD d d = some (.bool false) := by
  unfold neD
  rw [if_pos ⟨ht, ht⟩, hr]; rfl
theorem ne_bb (a b : Bool) : neD (.bool a) (.bool b) = some (.bool (!(a == b))) := by
  unfold neD
  rw [if_pos ⟨rfl, rfl⟩, eqv_bb]
theorem eq_bb (a b : Bool) : eqD (.bool a) (.bool b) = some (.bool (a == b)) := by
  unfold eqD
  rw [if_pos ⟨rfl, rfl⟩, eqv_bb]
theorem ne_ii (a b : Int) : neD (.int a) (.int b) = some (.bool (!(a == b))) := by
  unfold neD
  rw [if_pos ⟨rfl, rfl⟩, eqv_ii]
end L2
namespace PT
open PySem L2 PF
theorem eqv_pr' (p : Nat × Nat) : PyData.eqv (pr p) (pr p) = true := by
  show (PyData.eqv (DI p.1) (DI p.1) && (PyData.eqv (DI p.2) (DI p.2) && true)) = true
  rw [eqv_ii, eqv_ii]; simp
theorem eqv_DI (a : Nat) : PyData.eqv (DI a) (DI a) = true := by rw [eqv_ii]; simp
theorem tb_ne (n : Nat) (ps : List (Nat × Nat)) : neD (tb n ps) (tb n ps) = some (.bool false) := by
  refine ne_refl ?_ ?_
  · show (tame 11 (DI n) && (tameAll 10 (ps.map pr) && true)) = true
    rw [tameAll_map pr (fun _ => rfl)]; rfl
  · show (PyData.eqv (DI n) (DI n) && (PyData.eqvAll (ps.map pr) (ps.map pr) && true)) = true
    rw [eqv_DI, eqvAll_refl pr eqv_pr']; rfl
theorem lst_ne (l : List Nat) : neD (.list (l.map DI)) (.list (l.map DI)) = some (.bool false) := by
  refine ne_refl ?_ ?_
  · show tameAll 11 (l.map DI) = true
    exact tameAll_map DI (fun _ => rfl) l
  · show PyData.eqvAll (l.map DI) (l.map DI) = true
    exact eqvAll_refl DI eqv_DI l
theorem nats_ne (l : List Nat) : neD (nats l) (nats l) = some (.bool false) := by
  refine ne_refl ?_ ?_
  · show tameAll 11 (l.map DI) = true
    exact tameAll_map DI (fun _ => rfl) l
  · show PyData.eqvAll (l.map DI) (l.map DI) = true
    exact eqvAll_refl DI eqv_DI l
theorem any_DI (a : Nat) (l : List Nat) : ((l.map DI).any fun y => PyData.eqv y (DI a)) = decide (a ∈ l) := by
  induction l with
  | nil => simp
  | cons b l ih =>
    rw [List.map_cons, List.any_cons, ih, eqv_ii]
    by_cases h : b = a
    · subst h; simp
    · have : ¬ ((b : Int) = (a : Int)) := by omega
      simp [Ne.symm h, this]
theorem in_nats (a : Nat) (l : List Nat) : inD (DI a) (nats l) = some (.bool (decide (a ∈ l))) := by
  show (if tame 12 (DI a) = true ∧ tameAll 12 (l.map DI) = true then some (PyData.bool ((l.map DI).any fun y => PyData.eqv y (DI a))) else none) = _
  rw [if_pos ⟨rfl, tameAll_map DI (fun _ => rfl) l⟩, any_DI]
theorem notIn_nats (a : Nat) (l : List Nat) : notInD (DI a) (nats l) = some (.bool (!decide (a ∈ l))) := by
  show (if tame 12 (DI a) = true ∧ tameAll 12 (l.map DI) = true then some (PyData.bool (!(l.map DI).any fun y => PyData.eqv y (DI a))) else none) = _
  rw [if_pos ⟨rfl, tameAll_map DI (fun _ => rfl) l⟩, any_DI]
theorem any_pr (p : Nat × Nat) (l : List (Nat × Nat)) : ((l.map pr).any fun y => PyData.eqv y (pr p)) = decide (p ∈ l) := by
  induction l with
  | nil => simp
  | cons b l ih =>
    have e : PyData.eqv (pr b) (pr p) = decide (b = p) := by
      have := eqv_pr b p
      unfold eqD at this
      rw [if_pos ⟨rfl, rfl⟩] at this
      injection this with this
      injection this
    rw [List.map_cons, List.any_cons, ih, e]
    by_cases h : b = p
    · subst h; simp
    · simp [h, Ne.symm h]
theorem in_prs (p : Nat × Nat) (l : List (Nat × Nat)) : inD (pr p) (prs l) = some (.bool (decide (p ∈ l))) := by
  show (if tame 12 (pr p) = true ∧ tameAll 12 (l.map pr) = true then some (PyData.bool ((l.map pr).any fun y => PyData.eqv y (pr p))) else none) = _
  rw [if_pos ⟨rfl, tameAll_map pr (fun _ => rfl) l⟩, any_pr]
theorem there_prel {n : Nat} {r : Nat → Nat → Bool} {a b : Nat} (ha : a < n) (hb : b < n) : decide ((min a b, max a b) ∈ prel n r) = (!decide (a = b) && r (min a b) (max a b)) := by
  by_cases h : a = b
  · subst h
    rw [decide_eq_false]
    · simp
    · intro z
      have := mem_allp.mp (List.mem_filter.mp z).1
      omega
  · rw [decide_eq_false h]
    have : ((min a b, max a b) ∈ prel n r) ↔ r (min a b) (max a b) = true := by
      unfold prel
      rw [List.mem_filter, mem_allp]
      exact ⟨fun z => z.2, fun z => ⟨by omega, z⟩⟩
    simp [this]
theorem mem_near {n : Nat} {r : Nat → Nat → Bool} {a b : Nat} (ha : a < n) (hb : b < n) : decide (b ∈ near_l n (prel n r) a) = mx r a b := by
  unfold near_l
  have : (b ∈ (List.range n).filter (mxb (prel n r) a)) ↔ mx r a b = true := by
    rw [List.mem_filter, List.mem_range, mxb_prel ha hb]
    exact ⟨fun z => z.2, fun z => ⟨hb, z⟩⟩
  cases h : mx r a b with
  | true => rw [decide_eq_true (this.mpr h)]
  | false => rw [decide_eq_false (fun z => by rw [this.mp z] at h; cases h)]
def hEnv (n : Nat) (r : Nat → Nat → Bool) (a : Nat) (x y : Option Dt) : Ev := [some (tb n (prel n r)), some (DI n), some (prs (prel n r)), some (tb n (prel n fun i j => !r i j)), some (DI a), some (nats (near_l n (prel n r) a)), some (.list ((near_l n (prel n r) a).map DI)), x, y]
def hBody : FS := seqS (setS 8 (opF inD (tupF (consA (bF minD (consA (nameF 4) (consA (nameF 7) (nilA)))) (consA (bF maxD (consA (nameF 4) (consA (nameF 7) (nilA)))) (nilA)))) (nameF 2))) (seqS (ifS (orT (tF (opF neD (callF f_mixed [none, none, none] (consA (nameF 0) (consA (nameF 4) (consA (nameF 7) (nilA))))) (callF f_mixed [none, none, none] (consA (nameF 0) (consA (nameF 7) (consA (nameF 4) (nilA))))))) (tF (opF neD (callF f_mixed [none, none, none] (consA (nameF 0) (consA (nameF 4) (consA (nameF 7) (nilA))))) (orV (nameF 8) (opF eqD (nameF 4) (nameF 7)))))) (retS (cF (.bool false))) (skipS)) (ifS (orT (andT (tF (opF neD (nameF 4) (nameF 7))) (tF (opF eqD (callF f_mixed [none, none, none] (consA (nameF 3) (consA (nameF 4) (consA (nameF 7) (nilA))))) (nameF 8)))) (tF (opF neD (opF inD (nameF 4) (callF f_near [none, none] (consA (nameF 0) (consA (nameF 7) (nilA))))) (opF inD (nameF 7) (nameF 5))))) (retS (cF (.bool false))) (skipS)))
theorem h_turn {n : Nat} {r : Nat → Nat → Bool} {a b : Nat} (hn : n ≤ 6) (ha : a < n) (hb : b < n) (y : Option Dt) : hBody (hEnv n r a (some (DI b)) y) = some (.nx, hEnv n r a (some (DI b)) (some (.bool (!decide (a = b) && r (min a b) (max a b))))) := by
  have e1 : inD (.tuple [DI (min a b), DI (max a b)]) (prs (prel n r)) = some (.bool (!decide (a = b) && r (min a b) (max a b))) := by rw [← there_prel ha hb]; exact in_prs (min a b, max a b) _
  have m1 := mixed_ok (n := n) (ris_prel (r := r) hn) (len_prel hn) a b
  have m2 := mixed_ok (n := n) (ris_prel (r := r) hn) (len_prel hn) b a
  have m3 := mixed_ok (n := n) (ris_prel (r := fun i j => !r i j) hn) (len_prel hn) a b
  rw [mxb_prel ha hb] at m1 m3
  rw [mxb_prel hb ha, mx_symm] at m2
  have nb := near_ok (ris_prel (r := r) hn) (len_prel hn) (show n ≤ 1000 by omega) b
  have i1 := in_nats a (near_l n (prel n r) b)
  rw [mem_near hb ha, mx_symm] at i1
  have i2 := in_nats b (near_l n (prel n r) a)
  rw [mem_near ha hb] at i2
  have ne4 : neD (DI a) (DI b) = some (.bool (!decide (a = b))) := by
    rw [ne_ii]
    congr 3
    by_cases h : a = b
    · subst h; simp
    · rw [decide_eq_false h]; exact beq_false_of_ne (by omega)
  generalize hth : (!decide (a = b) && r (min a b) (max a b)) = th at e1 ⊢
  obtain ⟨E, hE⟩ : ∃ E, E = hEnv n r a (some (DI b)) (some (.bool th)) := ⟨_, rfl⟩
  have g0 : setS 8 (opF inD (tupF (consA (bF minD (consA (nameF 4) (consA (nameF 7) (nilA)))) (consA (bF maxD (consA (nameF 4) (consA (nameF 7) (nilA)))) (nilA)))) (nameF 2)) (hEnv n r a (some (DI b)) y) = some (.nx, E) := by
    rw [hE]
    unfold hEnv
    simp only [ap_set, ap_op, ap_tup, ap_consA, ap_bF, ap_name, ap_nilA, List.getElem?_cons_zero, List.getElem?_cons_succ, List.set_cons_zero, List.set_cons_succ, Option.bind_some, minD_ii, maxD_ii, e1]
  have n0 : nameF 0 E = some (tb n (prel n r), E) := by rw [hE]; rfl
  have n3 : nameF 3 E = some (tb n (prel n fun i j => !r i j), E) := by rw [hE]; rfl
  have n4 : nameF 4 E = some (DI a, E) := by rw [hE]; rfl
  have n5 : nameF 5 E = some (nats (near_l n (prel n r) a), E) := by rw [hE]; rfl
  have n7 : nameF 7 E = some (DI b, E) := by rw [hE]; rfl
  have n8 : nameF 8 E = some (.bool th, E) := by rw [hE]; rfl
  have c1 := r_call3 n0 n4 n7 m1
  have c2 := r_call3 n0 n7 n4 m2
  have c3 := r_call3 n3 n4 n7 m3
  have ct := r_call2 n0 n7 nb
  have hmx : mx r a b = (th || decide (a = b)) := by
    rw [← hth]
    unfold mx
    cases decide (a = b) <;> simp
  have t1 : orT (tF (opF neD (callF f_mixed [none, none, none] (consA (nameF 0) (consA (nameF 4) (consA (nameF 7) (nilA))))) (callF f_mixed [none, none, none] (consA (nameF 0) (consA (nameF 7) (consA (nameF 4) (nilA))))))) (tF (opF neD (callF f_mixed [none, none, none] (consA (nameF 0) (consA (nameF 4) (consA (nameF 7) (nilA))))) (orV (nameF 8) (opF eqD (nameF 4) (nameF 7))))) E = some (false, E) := by
    refine r_or (r_tF (r_op c1 c2 ?_)) (r_tF (r_op c1 (r_orV n8 (r_op n4 n7 (eqD_ii a b))) ?_))
    · rw [ne_bb, beq_self_eq_true]; rfl
    · rw [ne_bb, hmx, beq_self_eq_true]; rfl
  have t2 : orT (andT (tF (opF neD (nameF 4) (nameF 7))) (tF (opF eqD (callF f_mixed [none, none, none] (consA (nameF 3) (consA (nameF 4) (consA (nameF 7) (nilA))))) (nameF 8)))) (tF (opF neD (opF inD (nameF 4) (callF f_near [none, none] (consA (nameF 0) (consA (nameF 7) (nilA))))) (opF inD (nameF 7) (nameF 5)))) E = some (false, E) := by
    refine r_or ?_ (r_tF (r_op (r_op n4 ct i1) (r_op n7 n5 i2) (by rw [ne_bb, beq_self_eq_true]; rfl)))
    by_cases h : a = b
    · rw [decide_eq_true h] at ne4
      exact r_andF (r_tF (r_op n4 n7 ne4))
    · rw [decide_eq_false h] at ne4
      refine r_andT (r_tF (r_op n4 n7 ne4)) (r_tF (r_op c3 n8 ?_))
      rw [eq_bb, ← hth]
      unfold mx
      rw [decide_eq_false h]
      dsimp only
      cases r (min a b) (max a b) <;> rfl
  unfold hBody
  rw [r_seq g0, r_seq ((r_ifF t1).trans (ap_skip E)), r_ifF t2, ap_skip, hE]
theorem len_split {n : Nat} {r : Nat → Nat → Bool} (hn : n ≤ 6) : ((prel n r).length : Int) + ((prel n fun i j => !r i j).length : Int) = (n : Int) * ((n : Int) - 1) / 2 := by
  have h1 : (prel n r).length + (prel n fun i j => !r i j).length = (allp n).length := by
    unfold prel
    generalize allp n = l
    induction l with
    | nil => rfl
    | cons p l ih =>
      have ih' : (l.filter fun p => r p.1 p.2).length + (l.filter fun p => !r p.1 p.2).length = l.length := ih
      show ((p :: l).filter fun p => r p.1 p.2).length + ((p :: l).filter fun p => !r p.1 p.2).length = (p :: l).length
      rw [List.filter_cons, List.filter_cons]
      cases hp : r p.1 p.2 with
      | true => simp only [if_true, Bool.not_true, Bool.false_eq_true, if_false, List.length_cons]; omega
      | false => simp only [Bool.false_eq_true, if_false, Bool.not_false, if_true, List.length_cons]; omega
  have h2 : ((allp n).length : Int) = (n : Int) * ((n : Int) - 1) / 2 := by
    match n, hn with
    | 0, _ => decide
    | 1, _ => decide
    | 2, _ => decide
    | 3, _ => decide
    | 4, _ => decide
    | 5, _ => decide
    | 6, _ => decide
  rw [← h2, ← h1]; push_cast; rfl
def oEnv (n : Nat) (r : Nat → Nat → Bool) (a b c d e : Option Dt) : Ev := [some (tb n (prel n r)), some (DI n), some (prs (prel n r)), some (tb n (prel n fun i j => !r i j)), a, b, c, d, e]
def oTest : FS := ifS (orT (tF (opF notInD (nameF 4) (nameF 5))) (tF (opF neD (bFl listD (consA (nameF 5) (nilA))) (nameF 6)))) (retS (cF (.bool false))) (skipS)
def oPar : FS := par2S 5 6 (callF f_near [none, none] (consA (nameF 0) (consA (nameF 4) (nilA)))) (lcF (rng1I (consA (nameF 1) (nilA))) [7] (nameG 7) (truF (callF f_mixed [none, none, none] (consA (nameF 0) (consA (nameF 4) (consA (nameF 7) (nilA)))))) (nameF 7))
def oIn : FS := forS (rng1I (consA (nameF 1) (nilA))) (nameG 7) hBody
theorem rng1_ok {fr : FA} {ρ : Ev} {b : Nat} (h : fr ρ = some ([DI b], ρ)) (hb : b ≤ 1000) : rng1I fr ρ = some ((List.range b).map DI, ρ) := by
  have key : ∀ j : Int, -(2 ^ 62) ≤ j ∧ j ≤ 16777216 → fr ρ = some ([.int j], ρ) → rng1I fr ρ = some (rngD 0 j.toNat, ρ) := fun j hc hf => by
    rw [ap_rng1, hf]
    exact if_pos hc
  have k := key (b : Int) ⟨by omega, by omega⟩ h
  rw [k, rngD0]
  rfl
theorem o_par {n : Nat} {r : Nat → Nat → Bool} {a : Nat} (hn : n ≤ 6) (ha : a < n) (b c d e : Option Dt) : oPar (oEnv n r (some (DI a)) b c d e) = some (.nx, hEnv n r a d e) := by
  have nb := near_ok (ris_prel (r := r) hn) (len_prel hn) (show n ≤ 1000 by omega) a
  have c1 : callF f_near [none, none] (consA (nameF 0) (consA (nameF 4) (nilA))) (oEnv n r (some (DI a)) b c d e) = some (nats (near_l n (prel n r) a), oEnv n r (some (DI a)) b c d e) := r_call2 rfl rfl nb
  have lc : lcL [7] (nameG 7) (truF (callF f_mixed [none, none, none] (consA (nameF 0) (consA (nameF 4) (consA (nameF 7) (nilA)))))) (nameF 7) ((List.range n).map DI) (oEnv n r (some (DI a)) b c none e) = some ((near_l n (prel n r) a).map DI, oEnv n r (some (DI a)) b c none e) := by
    refine lc_of DI (mxb (prel n r) a) DI (List.range n) fun i hi => ⟨oEnv n r (some (DI a)) b c (some (DI i)) e, rfl, ?_, fun _ => rfl, rfl⟩
    exact r_tru (r_call3 (d0 := tb n (prel n r)) (d1 := DI a) (d2 := DI i) rfl rfl rfl (mixed_ok (ris_prel hn) (len_prel hn) a i))
  have hr1 := rng1_ok (fr := consA (nameF 1) (nilA)) (ρ := oEnv n r (some (DI a)) b c d e) (b := n) rfl (by omega)
  have c2 : lcF (rng1I (consA (nameF 1) (nilA))) [7] (nameG 7) (truF (callF f_mixed [none, none, none] (consA (nameF 0) (consA (nameF 4) (consA (nameF 7) (nilA)))))) (nameF 7) (oEnv n r (some (DI a)) b c d e) = some (.list ((near_l n (prel n r) a).map DI), oEnv n r (some (DI a)) b c d e) := by
    rw [ap_lc, hr1]
    simp only [Option.bind_some]
    rw [show wipeE (oEnv n r (some (DI a)) b c d e) [7] = oEnv n r (some (DI a)) b c none e from rfl, lc]
    rfl
  unfold oPar
  rw [ap_par, c1]
  simp only [Option.bind_some, c2]
  rfl
theorem o_test {n : Nat} {r : Nat → Nat → Bool} {a : Nat} (ha : a < n) (d e : Option Dt) : oTest (hEnv n r a d e) = some (.nx, hEnv n r a d e) := by
  have e1 := notIn_nats a (near_l n (prel n r) a)
  have hm : mx r a a = true := by unfold mx; simp
  rw [mem_near ha ha, hm] at e1
  have c1 : bFl listD (consA (nameF 5) (nilA)) (hEnv n r a d e) = some (.list ((near_l n (prel n r) a).map DI), hEnv n r a d e) := rfl
  unfold oTest
  rw [r_ifF (r_or (r_tF (r_op (x := DI a) (y := nats (near_l n (prel n r) a)) rfl rfl e1)) (r_tF (r_op c1 rfl (lst_ne _)))), ap_skip]
theorem o_in {n : Nat} {r : Nat → Nat → Bool} {a : Nat} (hn : n ≤ 6) (ha : a < n) (d e : Option Dt) : ∃ d' e', oIn (hEnv n r a d e) = some (.nx, hEnv n r a d' e') := by
  have hr1 := rng1_ok (fr := consA (nameF 1) (nilA)) (ρ := hEnv n r a d e) (b := n) rfl (by omega)
  obtain ⟨ρ', e1, d', e', rfl⟩ := loop_all (g := nameG 7) (f := hBody) (fun ρ => ∃ x y, ρ = hEnv n r a x y) DI (List.range n) (hEnv n r a d e) ⟨d, e, rfl⟩ (fun b hb ρ ⟨x, y, hρ⟩ => ⟨hEnv n r a (some (DI b)) y, _, by rw [hρ]; rfl, h_turn hn ha (List.mem_range.mp hb) y, _, _, rfl⟩)
  exact ⟨d', e', by unfold oIn; rw [ap_for, hr1]; exact e1⟩
def oBody : FS := seqS oPar (seqS oTest oIn)
theorem o_turn {n : Nat} {r : Nat → Nat → Bool} {a : Nat} (hn : n ≤ 6) (ha : a < n) (b c d e : Option Dt) : ∃ b' c' d' e', oBody (oEnv n r (some (DI a)) b c d e) = some (.nx, oEnv n r (some (DI a)) b' c' d' e') := by
  obtain ⟨d', e', h⟩ := o_in (r := r) hn ha d e
  refine ⟨some (nats (near_l n (prel n r) a)), some (.list ((near_l n (prel n r) a).map DI)), d', e', ?_⟩
  unfold oBody
  rw [r_seq (o_par hn ha b c d e), r_seq (o_test ha d e), h]
  rfl
theorem pairs_hold_ok {n : Nat} {r : Nat → Nat → Bool} (h1 : 1 ≤ n) (hn : n ≤ 6) : f_law_pairs_hold_k16 [tb n (prel n r)] = some (.bool true, []) := by
  have hs : b_law_pairs_hold_k16 = seqS (asgS (nameF 0) (tupG 2 (consG (nameG 1) (consG (nameG 2) (nilG))))) (seqS (setS 3 (callF f_turned [none] (consA (nameF 0) (nilA)))) (seqS (ifS (orT (tF (opF neD (callF f_turned [none] (consA (nameF 3) (nilA))) (nameF 0))) (orT (tF (opF neD (opF addD (bF lenD (consA (nameF 2) (nilA))) (bF lenD (consA (opF ixD (nameF 3) (cF (.int 1))) (nilA)))) (opF fdivD (opF mulD (nameF 1) (opF subD (nameF 1) (cF (.int 1)))) (cF (.int 2))))) (notT (truF (callF f_is_table [none] (consA (nameF 3) (nilA))))))) (retS (cF (.bool false))) (skipS)) (seqS (forS (rng1I (consA (nameF 1) (nilA))) (nameG 4) oBody) (retS (cF (.bool true)))))) := rfl
  obtain ⟨E, hE⟩ : ∃ E, E = oEnv n r none none none none none := ⟨_, rfl⟩
  have g1 : asgS (nameF 0) (tupG 2 (consG (nameG 1) (consG (nameG 2) (nilG)))) [some (tb n (prel n r)), none, none, none, none, none, none, none, none] = some (.nx, [some (tb n (prel n r)), some (DI n), some (prs (prel n r)), none, none, none, none, none, none]) := rfl
  have g2 : setS 3 (callF f_turned [none] (consA (nameF 0) (nilA))) [some (tb n (prel n r)), some (DI n), some (prs (prel n r)), none, none, none, none, none, none] = some (.nx, E) := by
    rw [r_set (d := tb n (prel n fun i j => !r i j)) (r_call1 (d0 := tb n (prel n r)) rfl (turned_ok hn)), hE]; rfl
  have tt : f_turned [tb n (prel n fun i j => !r i j)] = some (tb n (prel n r), []) := by
    rw [turned_ok hn]
    rw [prel_congr (r := fun i j => !!r i j) (s := r) (fun i j _ _ => by simp)]
  have n0 : nameF 0 E = some (tb n (prel n r), E) := by rw [hE]; rfl
  have n1 : nameF 1 E = some (DI n, E) := by rw [hE]; rfl
  have n2 : nameF 2 E = some (prs (prel n r), E) := by rw [hE]; rfl
  have n3 : nameF 3 E = some (tb n (prel n fun i j => !r i j), E) := by rw [hE]; rfl
  have l1 : bF lenD (consA (nameF 2) (nilA)) E = some (DI (prel n r).length, E) := by
    rw [ap_bF, ap_consA, n2]
    show some (PyData.int (((prel n r).map pr).length : Int), E) = _
    rw [List.length_map]
  have l2 : bF lenD (consA (opF ixD (nameF 3) (cF (.int 1))) (nilA)) E = some (DI (prel n fun i j => !r i j).length, E) := by
    rw [ap_bF, ap_consA, r_op n3 (ap_c E _) (z := prs (prel n fun i j => !r i j)) rfl]
    show some (PyData.int (((prel n fun i j => !r i j).map pr).length : Int), E) = _
    rw [List.length_map]
  have ml : mulD (DI n) (.int ((n : Int) - 1)) = some (.int ((n : Int) * ((n : Int) - 1))) := mul_ok (by omega)
  have fd : fdivD (.int ((n : Int) * ((n : Int) - 1))) (.int 2) = some (.int ((n : Int) * ((n : Int) - 1) / 2)) := rfl
  have g3 : orT (tF (opF neD (callF f_turned [none] (consA (nameF 3) (nilA))) (nameF 0))) (orT (tF (opF neD (opF addD (bF lenD (consA (nameF 2) (nilA))) (bF lenD (consA (opF ixD (nameF 3) (cF (.int 1))) (nilA)))) (opF fdivD (opF mulD (nameF 1) (opF subD (nameF 1) (cF (.int 1)))) (cF (.int 2))))) (notT (truF (callF f_is_table [none] (consA (nameF 3) (nilA)))))) E = some (false, E) := by
    refine r_or (r_tF (r_op (r_call1 n3 tt) n0 (tb_ne _ _))) (r_or (r_tF (r_op (r_op l1 l2 (z := .int (((prel n r).length : Int) + ((prel n fun i j => !r i j).length : Int))) rfl) (r_op (r_op n1 (r_op n1 (ap_c E _) (z := .int ((n : Int) - 1)) rfl) ml) (ap_c E _) fd) ?_)) (r_not (r_tru (r_call1 n3 (is_table_ok h1 hn)))))
    rw [ne_ii, len_split hn, beq_self_eq_true]; rfl
  have hr1 := rng1_ok (fr := consA (nameF 1) (nilA)) (ρ := E) (b := n) (by rw [ap_consA, n1]; rfl) (by omega)
  obtain ⟨ρ', e1, hρ'⟩ := loop_all (g := nameG 4) (f := oBody) (fun ρ => ∃ a b c d e, ρ = oEnv n r a b c d e) DI (List.range n) E ⟨none, none, none, none, none, hE⟩ (fun a ha ρ ⟨x, b, c, d, e, hρ⟩ => by
    obtain ⟨b', c', d', e', h⟩ := o_turn (r := r) hn (List.mem_range.mp ha) b c d e
    exact ⟨oEnv n r (some (DI a)) b c d e, _, by rw [hρ]; rfl, h, _, _, _, _, _, rfl⟩)
  have g4 : forS (rng1I (consA (nameF 1) (nilA))) (nameG 4) oBody E = some (.nx, ρ') := by rw [ap_for, hr1]; exact e1
  show fnM 9 [false] b_law_pairs_hold_k16 _ = _
  rw [ap_fnM]
  show ((b_law_pairs_hold_k16 [some (tb n (prel n r)), none, none, none, none, none, none, none, none]).bind _) = _
  have hb : b_law_pairs_hold_k16 [some (tb n (prel n r)), none, none, none, none, none, none, none, none] = some (.rt (.bool true), ρ') := by
    rw [hs, r_seq g1, r_seq g2, r_seq ((r_ifF g3).trans (ap_skip E)), r_seq g4]
    rfl
  obtain ⟨a, b, c, d, e, rfl⟩ := hρ'
  rw [hb]; rfl
end PT
namespace PT
open PySem L2 PF
theorem mx_mx (r : Nat → Nat → Bool) (h : Nat → Nat) (a b : Nat) : mx (fun i j => mx r (h i) (h j)) a b = mx r (h a) (h b) := by
  by_cases e : a = b
  · subst e; unfold mx; simp
  · have : mx (fun i j => mx r (h i) (h j)) a b = mx r (h (min a b)) (h (max a b)) := by
      show (decide (a = b) || mx r (h (min a b)) (h (max a b))) = _
      rw [decide_eq_false e, Bool.false_or]
    rw [this]
    rcases Nat.lt_or_ge a b with q | q
    · rw [show min a b = a by omega, show max a b = b by omega]
    · rw [show min a b = b by omega, show max a b = a by omega, mx_symm]
theorem mx_lt (r : Nat → Nat → Bool) {a b : Nat} (h : a < b) : mx r a b = r a b := by
  unfold mx
  rw [decide_eq_false (by omega), show min a b = a by omega, show max a b = b by omega, Bool.false_or]
theorem mx_not (r : Nat → Nat → Bool) {a b : Nat} (h : a ≠ b) : mx (fun i j => !r i j) a b = !mx r a b := by
  unfold mx
  rw [decide_eq_false h, Bool.false_or, Bool.false_or]
theorem getD_map {f : Nat → Nat} {l : List Nat} {i : Nat} (h : i < l.length) : (l.map f).getD i 0 = f (l.getD i 0) := by
  simp [List.getD_eq_getElem?_getD, List.getElem?_map, List.getElem?_eq_getElem h]
theorem getD_range {n i : Nat} (h : i < n) : (List.range n).getD i 0 = i := by
  simp [List.getD_eq_getElem?_getD, h]
theorem Prm.mk' {n : Nat} {l : List Nat} (hl : l.length = n) (f : Nat → Nat) (hlt : ∀ i, i < n → l.getD i 0 < n) (hf : ∀ i, i < n → f (l.getD i 0) = i) (hg : ∀ i, i < n → f i < n ∧ l.getD (f i) 0 = i) : Prm n l := by
  refine ⟨(List.perm_ext_iff_of_nodup ?_ List.nodup_range).mpr fun x => ?_⟩
  · refine List.pairwise_iff_getElem.mpr fun i j hi hj hij e => ?_
    have h1 := hf i (by omega)
    have h2 := hf j (by omega)
    have e1 : l.getD i 0 = l[i] := by simp [List.getD_eq_getElem?_getD, List.getElem?_eq_getElem hi]
    have e2 : l.getD j 0 = l[j] := by simp [List.getD_eq_getElem?_getD, List.getElem?_eq_getElem hj]
    rw [e1, e] at h1
    rw [e2, h1] at h2
    omega
  · rw [List.mem_range]
    constructor
    · intro hx
      obtain ⟨i, hi, rfl⟩ := List.mem_iff_getElem.mp hx
      have := hlt i (by omega)
      rwa [show l.getD i 0 = l[i] by simp [List.getD_eq_getElem?_getD, List.getElem?_eq_getElem hi]] at this
    · intro hx
      obtain ⟨h1, h2⟩ := hg x hx
      have hi : f x < l.length := by omega
      rw [show l.getD (f x) 0 = l[f x] by simp [List.getD_eq_getElem?_getD, List.getElem?_eq_getElem hi]] at h2
      rw [← h2]; exact List.getElem_mem hi
theorem Prm.iv_eq {n : Nat} {l : List Nat} (h : Prm n l) {i k : Nat} (hk : k < n) (e : at_ l k = i) : iv l i = k := by rw [← e]; exact h.iv_at hk
def bk (n : Nat) (nm : List Nat) : List Nat := (List.range n).map (iv nm)
theorem bk_at {n : Nat} {nm : List Nat} {i : Nat} (hi : i < n) : (bk n nm).getD i 0 = iv nm i := by
  unfold bk
  rw [getD_map (by simpa using hi), getD_range hi]
theorem bk_len {n : Nat} {nm : List Nat} : (bk n nm).length = n := by unfold bk; simp
theorem bk_prm {n : Nat} {nm : List Nat} (h : Prm n nm) : Prm n (bk n nm) := by
  refine Prm.mk' bk_len (at_ nm) (fun i hi => ?_) (fun i hi => ?_) fun i hi => ⟨h.lt hi, ?_⟩
  · rw [bk_at hi]; exact h.ivlt hi
  · rw [bk_at hi]; exact h.at_iv hi
  · rw [bk_at (h.lt hi)]; exact h.iv_at hi
theorem bk_iv {n : Nat} {nm : List Nat} (h : Prm n nm) {i : Nat} (hi : i < n) : iv (bk n nm) i = at_ nm i := (bk_prm h).iv_eq (h.lt hi) ((bk_at (h.lt hi)).trans (h.iv_at hi))
def cm (nm mo : List Nat) : List Nat := nm.map (at_ mo)
theorem cm_at {n : Nat} {nm mo : List Nat} (h : Prm n nm) {i : Nat} (hi : i < n) : (cm nm mo).getD i 0 = at_ mo (at_ nm i) := by
  unfold cm
  rw [getD_map (by rw [h.len]; exact hi)]
theorem cm_prm {n : Nat} {nm mo : List Nat} (h : Prm n nm) (h2 : Prm n mo) : Prm n (cm nm mo) := by
  refine Prm.mk' (by unfold cm; rw [List.length_map, h.len]) (fun i => iv nm (iv mo i)) (fun i hi => ?_) (fun i hi => ?_) fun i hi => ⟨h.ivlt (h2.ivlt hi), ?_⟩
  · rw [cm_at h hi]; exact h2.lt (h.lt hi)
  · show iv nm (iv mo ((cm nm mo).getD i 0)) = i
    rw [cm_at h hi, h2.iv_at (h.lt hi), h.iv_at hi]
  · rw [cm_at h (h.ivlt (h2.ivlt hi)), h.at_iv (h2.ivlt hi), h2.at_iv hi]
theorem cm_iv {n : Nat} {nm mo : List Nat} (h : Prm n nm) (h2 : Prm n mo) {i : Nat} (hi : i < n) : iv (cm nm mo) i = iv nm (iv mo i) :=
  (cm_prm h h2).iv_eq (h.ivlt (h2.ivlt hi)) ((cm_at h (h.ivlt (h2.ivlt hi))).trans (by rw [h.at_iv (h2.ivlt hi), h2.at_iv hi]))
abbrev rn (r : Nat → Nat → Bool) (nm : List Nat) : Nat → Nat → Bool := fun i j => mx r (iv nm i) (iv nm j)
theorem e_back {n : Nat} {r : Nat → Nat → Bool} {nm : List Nat} (h : Prm n nm) : prel n (rn (rn r nm) (bk n nm)) = prel n r := prel_congr fun i j h1 h2 => by
  show mx (fun i j => mx r (iv nm i) (iv nm j)) (iv (bk n nm) i) (iv (bk n nm) j) = r i j
  rw [mx_mx r (iv nm), bk_iv h (show i < n by omega), bk_iv h h2, h.iv_at (show i < n by omega), h.iv_at h2, mx_lt r h1]
theorem e_two {n : Nat} {r : Nat → Nat → Bool} {nm mo : List Nat} (h : Prm n nm) (h2 : Prm n mo) : prel n (rn (rn r nm) mo) = prel n (rn r (cm nm mo)) := prel_congr fun i j h3 h4 => by
  show mx (fun i j => mx r (iv nm i) (iv nm j)) (iv mo i) (iv mo j) = mx r (iv (cm nm mo) i) (iv (cm nm mo) j)
  rw [mx_mx r (iv nm), cm_iv h h2 (show i < n by omega), cm_iv h h2 h4]
theorem e_turn {n : Nat} {r : Nat → Nat → Bool} {nm : List Nat} (h : Prm n nm) : prel n (rn (fun i j => !r i j) nm) = prel n fun i j => !rn r nm i j := prel_congr fun i j h1 h2 => by
  refine mx_not r fun e => ?_
  have := h.at_iv (show i < n by omega)
  rw [e, h.at_iv h2] at this
  omega
theorem e_part {n : Nat} {r : Nat → Nat → Bool} {nm : List Nat} : prel n (fun i j => mx r ((bk n nm).getD i 0) ((bk n nm).getD j 0)) = prel n (rn r nm) := prel_congr fun i j h1 h2 => by
  rw [bk_at (show i < n by omega), bk_at h2]
theorem e_near {n : Nat} {r : Nat → Nat → Bool} {nm : List Nat} (h : Prm n nm) {a : Nat} (ha : a < n) (hn : n ≤ 6) : sortedD [.list (((near_l n (prel n r) a).map (at_ nm)).map DI)] = some ((near_l n (prel n (rn r nm)) (at_ nm a)).map DI) := by
  let I : Nat → Int := fun i => (i : Int)
  have hs : (near_l n (prel n (rn r nm)) (at_ nm a)).map I = sortI (((near_l n (prel n r) a).map (at_ nm)).map I) := by
    refine sortI_eq (List.Perm.map I ?_) ?_
    · refine (List.perm_ext_iff_of_nodup (List.nodup_range.filter _) ?_).mpr fun b => ?_
      · refine List.pairwise_map.mpr (List.Pairwise.imp_of_mem (fun {x y} hx hy hne e => hne ?_) (List.nodup_range.filter (mxb (prel n r) a)))
        have lx := List.mem_range.mp (List.mem_filter.mp hx).1
        have ly := List.mem_range.mp (List.mem_filter.mp hy).1
        rw [← h.iv_at lx, ← h.iv_at ly, e]
      · rw [List.mem_filter, List.mem_range, List.mem_map]
        constructor
        · rintro ⟨hb, hm⟩
          rw [mxb_prel (h.lt ha) hb, mx_mx r (iv nm), h.iv_at ha] at hm
          refine ⟨iv nm b, List.mem_filter.mpr ⟨List.mem_range.mpr (h.ivlt hb), ?_⟩, h.at_iv hb⟩
          rw [mxb_prel ha (h.ivlt hb)]; exact hm
        · rintro ⟨c, hc, rfl⟩
          obtain ⟨c1, c2⟩ := List.mem_filter.mp hc
          have c1 := List.mem_range.mp c1
          rw [mxb_prel ha c1] at c2
          refine ⟨h.lt c1, ?_⟩
          rw [mxb_prel (h.lt ha) (h.lt c1), mx_mx r (iv nm), h.iv_at ha, h.iv_at c1]; exact c2
    · rw [List.pairwise_map]
      refine List.Pairwise.filter _ ?_
      exact (List.pairwise_lt_range (n := n)).imp fun {x y} hxy => by show (x : Int) ≤ (y : Int); omega
  have hlen : (((near_l n (prel n r) a).map (at_ nm)).map DI).length < 64 := by
    rw [List.length_map, List.length_map]
    have : (near_l n (prel n r) a).length ≤ (List.range n).length := List.length_filter_le _ _
    rw [List.length_range] at this; omega
  show (if _ < 64 then _ else none) = _
  rw [if_pos hlen, intsD_nats]
  show some ((sortI (((near_l n (prel n r) a).map (at_ nm)).map I)).map PyData.int) = _
  rw [← hs, List.map_map]; rfl
theorem cut_nats (l : List Nat) (k : Nat) : slD (nats l) none (some ((k : Nat) : Int)) = some (nats (l.take k)) := by
  show some (PyData.tuple (cutD (l.map DI) none (some (k : Int)))) = _
  unfold cutD
  rw [HT.sIx_none, HT.sIx_nat, List.drop_zero, Nat.sub_zero, List.length_map, ← List.map_take]
  congr 3
  rcases Nat.lt_or_ge k l.length with h | h
  · rw [show min k l.length = k by omega]
  · rw [show min k l.length = l.length by omega, List.take_of_length_le (Nat.le_refl _), List.take_of_length_le h]
end PT
namespace L2
open PySem
theorem r_callB {ρ : Ev} {fa fb : FE} {fn : Fn} {d0 bx d2 d o : Dt} (h0 : fa ρ = some (d0, ρ)) (h1 : ρ[1]? = some (some bx)) (h2 : fb ρ = some (d2, ρ)) (hf : fn [d0, bx, d2] = some (d, [o])) : callF fn [none, some 1, none] (consA fa (boxA 1 (consA fb nilA))) ρ = some (d, ρ.set 1 (some o)) := by
  simp only [ap_call, ap_consA, ap_boxA, h0, h1, h2, ap_nilA, Option.bind_some, fill0, fill1, fill2, hf, put0, put1, put2]
theorem r_lrng {ρ : Ev} {fa : FE} {n : Nat} (h : fa ρ = some (.int (n : Int), ρ)) (hn : n ≤ 1000) : lrngF (consA fa nilA) ρ = some (.list ((List.range n).map fun (i : Nat) => PyData.int (i : Int)), ρ) := by
  have key : ∀ j : Int, -(2 ^ 62) ≤ j ∧ j ≤ 16777216 → fa ρ = some (.int j, ρ) → lrngF (consA fa nilA) ρ = some (.list (rngD 0 j.toNat), ρ) := fun j hc hf => by
    unfold lrngF
    rw [ap_consA, hf]
    exact if_pos hc
  rw [key (n : Int) ⟨by omega, by omega⟩ h, rngD0]
  rfl
theorem r_sl {ρ ρ1 ρ2 : Ev} {fe f : FE} {x : Dt} {i : Int} {z : Dt} (h1 : fe ρ = some (x, ρ1)) (h2 : f ρ1 = some (.int i, ρ2)) (h3 : slD x none (some i) = some z) : slF fe noO (someO f) ρ = some (z, ρ2) := by
  unfold slF noO someO
  rw [h1]
  simp only [Option.bind_some, h2, h3]
theorem r_op' {ρ ρ1 ρ2 : Ev} {fa fb : FE} {g : Dt → Dt → Option Dt} {x y z : Dt} (ha : fa ρ = some (x, ρ1)) (hb : fb ρ1 = some (y, ρ2)) (hg : g x y = some z) : opF g fa fb ρ = some (z, ρ2) := by rw [ap_op, ha]; simp only [Option.bind_some, hb, hg]
theorem r_set' {ρ ρ1 : Ev} {fa : FE} {d : Dt} {i : Nat} (h : fa ρ = some (d, ρ1)) : setS i fa ρ = some (.nx, ρ1.set i (some d)) := by rw [ap_set, h]; rfl
theorem r_tuple {ρ : Ev} {fa : FE} {ds : List Dt} (h : fa ρ = some (.list ds, ρ)) : bF tupleD (consA fa nilA) ρ = some (.tuple ds, ρ) := by rw [ap_bF, ap_consA, h]; rfl
theorem r_sorted {ρ : Ev} {fa : FE} {ds es : List Dt} (h : fa ρ = some (.list ds, ρ)) (hs : sortedD [.list ds] = some es) : bFl sortedD (consA fa nilA) ρ = some (.list es, ρ) := by
  rw [ap_bFl, ap_consA, h]
  simp only [Option.bind_some, ap_nilA, hs]
theorem loop_cnt {α : Type} {g : FG} {f : FS} (K : Nat) (P : Nat → Ev → Prop) (e : α → Dt) : ∀ (as : List α) (k : Nat) (ρ : Ev), k + as.length ≤ K → P k ρ → (∀ a ∈ as, ∀ k ρ, k < K → P k ρ → ∃ r r', g (e a) ρ = some r ∧ f r = some (.nx, r') ∧ P (k + 1) r') → ∃ ρ', loopS g f (as.map e) ρ = some (.nx, ρ') ∧ P (k + as.length) ρ'
  | [], k, ρ, _, h, _ => ⟨ρ, rfl, h⟩
  | a :: as, k, ρ, hK, h, s => by
    rw [List.length_cons] at hK
    obtain ⟨r, r', h1, h2, h3⟩ := s a List.mem_cons_self k ρ (by omega) h
    obtain ⟨ρ', e2, h4⟩ := loop_cnt K P e as (k + 1) r' (by omega) h3 fun b hb => s b (List.mem_cons_of_mem _ hb)
    refine ⟨ρ', by rw [List.map_cons, loop_nx h1 h2, e2], ?_⟩
    rw [List.length_cons, show k + (as.length + 1) = k + 1 + as.length by omega]
    exact h4
end L2
namespace PT
open PySem L2 PF
def lE (ns : List Int) (town : List Dt) (x2 x3 x4 x5 x6 x7 x8 x9 x10 x11 x12 : Option Dt) : Ev := [some (scr ns), some (.list town), x2, x3, x4, x5, x6, x7, x8, x9, x10, x11, x12]
def B3 : FS := setS 3 (callF f_law_table_k16 [none, some 1, none] (consA (nameF 0) (boxA 1 (consA (cF (.int 6)) (nilA)))))
def B4 : FS := setS 4 (opF ixD (nameF 3) (cF (.int 0)))
def mx5 : FE := callF f_law_mixed_k16 [none, some 1, none] (consA (nameF 0) (boxA 1 (consA (lrngF (consA (nameF 4) (nilA))) (nilA))))
def B5 : FS := asgS (tupF (consA mx5 (consA mx5 (nilA)))) (tupG 2 (consG (nameG 5) (consG (nameG 6) (nilG))))
def B7 : FS := setS 7 (callF f_renamed [none, none] (consA (nameF 3) (consA (nameF 5) (nilA))))
def C1 : FS := ifS (orT (notT (truF (callF f_law_pairs_hold_k16 [none] (consA (nameF 3) (nilA))))) (orT (notT (truF (callF f_is_table [none] (consA (nameF 7) (nilA))))) (tF (opF neD (callF f_renamed [none, none] (consA (nameF 7) (consA (callF f_law_back_k16 [none] (consA (nameF 5) (nilA))) (nilA)))) (nameF 3))))) (retS (cF (.bool false))) (skipS)
def C2 : FS := ifS (tF (opF neD (callF f_renamed [none, none] (consA (nameF 7) (consA (nameF 6) (nilA)))) (callF f_renamed [none, none] (consA (nameF 3) (consA (bF tupleD (consA (lcF (seqI (nameF 5)) [11] (nameG 11) (yesT) (opF ixD (nameF 6) (nameF 11))) (nilA))) (nilA)))))) (retS (cF (.bool false))) (skipS)
def C3 : FS := ifS (orT (tF (opF neD (callF f_renamed [none, none] (consA (callF f_turned [none] (consA (nameF 3) (nilA))) (consA (nameF 5) (nilA)))) (callF f_turned [none] (consA (nameF 7) (nilA))))) (tF (opF neD (callF f_part [none, none] (consA (nameF 3) (consA (callF f_law_back_k16 [none] (consA (nameF 5) (nilA))) (nilA)))) (nameF 7)))) (retS (cF (.bool false))) (skipS)
def D8 : FS := ifS (tF (opF neD (callF f_near [none, none] (consA (nameF 7) (consA (opF ixD (nameF 5) (nameF 8)) (nilA)))) (bF tupleD (consA (bFl sortedD (consA (lcF (seqI (callF f_near [none, none] (consA (nameF 3) (consA (nameF 8) (nilA))))) [12] (nameG 12) (yesT) (opF ixD (nameF 5) (nameF 12))) (nilA))) (nilA))))) (retS (cF (.bool false))) (skipS)
def F8 : FS := forS (rng1I (consA (nameF 4) (nilA))) (nameG 8) D8
def B9 : FS := setS 9 (slF (nameF 5) (noO) (someO (opF addD (cF (.int 1)) (callF f_law_draw_k16 [none, some 1, none] (consA (nameF 0) (boxA 1 (consA (nameF 4) (nilA))))))))
def B10 : FS := setS 10 (slF (callF f_law_mixed_k16 [none, some 1, none] (consA (nameF 0) (boxA 1 (consA (lrngF (consA (bF lenD (consA (nameF 9) (nilA))) (nilA))) (nilA))))) (noO) (someO (opF addD (cF (.int 1)) (callF f_law_draw_k16 [none, some 1, none] (consA (nameF 0) (boxA 1 (consA (bF lenD (consA (nameF 9) (nilA))) (nilA))))))))
def C4 : FS := ifS (tF (opF neD (callF f_part [none, none] (consA (callF f_part [none, none] (consA (nameF 3) (consA (nameF 9) (nilA)))) (consA (nameF 10) (nilA)))) (callF f_part [none, none] (consA (nameF 3) (consA (bF tupleD (consA (lcF (seqI (nameF 10)) [12] (nameG 12) (yesT) (opF ixD (nameF 9) (nameF 12))) (nilA))) (nilA)))))) (retS (cF (.bool false))) (skipS)
def C5 : FS := ifS (tF (opF neD (callF f_turned [none] (consA (callF f_part [none, none] (consA (nameF 3) (consA (nameF 9) (nilA)))) (nilA))) (callF f_part [none, none] (consA (callF f_turned [none] (consA (nameF 3) (nilA))) (consA (nameF 9) (nilA)))))) (retS (cF (.bool false))) (skipS)
def tBody : FS := seqS B3 (seqS B4 (seqS B5 (seqS B7 (seqS C1 (seqS C2 (seqS C3 (seqS F8 (seqS B9 (seqS B10 (seqS C4 C5))))))))))
theorem b_law_eq : b_law_k16 = seqS (setS 1 (lstF (nilA))) (seqS (forS (rng1I (consA (cF (.int 6)) (nilA))) (nameG 2) tBody) (retS (cF (.bool true)))) := rfl
theorem pick_lc {ρ : Ev} {k : Nat} {fi : FI} {f2 fk : FE} {l1 l2 : List Nat} {own : Nat} (hi : fi ρ = some (l1.map DI, ρ)) (hlt : ∀ x ∈ l1, x < l2.length)
    (h2 : ∀ d, f2 ((wipeE ρ [own]).set own (some d)) = some (nats l2, (wipeE ρ [own]).set own (some d))) (hk : ∀ d, fk ((wipeE ρ [own]).set own (some d)) = some (d, (wipeE ρ [own]).set own (some d))) (hw : ∀ d, wipeE ((wipeE ρ [own]).set own (some d)) [own] = wipeE ρ [own]) (hb : backE ρ (wipeE ρ [own]) [own] = ρ) :
    lcF fi [own] (nameG own) yesT (opF ixD f2 fk) ρ = some (.list ((l1.map (at_ l2)).map DI), ρ) := by
  have lc := lc_of (own := [own]) (g := nameG own) (t := yesT) (fe := opF ixD f2 fk) (ρ0 := wipeE ρ [own]) DI (fun _ => true) (fun x => DI (at_ l2 x)) l1 fun x hx => ⟨(wipeE ρ [own]).set own (some (DI x)), rfl, rfl, fun _ => r_op (h2 _) (hk _) (ix_nats (hlt x hx)), hw _⟩
  rw [List.filter_eq_self.mpr (fun _ _ => rfl)] at lc
  rw [ap_lc, hi]
  simp only [Option.bind_some]
  rw [lc]
  simp only [Option.bind_some, hb, List.map_map]
  rfl
end PT
namespace PT
open PySem L2 PF
section
variable {ns : List Int} {town : List Dt} {x2 x3 x4 x5 x6 x7 x8 x9 x10 x11 x12 : Option Dt} {n : Nat} {r : Nat → Nat → Bool} {nm mo : List Nat}
theorem u3 (ht : town.length < 600) : ∃ n r t1, 1 ≤ n ∧ n ≤ 6 ∧ t1.length ≤ town.length + 38 ∧ B3 (lE ns town x2 x3 x4 x5 x6 x7 x8 x9 x10 x11 x12) = some (.nx, lE ns t1 x2 (some (tb n (prel n r))) x4 x5 x6 x7 x8 x9 x10 x11 x12) := by
  obtain ⟨n, r, t1, h1, hn, hw1, e3⟩ := table_ok ns town (by omega)
  refine ⟨n, r, t1, h1, hn, hw1, ?_⟩
  unfold B3
  rw [r_set' (r_callB (d0 := scr ns) (bx := .list town) (d2 := DI 6) rfl rfl rfl e3)]
  rfl
theorem u4 : B4 (lE ns town x2 (some (tb n (prel n r))) x4 x5 x6 x7 x8 x9 x10 x11 x12) = some (.nx, lE ns town x2 (some (tb n (prel n r))) (some (DI n)) x5 x6 x7 x8 x9 x10 x11 x12) := rfl
theorem u5a (hn : n ≤ 6) (ht : town.length < 900) : ∃ nm t1, Prm n nm ∧ t1.length ≤ town.length + 6 ∧ mx5 (lE ns town x2 x3 (some (DI n)) x5 x6 x7 x8 x9 x10 x11 x12) = some (nats nm, lE ns t1 x2 x3 (some (DI n)) x5 x6 x7 x8 x9 x10 x11 x12) := by
  obtain ⟨nm, t1, e, hp, hw⟩ := lmixed_ok ns town (List.range n) (by rw [List.length_range]; omega) (by rw [List.length_range]; omega)
  rw [List.length_range] at hw
  refine ⟨nm, t1, ⟨hp⟩, by omega, ?_⟩
  unfold mx5
  rw [r_callB (d0 := scr ns) (bx := .list town) rfl rfl (r_lrng (n := n) rfl (by omega)) e]
  rfl
theorem u5 (hn : n ≤ 6) (ht : town.length < 800) : ∃ nm mo t1, Prm n nm ∧ Prm n mo ∧ t1.length ≤ town.length + 12 ∧ B5 (lE ns town x2 x3 (some (DI n)) x5 x6 x7 x8 x9 x10 x11 x12) = some (.nx, lE ns t1 x2 x3 (some (DI n)) (some (nats nm)) (some (nats mo)) x7 x8 x9 x10 x11 x12) := by
  obtain ⟨nm, t1, p1, w1, e1⟩ := u5a (ns := ns) (town := town) (x2 := x2) (x3 := x3) (x5 := x5) (x6 := x6) (x7 := x7) (x8 := x8) (x9 := x9) (x10 := x10) (x11 := x11) (x12 := x12) hn (by omega)
  obtain ⟨mo, t2, p2, w2, e2⟩ := u5a (ns := ns) (town := t1) (x2 := x2) (x3 := x3) (x5 := x5) (x6 := x6) (x7 := x7) (x8 := x8) (x9 := x9) (x10 := x10) (x11 := x11) (x12 := x12) hn (by omega)
  refine ⟨nm, mo, t2, p1, p2, by omega, ?_⟩
  unfold B5
  rw [ap_asg, ap_tup, ap_consA, e1]
  simp only [Option.bind_some, ap_consA, e2, ap_nilA]
  rfl
theorem u7 (hn : n ≤ 6) (hp : Prm n nm) : B7 (lE ns town x2 (some (tb n (prel n r))) x4 (some (nats nm)) x6 x7 x8 x9 x10 x11 x12) = some (.nx, lE ns town x2 (some (tb n (prel n r))) x4 (some (nats nm)) x6 (some (tb n (prel n (rn r nm)))) x8 x9 x10 x11 x12) := by
  unfold B7
  rw [r_set' (r_call2 (d0 := tb n (prel n r)) (d1 := nats nm) rfl rfl (renamed_ok hn hp))]
  rfl
theorem v1 (h1 : 1 ≤ n) (hn : n ≤ 6) (hp : Prm n nm) {E : Ev} (hE : E = lE ns town x2 (some (tb n (prel n r))) x4 (some (nats nm)) x6 (some (tb n (prel n (rn r nm)))) x8 x9 x10 x11 x12) : C1 E = some (.nx, E) := by
  have n3 : nameF 3 E = some (tb n (prel n r), E) := by rw [hE]; rfl
  have n5 : nameF 5 E = some (nats nm, E) := by rw [hE]; rfl
  have n7 : nameF 7 E = some (tb n (prel n (rn r nm)), E) := by rw [hE]; rfl
  have cb := r_call1 n5 (back_ok hn hp)
  have rb : f_renamed [tb n (prel n (rn r nm)), nats (bk n nm)] = some (tb n (prel n r), []) := by
    have := renamed_ok (r := rn r nm) hn (bk_prm hp)
    rw [this]
    rw [show prel n (fun i j => mx (rn r nm) (iv (bk n nm) i) (iv (bk n nm) j)) = prel n r from e_back hp]
  unfold C1
  rw [r_ifF (r_or (r_not (r_tru (r_call1 n3 (pairs_hold_ok h1 hn)))) (r_or (r_not (r_tru (r_call1 n7 (is_table_ok h1 hn)))) (r_tF (r_op (r_call2 n7 cb rb) n3 (tb_ne _ _))))), ap_skip]
theorem v2 (hn : n ≤ 6) (hp : Prm n nm) (hp2 : Prm n mo) {E : Ev} (hE : E = lE ns town x2 (some (tb n (prel n r))) x4 (some (nats nm)) (some (nats mo)) (some (tb n (prel n (rn r nm)))) x8 x9 x10 x11 x12) : C2 E = some (.nx, E) := by
  have n3 : nameF 3 E = some (tb n (prel n r), E) := by rw [hE]; rfl
  have n6 : nameF 6 E = some (nats mo, E) := by rw [hE]; rfl
  have n7 : nameF 7 E = some (tb n (prel n (rn r nm)), E) := by rw [hE]; rfl
  have lc : lcF (seqI (nameF 5)) [11] (nameG 11) (yesT) (opF ixD (nameF 6) (nameF 11)) E = some (.list ((cm nm mo).map DI), E) := by
    refine pick_lc (k := 0) (l1 := nm) (l2 := mo) ?_ (fun x hx => by rw [hp2.len]; exact hp.mem.mp hx) (fun d => ?_) (fun d => ?_) (fun d => ?_) ?_
    all_goals (rw [hE]; rfl)
  have hc : f_renamed [tb n (prel n r), nats (cm nm mo)] = some (tb n (prel n (rn r (cm nm mo))), []) := renamed_ok hn (cm_prm hp hp2)
  have hl : f_renamed [tb n (prel n (rn r nm)), nats mo] = some (tb n (prel n (rn r (cm nm mo))), []) := by
    rw [← e_two hp hp2]; exact renamed_ok hn hp2
  unfold C2
  rw [r_ifF (r_tF (r_op (r_call2 n7 n6 hl) (r_call2 n3 (r_tuple lc) hc) (tb_ne _ _))), ap_skip]
theorem v3 (hn : n ≤ 6) (hp : Prm n nm) {E : Ev} (hE : E = lE ns town x2 (some (tb n (prel n r))) x4 (some (nats nm)) x6 (some (tb n (prel n (rn r nm)))) x8 x9 x10 x11 x12) : C3 E = some (.nx, E) := by
  have n3 : nameF 3 E = some (tb n (prel n r), E) := by rw [hE]; rfl
  have n5 : nameF 5 E = some (nats nm, E) := by rw [hE]; rfl
  have n7 : nameF 7 E = some (tb n (prel n (rn r nm)), E) := by rw [hE]; rfl
  have cb : callF f_law_back_k16 [none] (consA (nameF 5) (nilA)) E = some (nats (bk n nm), E) := r_call1 n5 (back_ok hn hp)
  have a1 : f_renamed [tb n (prel n fun i j => !r i j), nats nm] = some (tb n (prel n fun i j => !rn r nm i j), []) := by
    rw [← e_turn hp]; exact renamed_ok hn hp
  have a2 : f_turned [tb n (prel n (rn r nm))] = some (tb n (prel n fun i j => !rn r nm i j), []) := turned_ok hn
  have a3 : f_part [tb n (prel n r), nats (bk n nm)] = some (tb n (prel n (rn r nm)), []) := by
    have := part_ok (n := n) (r := r) (sg := bk n nm) hn (by rw [bk_len]; exact hn) (fun x hx => (bk_prm hp).mem.mp hx)
    rw [bk_len, e_part] at this
    exact this
  unfold C3
  rw [r_ifF (r_or (r_tF (r_op (r_call2 (r_call1 n3 (turned_ok hn)) n5 a1) (r_call1 n7 a2) (tb_ne _ _))) (r_tF (r_op (r_call2 n3 cb a3) n7 (tb_ne _ _)))), ap_skip]
theorem v8 (hn : n ≤ 6) (hp : Prm n nm) {a : Nat} (ha : a < n) {E : Ev} (hE : E = lE ns town x2 (some (tb n (prel n r))) x4 (some (nats nm)) x6 (some (tb n (prel n (rn r nm)))) (some (DI a)) x9 x10 x11 x12) : D8 E = some (.nx, E) := by
  have n3 : nameF 3 E = some (tb n (prel n r), E) := by rw [hE]; rfl
  have n5 : nameF 5 E = some (nats nm, E) := by rw [hE]; rfl
  have n7 : nameF 7 E = some (tb n (prel n (rn r nm)), E) := by rw [hE]; rfl
  have n8 : nameF 8 E = some (DI a, E) := by rw [hE]; rfl
  have c1 := r_call2 n7 (r_op n5 n8 (ix_nats (by rw [hp.len]; exact ha))) (near_ok (ris_prel (r := rn r nm) hn) (len_prel hn) (show n ≤ 1000 by omega) (at_ nm a))
  have ci : seqI (callF f_near [none, none] (consA (nameF 3) (consA (nameF 8) (nilA)))) E = some ((near_l n (prel n r) a).map DI, E) := by
    rw [ap_seqI, r_call2 n3 n8 (near_ok (ris_prel (r := r) hn) (len_prel hn) (show n ≤ 1000 by omega) a)]
    rfl
  have lc : lcF (seqI (callF f_near [none, none] (consA (nameF 3) (consA (nameF 8) (nilA))))) [12] (nameG 12) (yesT) (opF ixD (nameF 5) (nameF 12)) E = some (.list (((near_l n (prel n r) a).map (at_ nm)).map DI), E) := by
    refine pick_lc (k := 0) (l1 := near_l n (prel n r) a) (l2 := nm) ci (fun x hx => by rw [hp.len]; exact List.mem_range.mp (List.mem_filter.mp hx).1) (fun d => ?_) (fun d => ?_) (fun d => ?_) ?_
    all_goals (rw [hE]; rfl)
  unfold D8
  rw [r_ifF (r_tF (r_op c1 (r_tuple (r_sorted lc (e_near hp ha hn))) (nats_ne _))), ap_skip]
theorem w8 (hn : n ≤ 6) (hp : Prm n nm) : ∃ y8, F8 (lE ns town x2 (some (tb n (prel n r))) (some (DI n)) (some (nats nm)) x6 (some (tb n (prel n (rn r nm)))) x8 x9 x10 x11 x12) = some (.nx, lE ns town x2 (some (tb n (prel n r))) (some (DI n)) (some (nats nm)) x6 (some (tb n (prel n (rn r nm)))) y8 x9 x10 x11 x12) := by
  have hr1 := rng1_ok (fr := consA (nameF 4) (nilA)) (ρ := lE ns town x2 (some (tb n (prel n r))) (some (DI n)) (some (nats nm)) x6 (some (tb n (prel n (rn r nm)))) x8 x9 x10 x11 x12) (b := n) rfl (by omega)
  obtain ⟨ρ', e1, y8, rfl⟩ := loop_all (g := nameG 8) (f := D8) (fun ρ => ∃ y, ρ = lE ns town x2 (some (tb n (prel n r))) (some (DI n)) (some (nats nm)) x6 (some (tb n (prel n (rn r nm)))) y x9 x10 x11 x12) DI (List.range n) _ ⟨x8, rfl⟩ (fun a ha ρ ⟨y, hρ⟩ => ⟨lE ns town x2 (some (tb n (prel n r))) (some (DI n)) (some (nats nm)) x6 (some (tb n (prel n (rn r nm)))) (some (DI a)) x9 x10 x11 x12, _, by rw [hρ]; rfl, v8 hn hp (List.mem_range.mp ha) rfl, _, rfl⟩)
  exact ⟨y8, by unfold F8; rw [ap_for, hr1]; exact e1⟩
end
section
variable {ns : List Int} {town : List Dt} {x2 x3 x4 x5 x6 x7 x8 x9 x10 x11 x12 : Option Dt} {n : Nat} {r : Nat → Nat → Bool} {nm mo sg pl : List Nat}
theorem add1 (v : Nat) : addD (.int 1) (DI v) = some (DI (1 + v)) := by
  show some (PyData.int (1 + (v : Int))) = _
  congr 2
structure Sub (n : Nat) (l : List Nat) : Prop where
  lt : ∀ x ∈ l, x < n
  nd : l.Nodup
  pos : 1 ≤ l.length
  le : l.length ≤ n
theorem Prm.sub {k : Nat} (h : Prm n nm) (h1 : 1 ≤ k) (h2 : k ≤ n) : Sub n (nm.take k) := by
  have hl : (nm.take k).length = k := by rw [List.length_take, h.len]; omega
  exact ⟨fun x hx => h.mem.mp (List.mem_of_mem_take hx), h.nd.sublist (List.take_sublist _ _), by omega, by omega⟩
theorem u9 (h1 : 1 ≤ n) (hp : Prm n nm) (ht : town.length < 900) : ∃ sg t1, Sub n sg ∧ t1.length ≤ town.length + 1 ∧ B9 (lE ns town x2 x3 (some (DI n)) (some (nats nm)) x6 x7 x8 x9 x10 x11 x12) = some (.nx, lE ns t1 x2 x3 (some (DI n)) (some (nats nm)) x6 x7 x8 (some (nats sg)) x10 x11 x12) := by
  obtain ⟨v, hv, e⟩ := draw_call (ρ := lE ns town x2 x3 (some (DI n)) (some (nats nm)) x6 x7 x8 x9 x10 x11 x12) (fe := nameF 4) (ns := ns) (town := town) (m := n) rfl rfl rfl (by omega) (by omega)
  have hw : (town ++ [PyData.int 0]).length = town.length + 1 := by simp
  generalize town ++ [PyData.int 0] = tw at e hw
  refine ⟨nm.take (1 + v), tw, hp.sub (by omega) (by omega), by omega, ?_⟩
  unfold B9
  rw [r_set' (r_sl (x := nats nm) rfl (r_op' (ap_c _ _) e (add1 v)) (cut_nats nm (1 + v)))]
  rfl
theorem u10 (hn : n ≤ 6) (hs : Sub n sg) (ht : town.length < 800) : ∃ pl t1, Sub sg.length pl ∧ t1.length ≤ town.length + 7 ∧ B10 (lE ns town x2 x3 x4 x5 x6 x7 x8 (some (nats sg)) x10 x11 x12) = some (.nx, lE ns t1 x2 x3 x4 x5 x6 x7 x8 (some (nats sg)) (some (nats pl)) x11 x12) := by
  have hk := hs.le
  have hk1 := hs.pos
  obtain ⟨p0, t1, e1, hp, hw1⟩ := lmixed_ok ns town (List.range sg.length) (by rw [List.length_range]; omega) (by rw [List.length_range]; omega)
  rw [List.length_range] at hw1
  have ll : ∀ t : List Dt, bF lenD (consA (nameF 9) (nilA)) (lE ns t x2 x3 x4 x5 x6 x7 x8 (some (nats sg)) x10 x11 x12) = some (DI sg.length, lE ns t x2 x3 x4 x5 x6 x7 x8 (some (nats sg)) x10 x11 x12) := fun t => by
    rw [ap_bF, ap_consA, show nameF 9 (lE ns t x2 x3 x4 x5 x6 x7 x8 (some (nats sg)) x10 x11 x12) = some (nats sg, lE ns t x2 x3 x4 x5 x6 x7 x8 (some (nats sg)) x10 x11 x12) from rfl]
    simp only [Option.bind_some, ap_nilA, lenD_nats]
  have c1 := r_callB (fn := f_law_mixed_k16) (fa := nameF 0) (d0 := scr ns) (bx := .list town) (ρ := lE ns town x2 x3 x4 x5 x6 x7 x8 (some (nats sg)) x10 x11 x12) rfl rfl (r_lrng (n := sg.length) (ll town) (by omega)) e1
  have c1' : callF f_law_mixed_k16 [none, some 1, none] (consA (nameF 0) (boxA 1 (consA (lrngF (consA (bF lenD (consA (nameF 9) (nilA))) (nilA))) (nilA)))) (lE ns town x2 x3 x4 x5 x6 x7 x8 (some (nats sg)) x10 x11 x12) = some (nats p0, lE ns t1 x2 x3 x4 x5 x6 x7 x8 (some (nats sg)) x10 x11 x12) := c1
  obtain ⟨v, hv, e⟩ := draw_call (ρ := lE ns t1 x2 x3 x4 x5 x6 x7 x8 (some (nats sg)) x10 x11 x12) (fe := bF lenD (consA (nameF 9) (nilA))) (ns := ns) (town := t1) (m := sg.length) rfl rfl (ll t1) (by omega) (by omega)
  have hw : (t1 ++ [PyData.int 0]).length = t1.length + 1 := by simp
  generalize t1 ++ [PyData.int 0] = tw at e hw
  have hP : Prm sg.length p0 := ⟨hp⟩
  refine ⟨p0.take (1 + v), tw, hP.sub (by omega) (by omega), by omega, ?_⟩
  unfold B10
  rw [r_set' (r_sl c1' (r_op' (ap_c _ _) e (add1 v)) (cut_nats p0 (1 + v)))]
  rfl
theorem v4 (hn : n ≤ 6) (hs : Sub n sg) (hl : Sub sg.length pl) {E : Ev} (hE : E = lE ns town x2 (some (tb n (prel n r))) x4 x5 x6 x7 x8 (some (nats sg)) (some (nats pl)) x11 x12) : C4 E = some (.nx, E) := by
  have hk := hs.le
  have hk2 := hl.le
  have n3 : nameF 3 E = some (tb n (prel n r), E) := by rw [hE]; rfl
  have n9 : nameF 9 E = some (nats sg, E) := by rw [hE]; rfl
  have n10 : nameF 10 E = some (nats pl, E) := by rw [hE]; rfl
  have p1 := part_ok (n := n) (r := r) (sg := sg) hn (by omega) hs.lt
  have p2 := part_ok (n := sg.length) (r := fun i j => mx r (sg.getD i 0) (sg.getD j 0)) (sg := pl) (by omega) (by omega) hl.lt
  have hm : (pl.map (at_ sg)).length = pl.length := List.length_map ..
  have p3 := part_ok (n := n) (r := r) (sg := pl.map (at_ sg)) hn (by rw [hm]; omega) (fun x hx => by
    obtain ⟨y, hy, rfl⟩ := List.mem_map.mp hx
    have hy := hl.lt y hy
    show sg.getD y 0 < n
    rw [List.getD_eq_getElem?_getD, List.getElem?_eq_getElem hy]; exact hs.lt _ (List.getElem_mem hy))
  have q3 : prel pl.length (fun i j => mx r ((pl.map (at_ sg)).getD i 0) ((pl.map (at_ sg)).getD j 0)) = prel pl.length (fun i j => mx (fun i j => mx r (sg.getD i 0) (sg.getD j 0)) (pl.getD i 0) (pl.getD j 0)) := prel_congr fun i j h3 h4 => by
    rw [getD_map (show i < pl.length by omega), getD_map h4, mx_mx r (fun i => sg.getD i 0)]
  rw [hm, q3] at p3
  have lc : lcF (seqI (nameF 10)) [12] (nameG 12) (yesT) (opF ixD (nameF 9) (nameF 12)) E = some (.list ((pl.map (at_ sg)).map DI), E) := by
    refine pick_lc (k := 0) (l1 := pl) (l2 := sg) ?_ hl.lt (fun d => ?_) (fun d => ?_) (fun d => ?_) ?_
    all_goals (rw [hE]; rfl)
  unfold C4
  rw [r_ifF (r_tF (r_op (r_call2 (r_call2 n3 n9 p1) n10 p2) (r_call2 n3 (r_tuple lc) p3) (tb_ne _ _))), ap_skip]
theorem v5 (hn : n ≤ 6) (hs : Sub n sg) {E : Ev} (hE : E = lE ns town x2 (some (tb n (prel n r))) x4 x5 x6 x7 x8 (some (nats sg)) x10 x11 x12) : C5 E = some (.nx, E) := by
  have hk := hs.le
  have n3 : nameF 3 E = some (tb n (prel n r), E) := by rw [hE]; rfl
  have n9 : nameF 9 E = some (nats sg, E) := by rw [hE]; rfl
  have p1 := part_ok (n := n) (r := r) (sg := sg) hn (by omega) hs.lt
  have p2 := part_ok (n := n) (r := fun i j => !r i j) (sg := sg) hn (by omega) hs.lt
  have p3 := turned_ok (n := sg.length) (r := fun i j => mx r (sg.getD i 0) (sg.getD j 0)) (by omega)
  have q2 : prel sg.length (fun i j => mx (fun i j => !r i j) (sg.getD i 0) (sg.getD j 0)) = prel sg.length (fun i j => !mx r (sg.getD i 0) (sg.getD j 0)) := prel_congr fun i j h3 h4 => by
    refine mx_not r fun e => ?_
    have hi : i < sg.length := by omega
    rw [List.getD_eq_getElem?_getD, List.getD_eq_getElem?_getD, List.getElem?_eq_getElem hi, List.getElem?_eq_getElem h4] at e
    exact (List.pairwise_iff_getElem.mp hs.nd i j hi h4 h3) e
  rw [q2] at p2
  unfold C5
  rw [r_ifF (r_tF (r_op (r_call1 (r_call2 n3 n9 p1) p3) (r_call2 (r_call1 n3 (turned_ok hn)) n9 p2) (tb_ne _ _))), ap_skip]
theorem turn (ht : town.length < 500) : ∃ t y3 y4 y5 y6 y7 y8 y9 y10, tBody (lE ns town x2 x3 x4 x5 x6 x7 x8 x9 x10 x11 x12) = some (.nx, lE ns t x2 y3 y4 y5 y6 y7 y8 y9 y10 x11 x12) ∧ t.length ≤ town.length + 60 := by
  obtain ⟨n, r, t1, h1, hn, w1, e3⟩ := u3 (ns := ns) (x2 := x2) (x3 := x3) (x4 := x4) (x5 := x5) (x6 := x6) (x7 := x7) (x8 := x8) (x9 := x9) (x10 := x10) (x11 := x11) (x12 := x12) (town := town) (by omega)
  have e4 := u4 (ns := ns) (town := t1) (n := n) (r := r) (x2 := x2) (x4 := x4) (x5 := x5) (x6 := x6) (x7 := x7) (x8 := x8) (x9 := x9) (x10 := x10) (x11 := x11) (x12 := x12)
  obtain ⟨nm, mo, t2, p1, p2, w2, e5⟩ := u5 (ns := ns) (town := t1) (x2 := x2) (x3 := some (tb n (prel n r))) (x5 := x5) (x6 := x6) (x7 := x7) (x8 := x8) (x9 := x9) (x10 := x10) (x11 := x11) (x12 := x12) hn (by omega)
  have e7 := u7 (ns := ns) (town := t2) (r := r) (x2 := x2) (x4 := some (DI n)) (x6 := some (nats mo)) (x7 := x7) (x8 := x8) (x9 := x9) (x10 := x10) (x11 := x11) (x12 := x12) hn p1
  have c1 := v1 (ns := ns) (town := t2) (r := r) (x2 := x2) (x4 := some (DI n)) (x6 := some (nats mo)) (x8 := x8) (x9 := x9) (x10 := x10) (x11 := x11) (x12 := x12) h1 hn p1 rfl
  have c2 := v2 (ns := ns) (town := t2) (r := r) (x2 := x2) (x4 := some (DI n)) (x8 := x8) (x9 := x9) (x10 := x10) (x11 := x11) (x12 := x12) hn p1 p2 rfl
  have c3 := v3 (ns := ns) (town := t2) (r := r) (x2 := x2) (x4 := some (DI n)) (x6 := some (nats mo)) (x8 := x8) (x9 := x9) (x10 := x10) (x11 := x11) (x12 := x12) hn p1 rfl
  obtain ⟨y8, e8⟩ := w8 (ns := ns) (town := t2) (r := r) (x2 := x2) (x6 := some (nats mo)) (x8 := x8) (x9 := x9) (x10 := x10) (x11 := x11) (x12 := x12) hn p1
  obtain ⟨sg, t3, hs, w3, e9⟩ := u9 (ns := ns) (town := t2) (x2 := x2) (x3 := some (tb n (prel n r))) (x6 := some (nats mo)) (x7 := some (tb n (prel n (rn r nm)))) (x8 := y8) (x9 := x9) (x10 := x10) (x11 := x11) (x12 := x12) h1 p1 (by omega)
  obtain ⟨pl, t4, hl, w4, e10⟩ := u10 (ns := ns) (town := t3) (x2 := x2) (x3 := some (tb n (prel n r))) (x4 := some (DI n)) (x5 := some (nats nm)) (x6 := some (nats mo)) (x7 := some (tb n (prel n (rn r nm)))) (x8 := y8) (x10 := x10) (x11 := x11) (x12 := x12) hn hs (by omega)
  have c4 := v4 (ns := ns) (town := t4) (r := r) (x2 := x2) (x4 := some (DI n)) (x5 := some (nats nm)) (x6 := some (nats mo)) (x7 := some (tb n (prel n (rn r nm)))) (x8 := y8) (x11 := x11) (x12 := x12) hn hs hl rfl
  have c5 := v5 (ns := ns) (town := t4) (r := r) (x2 := x2) (x4 := some (DI n)) (x5 := some (nats nm)) (x6 := some (nats mo)) (x7 := some (tb n (prel n (rn r nm)))) (x8 := y8) (x10 := some (nats pl)) (x11 := x11) (x12 := x12) hn hs rfl
  refine ⟨t4, some (tb n (prel n r)), some (DI n), some (nats nm), some (nats mo), some (tb n (prel n (rn r nm))), y8, some (nats sg), some (nats pl), ?_, by omega⟩
  unfold tBody
  rw [r_seq e3, r_seq e4, r_seq e5, r_seq e7, r_seq c1, r_seq c2, r_seq c3, r_seq e8, r_seq e9, r_seq e10, r_seq c4]
  exact c5
end
theorem main (ns : List Int) (h : ns.length ≤ 63) : f_law_k16 [.list (ns.map PyData.int)] = some (.bool true, []) := by
  have g1 : setS 1 (lstF (nilA)) [some (scr ns), none, none, none, none, none, none, none, none, none, none, none, none] = some (.nx, lE ns [] none none none none none none none none none none none) := rfl
  have hr1 := rng1_ok (fr := consA (cF (.int 6)) (nilA)) (ρ := lE ns [] none none none none none none none none none none none) (b := 6) rfl (by omega)
  obtain ⟨ρ', e1, t, x2, x3, x4, x5, x6, x7, x8, x9, x10, x11, x12, rfl, _⟩ := loop_cnt (g := nameG 2) (f := tBody) 6 (fun k ρ => ∃ t x2 x3 x4 x5 x6 x7 x8 x9 x10 x11 x12, ρ = lE ns t x2 x3 x4 x5 x6 x7 x8 x9 x10 x11 x12 ∧ t.length ≤ 60 * k) DI (List.range 6) 0 (lE ns [] none none none none none none none none none none none) (by decide) ⟨[], _, _, _, _, _, _, _, _, _, _, _, rfl, by simp⟩ (fun a _ k ρ hk ⟨t, x2, x3, x4, x5, x6, x7, x8, x9, x10, x11, x12, hρ, ht⟩ => by
    obtain ⟨t', y3, y4, y5, y6, y7, y8, y9, y10, e, hw⟩ := turn (ns := ns) (town := t) (x2 := some (DI a)) (x3 := x3) (x4 := x4) (x5 := x5) (x6 := x6) (x7 := x7) (x8 := x8) (x9 := x9) (x10 := x10) (x11 := x11) (x12 := x12) (by omega)
    exact ⟨lE ns t (some (DI a)) x3 x4 x5 x6 x7 x8 x9 x10 x11 x12, _, by rw [hρ]; rfl, e, t', _, _, _, _, _, _, _, _, _, _, _, rfl, by omega⟩)
  have g2 : forS (rng1I (consA (cF (.int 6)) (nilA))) (nameG 2) tBody (lE ns [] none none none none none none none none none none none) = some (.nx, lE ns t x2 x3 x4 x5 x6 x7 x8 x9 x10 x11 x12) := by rw [ap_for, hr1]; exact e1
  show fnM 13 [false] b_law_k16 _ = _
  rw [ap_fnM]
  show ((b_law_k16 [some (scr ns), none, none, none, none, none, none, none, none, none, none, none, none]).bind _) = _
  have hb : b_law_k16 [some (scr ns), none, none, none, none, none, none, none, none, none, none, none, none] = some (.rt (.bool true), lE ns t x2 x3 x4 x5 x6 x7 x8 x9 x10 x11 x12) := by
    rw [b_law_eq, r_seq g1, r_seq g2]
    rfl
  rw [hb]; rfl
end PT
namespace L2
open PySem
section
variable (ρ : Ev)
theorem ap_tupG (n : Nat) (g : List Dt → Ev → Option Ev) (ds : List Dt) (h : ds.length = n) : tupG n g (.tuple ds) ρ = g ds ρ := by unfold tupG; simp [h]
theorem ap_isN (f : FE) : isN f ρ = (f ρ).bind fun p => some (.bool (noneD p.1), p.2) := rfl
theorem ap_isNN (f : FE) : isNN f ρ = (f ρ).bind fun p => some (.bool (!noneD p.1), p.2) := rfl
theorem ap_unF (g : Dt → Option Dt) (f : FE) : unF g f ρ = (f ρ).bind fun p => (g p.1).bind fun z => some (z, p.2) := rfl
theorem ap_someO (f : FE) : someO f ρ = (f ρ).bind fun p => match p.1 with | .int i => some (some i, p.2) | _ => none := rfl
theorem ap_sl (fe : FE) (fl fh : FO) : slF fe fl fh ρ = (fe ρ).bind fun x => (fl x.2).bind fun l => (fh l.2).bind fun h => (slD x.1 l.1 h.1).bind fun r => some (r, h.2) := rfl
end
end L2
namespace L2
open PySem
end L2
namespace PT
open PySem L2 PF
def mxw (r : Nat → Nat → Bool) (u v : List Nat) : Bool := (u.zip v).all fun p => mx r p.1 p.2
end PT
namespace PT
open PySem L2 PF
end PT
namespace L2
open PySem _root_.PT
def W1 {α : Type} (o : Option α) (Q : α → Prop) : Prop := ∃ a, o = some a ∧ Q a
def W2 {α β : Type} (o : Option (α × β)) (Q : α → β → Prop) : Prop := ∃ a b, o = some (a, b) ∧ Q a b
theorem w1 {α : Type} {o : Option α} {Q : α → Prop} {a : α} (h : o = some a) (k : Q a) : W1 o Q := ⟨a, h, k⟩
theorem w2 {α β : Type} {o : Option (α × β)} {Q : α → β → Prop} {a : α} {b : β} (h : o = some (a, b)) (k : Q a b) : W2 o Q := ⟨a, b, h, k⟩
theorem W1.mono {α : Type} {o : Option α} {Q R : α → Prop} (h : W1 o Q) (k : ∀ a, Q a → R a) : W1 o R := let ⟨a, e, q⟩ := h; ⟨a, e, k a q⟩
theorem W2.mono {α β : Type} {o : Option (α × β)} {Q R : α → β → Prop} (h : W2 o Q) (k : ∀ a b, Q a b → R a b) : W2 o R := let ⟨a, b, e, q⟩ := h; ⟨a, b, e, k a b q⟩
theorem W2.eq {α β : Type} {o : Option (α × β)} {a : α} {b : β} (h : W2 o fun x y => x = a ∧ y = b) : o = some (a, b) := by obtain ⟨x, y, e, rfl, rfl⟩ := h; exact e
def AsB (d : Dt) (Q : Bool → Prop) : Prop := ∃ b, d = .bool b ∧ Q b
def SeqK (g : FS) (Q : Out → Ev → Prop) : Out → Ev → Prop
  | .nx, ρ => W2 (g ρ) Q
  | o, ρ => Q o ρ
def IfK (b : Bool) (A B : Prop) : Prop := (b = true → A) ∧ (b = false → B)
section
variable {ρ : Ev} {fa fb fc fe : FE} {fr : FA} {fi : FI} {g : Dt → Dt → Option Dt} {x y z d : Dt} {fn : Fn} {ta tb : FT} {f1 f2 : FS} {Q : Dt → Ev → Prop} {QB : Bool → Ev → Prop} {QL : List Dt → Ev → Prop} {QO : Out → Ev → Prop} {i j : Nat}
theorem w_name (h : ρ[i]? = some (some d)) (k : Q d ρ) : W2 (nameF i ρ) Q := ⟨d, ρ, by rw [ap_name, h], k⟩
theorem w_c (k : Q d ρ) : W2 (cF d ρ) Q := ⟨d, ρ, rfl, k⟩
theorem w_c0 (k : Q (DI 0) ρ) : W2 (cF (.int 0) ρ) Q := ⟨_, ρ, rfl, k⟩
theorem w_c1 (k : Q (DI 1) ρ) : W2 (cF (.int 1) ρ) Q := ⟨_, ρ, rfl, k⟩
theorem w_c2 (k : Q (DI 2) ρ) : W2 (cF (.int 2) ρ) Q := ⟨_, ρ, rfl, k⟩
theorem w_c3 (k : Q (DI 3) ρ) : W2 (cF (.int 3) ρ) Q := ⟨_, ρ, rfl, k⟩
theorem w_c4 (k : Q (DI 4) ρ) : W2 (cF (.int 4) ρ) Q := ⟨_, ρ, rfl, k⟩
theorem w_c5 (k : Q (DI 5) ρ) : W2 (cF (.int 5) ρ) Q := ⟨_, ρ, rfl, k⟩
theorem w_c6 (k : Q (DI 6) ρ) : W2 (cF (.int 6) ρ) Q := ⟨_, ρ, rfl, k⟩
theorem w_c7 (k : Q (DI 7) ρ) : W2 (cF (.int 7) ρ) Q := ⟨_, ρ, rfl, k⟩
theorem w_c8 (k : Q (DI 8) ρ) : W2 (cF (.int 8) ρ) Q := ⟨_, ρ, rfl, k⟩
theorem w_c9 (k : Q (DI 9) ρ) : W2 (cF (.int 9) ρ) Q := ⟨_, ρ, rfl, k⟩
theorem w_c10 (k : Q (DI 10) ρ) : W2 (cF (.int 10) ρ) Q := ⟨_, ρ, rfl, k⟩
theorem w_c11 (k : Q (DI 11) ρ) : W2 (cF (.int 11) ρ) Q := ⟨_, ρ, rfl, k⟩
theorem w_c12 (k : Q (DI 12) ρ) : W2 (cF (.int 12) ρ) Q := ⟨_, ρ, rfl, k⟩
theorem w_c16 (k : Q (DI 16) ρ) : W2 (cF (.int 16) ρ) Q := ⟨_, ρ, rfl, k⟩
theorem w_c20 (k : Q (DI 20) ρ) : W2 (cF (.int 20) ρ) Q := ⟨_, ρ, rfl, k⟩
theorem w_c27 (k : Q (DI 27) ρ) : W2 (cF (.int 27) ρ) Q := ⟨_, ρ, rfl, k⟩
theorem w_c40 (k : Q (DI 40) ρ) : W2 (cF (.int 40) ρ) Q := ⟨_, ρ, rfl, k⟩
theorem w_c216 (k : Q (DI 216) ρ) : W2 (cF (.int 216) ρ) Q := ⟨_, ρ, rfl, k⟩
theorem w_c300 (k : Q (DI 300) ρ) : W2 (cF (.int 300) ρ) Q := ⟨_, ρ, rfl, k⟩
theorem w_op (k : W2 (fa ρ) fun x ρ1 => W2 (fb ρ1) fun y ρ2 => W1 (g x y) fun z => Q z ρ2) : W2 (opF g fa fb ρ) Q := by
  obtain ⟨x, ρ1, e1, y, ρ2, e2, z, e3, q⟩ := k
  exact ⟨z, ρ2, by rw [ap_op, e1]; simp only [Option.bind_some, e2, e3], q⟩
theorem w_un {g : Dt → Option Dt} (k : W2 (fa ρ) fun x ρ1 => W1 (g x) fun z => Q z ρ1) : W2 (unF g fa ρ) Q := by
  obtain ⟨x, ρ1, e1, z, e3, q⟩ := k
  exact ⟨z, ρ1, by rw [ap_unF, e1]; simp only [Option.bind_some, e3], q⟩
theorem w_tF (k : W2 (fa ρ) fun x ρ1 => AsB x fun b => QB b ρ1) : W2 (tF fa ρ) QB := by
  obtain ⟨x, ρ1, e1, b, rfl, q⟩ := k
  exact ⟨b, ρ1, by rw [ap_tF, e1]; rfl, q⟩
theorem k_asB {b : Bool} {Q : Bool → Prop} (k : Q b) : AsB (.bool b) Q := ⟨b, rfl, k⟩
theorem w_tru (k : W2 (fa ρ) fun x ρ1 => W1 (truD x) fun b => QB b ρ1) : W2 (truF fa ρ) QB := by
  obtain ⟨x, ρ1, e1, b, e2, q⟩ := k
  exact ⟨b, ρ1, by rw [ap_truF, e1]; simp only [Option.bind_some, e2], q⟩
theorem o_truB {b : Bool} {Q : Bool → Prop} (k : Q b) : W1 (truD (.bool b)) Q := ⟨b, rfl, k⟩
theorem o_truL {ds : List Dt} {Q : Bool → Prop} (k : Q (!ds.isEmpty)) : W1 (truD (.list ds)) Q := ⟨_, rfl, k⟩
theorem w_not (k : W2 (ta ρ) fun b ρ1 => QB (!b) ρ1) : W2 (notT ta ρ) QB := by
  obtain ⟨b, ρ1, e1, q⟩ := k
  exact ⟨!b, ρ1, by rw [ap_notT, e1]; rfl, q⟩
theorem w_orF (k : W2 (ta ρ) fun b ρ1 => b = false ∧ W2 (tb ρ1) QB) : W2 (orT ta tb ρ) QB := by
  obtain ⟨b, ρ1, e1, rfl, c, ρ2, e2, q⟩ := k
  exact ⟨c, ρ2, by rw [ap_orT, e1]; simp only [Option.bind_some, Bool.false_eq_true, if_false, e2], q⟩
theorem w_notV (k : W2 (fa ρ) fun x ρ1 => AsB x fun b => Q (.bool (!b)) ρ1) : W2 (notV fa ρ) Q := by
  obtain ⟨x, ρ1, e1, b, rfl, q⟩ := k
  exact ⟨_, ρ1, by rw [ap_notV, e1]; rfl, q⟩
theorem w_yes (k : QB true ρ) : W2 (yesT ρ) QB := ⟨_, _, rfl, k⟩
theorem w_nilA (k : QL [] ρ) : W2 (nilA ρ) QL := ⟨_, _, rfl, k⟩
theorem w_consA (k : W2 (fa ρ) fun x ρ1 => W2 (fr ρ1) fun xs ρ2 => QL (x :: xs) ρ2) : W2 (consA fa fr ρ) QL := by
  obtain ⟨x, ρ1, e1, xs, ρ2, e2, q⟩ := k
  exact ⟨_, ρ2, by rw [ap_consA, e1]; simp only [Option.bind_some, e2], q⟩
theorem w_boxA (h : ρ[i]? = some (some d)) (k : W2 (fr ρ) fun xs ρ2 => QL (.none :: xs) ρ2) : W2 (boxA i fr ρ) QL := by
  obtain ⟨xs, ρ2, e2, q⟩ := k
  exact ⟨_, ρ2, by rw [ap_boxA, h]; simp only [Option.bind_some, e2], q⟩
theorem w_tup (k : W2 (fr ρ) fun xs ρ1 => Q (.tuple xs) ρ1) : W2 (tupF fr ρ) Q := by
  obtain ⟨xs, ρ1, e1, q⟩ := k
  exact ⟨_, ρ1, by rw [ap_tup, e1]; rfl, q⟩
theorem w_lst (k : W2 (fr ρ) fun xs ρ1 => Q (.list xs) ρ1) : W2 (lstF fr ρ) Q := by
  obtain ⟨xs, ρ1, e1, q⟩ := k
  exact ⟨_, ρ1, by rw [ap_lst, e1]; rfl, q⟩
theorem w_bF {g : List Dt → Option Dt} (k : W2 (fr ρ) fun xs ρ1 => W1 (g xs) fun z => Q z ρ1) : W2 (bF g fr ρ) Q := by
  obtain ⟨xs, ρ1, e1, z, e2, q⟩ := k
  exact ⟨_, ρ1, by rw [ap_bF, e1]; simp only [Option.bind_some, e2], q⟩
theorem w_bFl {g : List Dt → Option (List Dt)} (k : W2 (fr ρ) fun xs ρ1 => W1 (g xs) fun z => Q (.list z) ρ1) : W2 (bFl g fr ρ) Q := by
  obtain ⟨xs, ρ1, e1, z, e2, q⟩ := k
  exact ⟨_, ρ1, by rw [ap_bFl, e1]; simp only [Option.bind_some, e2], q⟩
theorem w_call {cs : List (Option Nat)} (k : W2 (fr ρ) fun ds ρ1 => W1 (fillA cs ds ρ1) fun as => W2 (fn as) fun d os => W1 (putA cs os ρ1) fun ρ2 => Q d ρ2) : W2 (callF fn cs fr ρ) Q := by
  obtain ⟨ds, ρ1, e1, as, e2, d, os, e3, ρ2, e4, q⟩ := k
  exact ⟨d, ρ2, by rw [ap_call, e1]; simp only [Option.bind_some, e2, e3, e4], q⟩
theorem o_fill {cs : List (Option Nat)} {ds as : List Dt} {Q : List Dt → Prop} (h : fillA cs ds ρ = some as) (k : Q as) : W1 (fillA cs ds ρ) Q := ⟨as, h, k⟩
theorem o_put {cs : List (Option Nat)} {os : List Dt} {ρ' : Ev} {Q : Ev → Prop} (h : putA cs os ρ = some ρ') (k : Q ρ') : W1 (putA cs os ρ) Q := ⟨ρ', h, k⟩
theorem w_is {T : String} (k : W2 (fa ρ) fun x ρ1 => Q (.bool (isinstD T x)) ρ1) : W2 (isF T fa ρ) Q := by
  obtain ⟨x, ρ1, e1, q⟩ := k
  exact ⟨_, ρ1, by rw [ap_isF, e1]; rfl, q⟩
theorem w_isN (k : W2 (fa ρ) fun x ρ1 => Q (.bool (noneD x)) ρ1) : W2 (isN fa ρ) Q := by
  obtain ⟨x, ρ1, e1, q⟩ := k
  exact ⟨_, ρ1, by rw [ap_isN, e1]; rfl, q⟩
theorem w_isNN (k : W2 (fa ρ) fun x ρ1 => Q (.bool (!noneD x)) ρ1) : W2 (isNN fa ρ) Q := by
  obtain ⟨x, ρ1, e1, q⟩ := k
  exact ⟨_, ρ1, by rw [ap_isNN, e1]; rfl, q⟩
theorem w_sl {fl fh : FO} (k : W2 (fa ρ) fun x ρ1 => W2 (fl ρ1) fun l ρ2 => W2 (fh ρ2) fun h ρ3 => W1 (slD x l h) fun r => Q r ρ3) : W2 (slF fa fl fh ρ) Q := by
  obtain ⟨x, ρ1, e1, l, ρ2, e2, h, ρ3, e3, r, e4, q⟩ := k
  exact ⟨r, ρ3, by rw [ap_sl, e1]; simp only [Option.bind_some, e2, e3, e4], q⟩
theorem w_noO {Q : Option Int → Ev → Prop} (k : Q none ρ) : W2 (noO ρ) Q := ⟨_, _, rfl, k⟩
theorem w_someO {Q : Option Int → Ev → Prop} (k : W2 (fa ρ) fun x ρ1 => ∃ n : Nat, x = DI n ∧ Q (some (n : Int)) ρ1) : W2 (someO fa ρ) Q := by
  obtain ⟨x, ρ1, e1, n, rfl, q⟩ := k
  exact ⟨_, ρ1, by rw [ap_someO, e1]; rfl, q⟩
theorem k_nat {n : Nat} {Q : Nat → Prop} (k : Q n) : ∃ m : Nat, DI n = DI m ∧ Q m := ⟨n, rfl, k⟩
theorem s_skip (k : QO .nx ρ) : W2 (skipS ρ) QO := ⟨_, _, rfl, k⟩
theorem s_brk (k : QO .bk ρ) : W2 (brkS ρ) QO := ⟨_, _, rfl, k⟩
theorem s_cnt (k : QO .ct ρ) : W2 (cntS ρ) QO := ⟨_, _, rfl, k⟩
theorem s_seq (k : W2 (f1 ρ) (SeqK f2 QO)) : W2 (seqS f1 f2 ρ) QO := by
  obtain ⟨o, ρ1, e1, q⟩ := k
  cases o with
  | nx =>
    obtain ⟨p, ρ2, e2, q⟩ := q
    exact ⟨p, ρ2, by rw [ap_seq, e1]; simp only [Option.bind_some, e2], q⟩
  | rt v => exact ⟨.rt v, ρ1, by rw [ap_seq, e1]; rfl, q⟩
  | bk => exact ⟨.bk, ρ1, by rw [ap_seq, e1]; rfl, q⟩
  | ct => exact ⟨.ct, ρ1, by rw [ap_seq, e1]; rfl, q⟩
theorem k_seq (k : W2 (f2 ρ) QO) : SeqK f2 QO .nx ρ := k
theorem k_seqR (k : QO (.rt d) ρ) : SeqK f2 QO (.rt d) ρ := k
theorem k_seqB (k : QO .bk ρ) : SeqK f2 QO .bk ρ := k
theorem k_seqC (k : QO .ct ρ) : SeqK f2 QO .ct ρ := k
theorem s_expr (k : W2 (fa ρ) fun _ ρ1 => QO .nx ρ1) : W2 (exprS fa ρ) QO := by
  obtain ⟨x, ρ1, e1, q⟩ := k
  exact ⟨_, ρ1, by rw [ap_expr, e1]; rfl, q⟩
theorem s_ret (k : W2 (fa ρ) fun d ρ1 => QO (.rt d) ρ1) : W2 (retS fa ρ) QO := by
  obtain ⟨x, ρ1, e1, q⟩ := k
  exact ⟨_, ρ1, by rw [ap_ret, e1]; rfl, q⟩
theorem s_retB {ds : List Dt} (h : ρ[i]? = some (some (.list ds))) (k : QO (.rt (.list ds)) (ρ.set i none)) : W2 (retB i ρ) QO := ⟨_, _, by unfold retB; rw [h], k⟩
theorem k_ifT {A B : Prop} (k : A) : IfK true A B := ⟨fun _ => k, fun h => nomatch h⟩
theorem k_ifF {A B : Prop} (k : B) : IfK false A B := ⟨fun h => (nomatch h), fun _ => k⟩
theorem s_set (k : W2 (fa ρ) fun d ρ1 => QO .nx (ρ1.set i (some d))) : W2 (setS i fa ρ) QO := by
  obtain ⟨x, ρ1, e1, q⟩ := k
  exact ⟨_, _, by rw [ap_set, e1]; rfl, q⟩
theorem s_asg {g : FG} (k : W2 (fa ρ) fun d ρ1 => W1 (g d ρ1) fun ρ2 => QO .nx ρ2) : W2 (asgS fa g ρ) QO := by
  obtain ⟨x, ρ1, e1, ρ2, e2, q⟩ := k
  exact ⟨_, _, by rw [ap_asg, e1]; simp only [Option.bind_some, e2], q⟩
theorem s_par (k : W2 (fa ρ) fun d ρ1 => W2 (fb ρ1) fun e ρ2 => QO .nx ((ρ2.set i (some d)).set j (some e))) : W2 (par2S i j fa fb ρ) QO := by
  obtain ⟨x, ρ1, e1, y, ρ2, e2, q⟩ := k
  exact ⟨_, _, by rw [ap_par, e1]; simp only [Option.bind_some, e2], q⟩
theorem s_aug {w : Dt} (h : ρ[i]? = some (some w)) (k : W2 (fa ρ) fun y ρ1 => W1 (g w y) fun z => QO .nx (ρ1.set i (some z))) : W2 (augS i g fa ρ) QO := by
  obtain ⟨x, ρ1, e1, z, e2, q⟩ := k
  refine ⟨_, _, ?_, q⟩
  unfold augS
  rw [h]
  show ((fa ρ).bind fun p => (g w p.1).bind fun z => some (Out.nx, p.2.set i (some z))) = _
  rw [e1]
  simp only [Option.bind_some, e2]
theorem s_if (k : W2 (ta ρ) fun b ρ1 => IfK b (W2 (f1 ρ1) QO) (W2 (f2 ρ1) QO)) : W2 (ifS ta f1 f2 ρ) QO := by
  obtain ⟨b, ρ1, e1, q1, q2⟩ := k
  cases b with
  | true =>
    obtain ⟨c, ρ2, e2, q⟩ := q1 rfl
    exact ⟨c, ρ2, by rw [ap_if, e1]; simp only [Option.bind_some, if_true, e2], q⟩
  | false =>
    obtain ⟨c, ρ2, e2, q⟩ := q2 rfl
    exact ⟨c, ρ2, by rw [ap_if, e1]; simp only [Option.bind_some, Bool.false_eq_true, if_false, e2], q⟩
theorem s_chk {v : Dt} (k : W2 (ta ρ) fun b ρ1 => b = false ∧ QO .nx ρ1) : W2 (ifS ta (retS (cF v)) skipS ρ) QO := by
  obtain ⟨b, ρ1, e1, rfl, q⟩ := k
  exact ⟨_, ρ1, by rw [ap_if, e1]; rfl, q⟩
theorem s_for {g : FG} (k : W2 (fi ρ) fun ds ρ1 => W2 (loopS g f1 ds ρ1) QO) : W2 (forS fi g f1 ρ) QO := by
  obtain ⟨ds, ρ1, e1, o, ρ2, e2, q⟩ := k
  exact ⟨o, ρ2, by rw [ap_for, e1]; simp only [Option.bind_some, e2], q⟩
theorem s_app {ds ds0 : List Dt} (h : boxL i ρ = some ds0) (k : W2 (fa ρ) fun d ρ1 => ∃ ds, boxL i ρ1 = some ds ∧ ds.length < 16777216 ∧ QO .nx (ρ1.set i (some (.list (ds ++ [d]))))) : W2 (appB i fa ρ) QO := by
  obtain ⟨d, ρ1, e1, ds, e2, hl, q⟩ := k
  exact ⟨.nx, _, by rw [ap_appB, h, Option.bind_some, e1]; simp only [Option.bind_some, e2, if_pos hl], q⟩
theorem w_lenB {ds : List Dt} (h : boxL i ρ = some ds) (k : Q (DI ds.length) ρ) : W2 (lenB i ρ) Q := ⟨_, _, by rw [ap_lenB, h]; rfl, k⟩
theorem w_tupB {ds : List Dt} (h : boxL i ρ = some ds) (k : Q (.tuple ds) ρ) : W2 (tupB i ρ) Q := ⟨_, _, by rw [ap_tupB, h]; rfl, k⟩
theorem w_truB {ds : List Dt} (h : boxL i ρ = some ds) (k : QB (!ds.isEmpty) ρ) : W2 (truB i ρ) QB := ⟨_, _, by rw [ap_truB, h]; rfl, k⟩
theorem rng1_key {j : Int} {ρ1 : Ev} (e1 : fr ρ = some ([.int j], ρ1)) (hc : -(2 ^ 62) ≤ j ∧ j ≤ 16777216) : rng1I fr ρ = some ((List.range j.toNat).map DI, ρ1) := by
  rw [ap_rng1, e1]
  refine (if_pos hc).trans ?_
  rw [rngD0]
theorem w_rng1 (k : W2 (fr ρ) fun ds ρ1 => ∃ n : Nat, ds = [DI n] ∧ n ≤ 1000000 ∧ QL ((List.range n).map DI) ρ1) : W2 (rng1I fr ρ) QL := by
  obtain ⟨ds, ρ1, e1, n, rfl, hn, q⟩ := k
  refine ⟨_, ρ1, ?_, q⟩
  exact rng1_key e1 ⟨by omega, by omega⟩
theorem rng2_key {i j : Int} {ρ1 : Ev} (e1 : fr ρ = some ([.int i, .int j], ρ1)) (hc : -(2 ^ 62) ≤ i ∧ i < 2 ^ 62 ∧ -(2 ^ 62) ≤ j ∧ j < 2 ^ 62 ∧ j - i ≤ 16777216) : rng2I fr ρ = some (rngD i (j - i).toNat, ρ1) := by
  rw [ap_rng2, e1]
  exact if_pos hc
theorem w_rng2 (k : W2 (fr ρ) fun ds ρ1 => ∃ a b : Nat, ds = [DI a, DI b] ∧ a ≤ 1000000 ∧ b ≤ 1000000 ∧ QL ((List.range' a (b - a)).map DI) ρ1) : W2 (rng2I fr ρ) QL := by
  obtain ⟨ds, ρ1, e1, a, b, rfl, ha, hb, q⟩ := k
  refine ⟨_, ρ1, ?_, q⟩
  rw [rng2_key e1 ⟨by omega, by omega, by omega, by omega, by omega⟩, show ((b : Int) - (a : Int)).toNat = b - a by omega, rng_nat]
theorem k_rng1 {n : Nat} {Q : Nat → Prop} (h : n ≤ 1000000) (k : Q n) : ∃ m : Nat, [DI n] = [DI m] ∧ m ≤ 1000000 ∧ Q m := ⟨n, rfl, h, k⟩
theorem k_rng2 {n p : Nat} {Q : Nat → Nat → Prop} (h : n ≤ 1000000) (h' : p ≤ 1000000) (k : Q n p) : ∃ a b : Nat, [DI n, DI p] = [DI a, DI b] ∧ a ≤ 1000000 ∧ b ≤ 1000000 ∧ Q a b := ⟨n, p, rfl, h, h', k⟩
theorem w_seqI (k : W2 (fa ρ) fun d ρ1 => W1 (seqD d) fun ds => QL ds ρ1) : W2 (seqI fa ρ) QL := by
  obtain ⟨d, ρ1, e1, ds, e2, q⟩ := k
  refine ⟨ds, ρ1, ?_, q⟩
  rw [ap_seqI, e1]
  cases d with
  | list xs => cases e2; rfl
  | tuple xs => cases e2; rfl
  | _ => cases e2
theorem o_seqT {ds : List Dt} {Q : List Dt → Prop} (k : Q ds) : W1 (seqD (.tuple ds)) Q := ⟨ds, rfl, k⟩
theorem o_seqL {ds : List Dt} {Q : List Dt → Prop} (k : Q ds) : W1 (seqD (.list ds)) Q := ⟨ds, rfl, k⟩
theorem w_enum (k : W2 (fr ρ) fun l ρ1 => ∃ x, l = [x] ∧ W1 (seqD x) fun ds => QL (enumD ds) ρ1) : W2 (enumI fr ρ) QL := by
  obtain ⟨l, ρ1, e1, x, rfl, ds, e2, q⟩ := k
  refine ⟨_, ρ1, ?_, q⟩
  unfold enumI
  rw [e1]
  show ((seqD x).bind fun xs => some (enumD xs, ρ1)) = _
  rw [e2]; rfl
theorem w_zip (k : W2 (fr ρ) fun l ρ1 => ∃ x y, l = [x, y] ∧ W1 (seqD x) fun ds => W1 (seqD y) fun es => QL (List.zipWith pairD ds es) ρ1) : W2 (zipI fr ρ) QL := by
  obtain ⟨l, ρ1, e1, x, y, rfl, ds, e2, es, e3, q⟩ := k
  refine ⟨_, ρ1, ?_, q⟩
  unfold zipI
  rw [e1]
  show ((seqD x).bind fun xs => (seqD y).bind fun ys => some (List.zipWith pairD xs ys, ρ1)) = _
  rw [e2]
  simp only [Option.bind_some, e3]
theorem k_one {x : Dt} {P : Dt → Prop} (k : P x) : ∃ y, [x] = [y] ∧ P y := ⟨x, rfl, k⟩
theorem k_two {x y : Dt} {P : Dt → Dt → Prop} (k : P x y) : ∃ a b, [x, y] = [a, b] ∧ P a b := ⟨x, y, rfl, k⟩
theorem w_lrng_key {j : Int} {ρ1 : Ev} (e1 : fr ρ = some ([.int j], ρ1)) (hc : -(2 ^ 62) ≤ j ∧ j ≤ 16777216) : lrngF fr ρ = some (.list ((List.range j.toNat).map DI), ρ1) := by
  unfold lrngF
  rw [e1]
  refine (if_pos hc).trans ?_
  rw [rngD0]
theorem w_lrng (k : W2 (fr ρ) fun ds ρ1 => ∃ n : Nat, ds = [DI n] ∧ n ≤ 1000000 ∧ Q (.list ((List.range n).map DI)) ρ1) : W2 (lrngF fr ρ) Q := by
  obtain ⟨ds, ρ1, e1, n, rfl, hn, q⟩ := k
  refine ⟨_, ρ1, ?_, q⟩
  exact w_lrng_key e1 ⟨by omega, by omega⟩
theorem w_trng_key {j : Int} {ρ1 : Ev} (e1 : fr ρ = some ([.int j], ρ1)) (hc : -(2 ^ 62) ≤ j ∧ j ≤ 16777216) : trngF fr ρ = some (.tuple ((List.range j.toNat).map DI), ρ1) := by
  unfold trngF
  rw [e1]
  refine (if_pos hc).trans ?_
  rw [rngD0]
theorem w_trng (k : W2 (fr ρ) fun ds ρ1 => ∃ n : Nat, ds = [DI n] ∧ n ≤ 1000000 ∧ Q (.tuple ((List.range n).map DI)) ρ1) : W2 (trngF fr ρ) Q := by
  obtain ⟨ds, ρ1, e1, n, rfl, hn, q⟩ := k
  refine ⟨_, ρ1, ?_, q⟩
  exact w_trng_key e1 ⟨by omega, by omega⟩
theorem g_name {d : Dt} {Q : Ev → Prop} (k : Q (ρ.set i (some d))) : W1 (nameG i d ρ) Q := ⟨_, rfl, k⟩
theorem g_tup {n : Nat} {gs : List Dt → Ev → Option Ev} {ds : List Dt} {Q : Ev → Prop} (h : ds.length = n) (k : W1 (gs ds ρ) Q) : W1 (tupG n gs (.tuple ds) ρ) Q := by
  obtain ⟨ρ1, e, q⟩ := k
  exact ⟨ρ1, by rw [ap_tupG _ _ _ _ h, e], q⟩
theorem g_cons {g : FG} {gs : List Dt → Ev → Option Ev} {d : Dt} {ds : List Dt} {Q : Ev → Prop} (k : W1 (g d ρ) fun ρ1 => W1 (gs ds ρ1) Q) : W1 (consG g gs (d :: ds) ρ) Q := by
  obtain ⟨ρ1, e, ρ2, e2, q⟩ := k
  exact ⟨ρ2, by rw [ap_consG, e]; simp only [Option.bind_some, e2], q⟩
theorem g_nil {Q : Ev → Prop} (k : Q ρ) : W1 (nilG [] ρ) Q := ⟨_, rfl, k⟩
theorem w_loopC {α : Type} {g : FG} (e : α → Dt) (as : List α) (I : Nat → Ev → Prop) (h0 : I 0 ρ) (hs : ∀ a k ρ, a ∈ as → k < as.length → I k ρ → W1 (g (e a) ρ) fun ρ1 => W2 (f1 ρ1) fun o ρ2 => (o = .nx ∨ o = .ct) ∧ I (k + 1) ρ2) (hq : ∀ ρ, I as.length ρ → QO .nx ρ) : W2 (loopS g f1 (as.map e) ρ) QO := by
  have key : ∀ (l : List α) (k : Nat) (ρ : Ev), (∀ a ∈ l, a ∈ as) → k + l.length = as.length → I k ρ → W2 (loopS g f1 (l.map e) ρ) QO := by
    intro l
    induction l with
    | nil => intro k ρ _ hk h; exact ⟨_, _, rfl, hq ρ (by simpa [← hk] using h)⟩
    | cons a l ih =>
      intro k ρ hm hk h
      rw [List.length_cons] at hk
      obtain ⟨ρ1, e1, o, ρ2, e2, ho, h2⟩ := hs a k ρ (hm a List.mem_cons_self) (by omega) h
      obtain ⟨o', ρ', e3, q'⟩ := ih (k + 1) ρ2 (fun c hc => hm c (List.mem_cons_of_mem _ hc)) (by omega) h2
      refine ⟨o', ρ', ?_, q'⟩
      rw [List.map_cons, ap_loop1, e1, Option.bind_some, e2]
      rcases ho with rfl | rfl <;> exact e3
  exact key as 0 ρ (fun a h => h) (by simp) h0
theorem w_lcF {own : List Nat} {g : FG} {t : FT} (k : W2 (fi ρ) fun ds ρ1 => W2 (lcL own g t fe ds (wipeE ρ1 own)) fun ys ρ2 => Q (.list ys) (backE ρ1 ρ2 own)) : W2 (lcF fi own g t fe ρ) Q := by
  obtain ⟨ds, ρ1, e1, ys, ρ2, e2, q⟩ := k
  exact ⟨_, _, by rw [ap_lc, e1]; simp only [Option.bind_some, e2], q⟩
theorem w_gaF {own : List Nat} {g : FG} {t : FT} {st : Bool} (k : W2 (fi ρ) fun ds ρ1 => W2 (gaL st own g t fe ds (wipeE ρ1 own)) fun b ρ2 => Q (.bool b) (backE ρ1 ρ2 own)) : W2 (gaF st fi own g t fe ρ) Q := by
  obtain ⟨ds, ρ1, e1, ys, ρ2, e2, q⟩ := k
  exact ⟨_, _, by rw [ap_ga, e1]; simp only [Option.bind_some, e2], q⟩
theorem w_lc {α : Type} {own : List Nat} {g : FG} {t : FT} (e : α → Dt) (as : List α) (b : α → Bool) (y : α → Dt)
    (hs : ∀ a ∈ as, W1 (g (e a) ρ) fun ρ2 => wipeE ρ2 own = ρ ∧ W2 (t ρ2) fun c ρ3 => c = b a ∧ ρ3 = ρ2 ∧ (b a = true → W2 (fe ρ2) fun z ρ4 => z = y a ∧ ρ4 = ρ2)) (k : QL ((as.filter b).map y) ρ) : W2 (lcL own g t fe (as.map e) ρ) QL := by
  refine ⟨_, ρ, ?_, k⟩
  exact lc_of e b y as fun a ha => by
    obtain ⟨ρ2, e1, hw, c, ρ3, e2, rfl, rfl, h3⟩ := hs a ha
    exact ⟨_, e1, e2, fun hh => W2.eq (h3 hh), hw⟩
theorem w_lcY {α : Type} {own : List Nat} {g : FG} (e : α → Dt) (as : List α) (y : α → Dt)
    (hs : ∀ a ∈ as, W1 (g (e a) ρ) fun ρ2 => wipeE ρ2 own = ρ ∧ W2 (fe ρ2) fun z ρ4 => z = y a ∧ ρ4 = ρ2) (k : QL (as.map y) ρ) : W2 (lcL own g yesT fe (as.map e) ρ) QL := by
  refine w_lc e as (fun _ => true) y (fun a ha => ?_) (by rw [List.filter_eq_self.mpr fun _ _ => rfl]; exact k)
  obtain ⟨ρ2, e1, hw, h3⟩ := hs a ha
  exact ⟨ρ2, e1, hw, true, ρ2, rfl, rfl, rfl, fun _ => h3⟩
theorem w_tupG {fn : List Dt → Option (List Dt)} (k : W2 (fr ρ) fun ds ρ1 => W1 (fn ds) fun ys => ys.length ≤ 16777216 ∧ Q (.tuple ys) ρ1) : W2 (tupGF fn fr ρ) Q := by
  obtain ⟨ds, ρ1, e1, ys, e2, hl, q⟩ := k
  refine ⟨_, ρ1, ?_, q⟩
  unfold tupGF
  rw [e1]
  show ((fn ds).bind fun ys => if ys.length ≤ 16777216 then some (PyData.tuple ys, ρ1) else none) = _
  rw [e2]
  exact if_pos hl
theorem w_still {bs : List Nat} (h : (bs.all fun i => listAt ρ[i]?) = true) (k : W2 (fe ρ) fun d _ => noList d = true ∧ Q d ρ) : W2 (stillF bs fe ρ) Q := by
  obtain ⟨d, ρ1, e1, hl, q⟩ := k
  refine ⟨d, ρ, ?_, q⟩
  unfold stillF
  rw [if_pos h, e1]
  show (if noList d = true then some (d, ρ) else none) = _
  rw [if_pos hl]
theorem w_stillT {bs : List Nat} {t : FT} (h : (bs.all fun i => listAt ρ[i]?) = true) (k : W2 (t ρ) fun d _ => QB d ρ) : W2 (stillT bs t ρ) QB := by
  obtain ⟨d, ρ1, e1, q⟩ := k
  refine ⟨d, ρ, ?_, q⟩
  unfold stillT
  rw [if_pos h, e1]
  rfl
theorem w_fn {n : Nat} {bp : List Bool} {b : FS} {ds : List Dt} {ρ0 : Ev} {Q : Dt → List Dt → Prop} (h : ds.map some ++ List.replicate (n - ds.length) none = ρ0) (k : W2 (b ρ0) fun o ρ1 => W1 (endD o) fun d => W1 (outsB bp ρ1) fun os => Q d os) : W2 (fnM n bp b ds) Q := by
  obtain ⟨o, ρ1, e1, d, e2, os, e3, q⟩ := k
  refine ⟨d, os, ?_, q⟩
  rw [ap_fnM, h, e1]
  simp only [Option.bind_some, e2, e3]
theorem o_end {d : Dt} {Q : Dt → Prop} (k : Q d) : W1 (endD (.rt d)) Q := ⟨d, rfl, k⟩
theorem o_outs {bp : List Bool} {os : List Dt} {Q : List Dt → Prop} (h : outsB bp ρ = some os) (k : Q os) : W1 (outsB bp ρ) Q := ⟨os, h, k⟩
variable {P : Dt → Prop}
theorem o_add {a b : Nat} (k : P (DI (a + b))) : W1 (addD (DI a) (DI b)) P := ⟨_, rfl, k⟩
theorem fdiv_ok {i j : Int} (h : 0 < j ∧ j < 1073741824) : fdivD (.int i) (.int j) = some (.int (i / j)) := if_pos h
theorem o_mod {a b : Nat} (h : 0 < b) (k : P (DI (a % b))) : W1 (modD (DI a) (DI b)) P := ⟨_, mod_ok (by omega), k⟩
theorem o_lt {a b : Nat} (k : P (.bool (decide (a < b)))) : W1 (ltT (DI a) (DI b)) P := ⟨_, lt_ii a b, k⟩
theorem o_le {a b : Nat} (k : P (.bool (decide (a ≤ b)))) : W1 (leD (DI a) (DI b)) P := ⟨_, by show some (PyData.bool (decide ((a : Int) ≤ (b : Int)))) = _; simp only [Int.ofNat_le], k⟩
theorem o_gt {a b : Nat} (k : P (.bool (decide (b < a)))) : W1 (gtD (DI a) (DI b)) P := ⟨_, by show some (PyData.bool (decide ((b : Int) < (a : Int)))) = _; simp only [Int.ofNat_lt], k⟩
theorem o_ge {a b : Nat} (k : P (.bool (decide (b ≤ a)))) : W1 (geD (DI a) (DI b)) P := ⟨_, by show some (PyData.bool (decide ((b : Int) ≤ (a : Int)))) = _; simp only [Int.ofNat_le], k⟩
theorem o_eqI {a b : Nat} (k : P (.bool (decide (a = b)))) : W1 (eqD (DI a) (DI b)) P := ⟨_, eqD_ii a b, k⟩
theorem o_neI {a b : Nat} (k : P (.bool (!decide (a = b)))) : W1 (neD (DI a) (DI b)) P := ⟨_, by
  have := eqD_ii a b
  unfold eqD at this
  rw [if_pos ⟨rfl, rfl⟩] at this
  show (if _ then some (PyData.bool (!PyData.eqv (DI a) (DI b))) else none) = _
  rw [if_pos ⟨rfl, rfl⟩]
  have e := PyData.bool.inj (Option.some.inj this)
  rw [e], k⟩
theorem o_eqB {a b : Bool} (k : P (.bool (a == b))) : W1 (eqD (.bool a) (.bool b)) P := ⟨_, by cases a <;> cases b <;> rfl, k⟩
theorem o_neB {a b : Bool} (k : P (.bool (a != b))) : W1 (neD (.bool a) (.bool b)) P := ⟨_, by cases a <;> cases b <;> rfl, k⟩
theorem o_isB {a b : Bool} (k : P (.bool (a == b))) : W1 (isBD (.bool a) (.bool b)) P := ⟨_, rfl, k⟩
theorem o_isntB {a b : Bool} (k : P (.bool (a != b))) : W1 (isntBD (.bool a) (.bool b)) P := ⟨_, rfl, k⟩
theorem o_neg {i : Int} (k : P (.int (-i))) : W1 (negU (.int i)) P := ⟨_, rfl, k⟩
theorem o_lenT {a : List Dt} (k : P (DI a.length)) : W1 (lenD [.tuple a]) P := ⟨_, rfl, k⟩
theorem o_lenL {a : List Dt} (k : P (DI a.length)) : W1 (lenD [.list a]) P := ⟨_, rfl, k⟩
theorem o_tupL {a : List Dt} (k : P (.tuple a)) : W1 (tupleD [.list a]) P := ⟨_, rfl, k⟩
theorem o_tupT {a : List Dt} (k : P (.tuple a)) : W1 (tupleD [.tuple a]) P := ⟨_, rfl, k⟩
theorem o_listL {a : List Dt} {P : List Dt → Prop} (k : P a) : W1 (listD [.list a]) P := ⟨_, rfl, k⟩
theorem o_listT {a : List Dt} {P : List Dt → Prop} (k : P a) : W1 (listD [.tuple a]) P := ⟨_, rfl, k⟩
theorem o_ixT {ds : List Dt} {i : Nat} {d : Dt} (h : ds[i]? = some d) (k : P d) : W1 (ixD (.tuple ds) (DI i)) P := ⟨_, ix_tup' h, k⟩
theorem o_ixL {ds : List Dt} {i : Nat} {d : Dt} (h : ds[i]? = some d) (k : P d) : W1 (ixD (.list ds) (DI i)) P := ⟨_, atI_nat h, k⟩
end
end L2
namespace PT
open PySem L2 PF
local macro_rules | `(tactic| decreasing_trivial) => `(tactic| (repeat (first | ((with_reducible apply w_name); (· rfl)) | with_reducible apply w_c0 | with_reducible apply w_c1 | with_reducible apply w_c2 | with_reducible apply w_c3 | with_reducible apply w_c4 | with_reducible apply w_c5 | with_reducible apply w_c6 | with_reducible apply w_c7 | with_reducible apply w_c8 | with_reducible apply w_c9 | with_reducible apply w_c10 | with_reducible apply w_c11 | with_reducible apply w_c12 | with_reducible apply w_c16 | with_reducible apply w_c20 | with_reducible apply w_c27 | with_reducible apply w_c40 | with_reducible apply w_c216 | with_reducible apply w_c300 | with_reducible apply w_c | with_reducible apply w_lcF | with_reducible apply w_gaF | ((with_reducible apply o_ixT); (· rfl)) | with_reducible apply k_ifT | with_reducible apply k_ifF | ((with_reducible apply s_retB); (· rfl); try dsimp only [List.set_cons_succ, List.set_cons_zero]) | with_reducible apply o_isB | with_reducible apply o_isntB | with_reducible apply o_neg | with_reducible apply w_tupG | ((with_reducible apply w_still); (· rfl)) | ((with_reducible apply w_stillT); (· rfl)) | with_reducible apply w_op | with_reducible apply w_un | with_reducible apply w_tF | with_reducible apply k_asB | with_reducible apply w_tru | with_reducible apply o_truB | with_reducible apply w_not | with_reducible apply w_notV | with_reducible apply w_yes | with_reducible apply w_nilA | with_reducible apply w_consA | with_reducible apply w_tup | with_reducible apply w_lst | with_reducible apply w_bF | with_reducible apply w_bFl | with_reducible apply w_call | with_reducible apply w_is | with_reducible apply w_isN | with_reducible apply w_isNN | with_reducible apply w_sl | with_reducible apply w_noO | with_reducible apply w_someO | with_reducible apply k_nat | with_reducible apply s_skip | with_reducible apply s_brk | with_reducible apply s_cnt | with_reducible apply s_seq | with_reducible apply s_expr | with_reducible apply s_ret | with_reducible apply s_set | with_reducible apply s_asg | with_reducible apply s_par | with_reducible apply s_for | with_reducible apply w_rng1 | with_reducible apply w_rng2 | with_reducible apply w_seqI | with_reducible apply o_seqT | with_reducible apply o_seqL | with_reducible apply w_enum | with_reducible apply w_zip | with_reducible apply k_one | with_reducible apply k_two | with_reducible apply w_lrng | with_reducible apply w_trng | with_reducible apply g_cons | with_reducible apply g_nil | ((with_reducible apply g_name); try dsimp only [List.set_cons_succ, List.set_cons_zero]) | with_reducible apply o_end | with_reducible apply o_add | with_reducible apply o_lt | with_reducible apply o_le | with_reducible apply o_gt | with_reducible apply o_ge | with_reducible apply o_eqI | with_reducible apply o_neI | with_reducible apply o_eqB | with_reducible apply o_neB | with_reducible apply o_lenT | with_reducible apply o_lenL | with_reducible apply o_tupL | with_reducible apply o_tupT | with_reducible apply o_listL | with_reducible apply o_listT | with_reducible apply k_seqR | with_reducible apply k_seqB | with_reducible apply k_seqC | ((with_reducible apply k_seq); try dsimp only [List.set_cons_succ, List.set_cons_zero]) | ((with_reducible apply o_fill); (· rfl)) | ((with_reducible apply o_put); (· rfl); try dsimp only [List.set_cons_succ, List.set_cons_zero]) | ((with_reducible apply w_boxA); (· rfl)) | ((with_reducible apply g_tup); (· rfl)) | ((with_reducible apply w_lenB); (· rfl)) | ((with_reducible apply w_tupB); (· rfl)) | ((with_reducible apply w_truB); (· rfl)) | ((with_reducible apply s_aug); (· rfl)) | ((with_reducible apply k_rng1); (· omega)) | ((with_reducible apply k_rng2); (· omega); (· omega)))))
local macro_rules | `(tactic| decreasing_trivial_pre_omega) => `(tactic| (repeat (first | with_reducible apply s_chk | with_reducible apply w_orF | ((with_reducible apply w_name); (· rfl)) | with_reducible apply w_c0 | with_reducible apply w_c1 | with_reducible apply w_c2 | with_reducible apply w_c3 | with_reducible apply w_c4 | with_reducible apply w_c5 | with_reducible apply w_c6 | with_reducible apply w_c7 | with_reducible apply w_c8 | with_reducible apply w_c9 | with_reducible apply w_c10 | with_reducible apply w_c11 | with_reducible apply w_c12 | with_reducible apply w_c16 | with_reducible apply w_c20 | with_reducible apply w_c27 | with_reducible apply w_c40 | with_reducible apply w_c216 | with_reducible apply w_c300 | with_reducible apply w_c | with_reducible apply w_lcF | with_reducible apply w_gaF | ((with_reducible apply o_ixT); (· rfl)) | with_reducible apply k_ifT | with_reducible apply k_ifF | ((with_reducible apply s_retB); (· rfl); try dsimp only [List.set_cons_succ, List.set_cons_zero]) | with_reducible apply o_isB | with_reducible apply o_isntB | with_reducible apply o_neg | with_reducible apply w_tupG | ((with_reducible apply w_still); (· rfl)) | ((with_reducible apply w_stillT); (· rfl)) | with_reducible apply w_op | with_reducible apply w_un | with_reducible apply w_tF | with_reducible apply k_asB | with_reducible apply w_tru | with_reducible apply o_truB | with_reducible apply w_not | with_reducible apply w_notV | with_reducible apply w_yes | with_reducible apply w_nilA | with_reducible apply w_consA | with_reducible apply w_tup | with_reducible apply w_lst | with_reducible apply w_bF | with_reducible apply w_bFl | with_reducible apply w_call | with_reducible apply w_is | with_reducible apply w_isN | with_reducible apply w_isNN | with_reducible apply w_sl | with_reducible apply w_noO | with_reducible apply w_someO | with_reducible apply k_nat | with_reducible apply s_skip | with_reducible apply s_brk | with_reducible apply s_cnt | with_reducible apply s_seq | with_reducible apply s_expr | with_reducible apply s_ret | with_reducible apply s_set | with_reducible apply s_asg | with_reducible apply s_par | with_reducible apply s_for | with_reducible apply w_rng1 | with_reducible apply w_rng2 | with_reducible apply w_seqI | with_reducible apply o_seqT | with_reducible apply o_seqL | with_reducible apply w_enum | with_reducible apply w_zip | with_reducible apply k_one | with_reducible apply k_two | with_reducible apply w_lrng | with_reducible apply w_trng | with_reducible apply g_cons | with_reducible apply g_nil | ((with_reducible apply g_name); try dsimp only [List.set_cons_succ, List.set_cons_zero]) | with_reducible apply o_end | with_reducible apply o_add | with_reducible apply o_lt | with_reducible apply o_le | with_reducible apply o_gt | with_reducible apply o_ge | with_reducible apply o_eqI | with_reducible apply o_neI | with_reducible apply o_eqB | with_reducible apply o_neB | with_reducible apply o_lenT | with_reducible apply o_lenL | with_reducible apply o_tupL | with_reducible apply o_tupT | with_reducible apply o_listL | with_reducible apply o_listT | with_reducible apply k_seqR | with_reducible apply k_seqB | with_reducible apply k_seqC | ((with_reducible apply k_seq); try dsimp only [List.set_cons_succ, List.set_cons_zero]) | ((with_reducible apply o_fill); (· rfl)) | ((with_reducible apply o_put); (· rfl); try dsimp only [List.set_cons_succ, List.set_cons_zero]) | ((with_reducible apply w_boxA); (· rfl)) | ((with_reducible apply g_tup); (· rfl)) | ((with_reducible apply w_lenB); (· rfl)) | ((with_reducible apply w_tupB); (· rfl)) | ((with_reducible apply w_truB); (· rfl)) | ((with_reducible apply s_aug); (· rfl)) | ((with_reducible apply k_rng1); (· omega)) | ((with_reducible apply k_rng2); (· omega); (· omega)))))
structure Enc {α : Type} [DecidableEq α] (k : Nat) (e : α → Dt) : Prop where
  tm : ∀ a, tame k (e a) = true
  eq : ∀ a b, PyData.eqv (e a) (e b) = decide (a = b)
theorem Enc.all {α : Type} [DecidableEq α] {k : Nat} {e : α → Dt} (E : Enc k e) : ∀ l m : List α, PyData.eqvAll (l.map e) (m.map e) = decide (l = m)
  | [], [] => rfl
  | [], _ :: _ => by simp [PyData.eqvAll]
  | _ :: _, [] => by simp [PyData.eqvAll]
  | a :: l, b :: m => by
    simp only [List.map_cons, PyData.eqvAll, E.eq, E.all l m, List.cons.injEq, Bool.decide_and]
theorem Enc.tms {α : Type} [DecidableEq α] {k : Nat} {e : α → Dt} (E : Enc k e) (l : List α) : tameAll k (l.map e) = true := tameAll_map e E.tm l
theorem Enc.tup {α : Type} [DecidableEq α] {k : Nat} {e : α → Dt} (E : Enc k e) : Enc (k + 1) (fun l : List α => PyData.tuple (l.map e)) := ⟨fun l => E.tms l, fun l m => E.all l m⟩
theorem Enc.lst {α : Type} [DecidableEq α] {k : Nat} {e : α → Dt} (E : Enc k e) : Enc (k + 1) (fun l : List α => PyData.list (l.map e)) := ⟨fun l => E.tms l, fun l m => E.all l m⟩
theorem Enc.pair {α β : Type} [DecidableEq α] [DecidableEq β] {k : Nat} {e : α → Dt} {f : β → Dt} (E : Enc k e) (F : Enc k f) : Enc (k + 1) (fun p : α × β => PyData.tuple [e p.1, f p.2]) := ⟨fun p => by
  show (tame k (e p.1) && (tame k (f p.2) && true)) = true
  rw [E.tm, F.tm]; rfl, fun p q => by
  show (PyData.eqv (e p.1) (e q.1) && (PyData.eqv (f p.2) (f q.2) && true)) = _
  rw [E.eq, F.eq, Bool.and_true]
  obtain ⟨a, b⟩ := p
  obtain ⟨c, d⟩ := q
  simp only [Prod.mk.injEq, Bool.decide_and]⟩
section
variable {α : Type} [DecidableEq α] {e : α → Dt} {a b : α} {l : List α} {P : Dt → Prop}
theorem Enc.eqD [Decidable (a = b)] (E : Enc 12 e) : L2.eqD (e a) (e b) = some (.bool (decide (a = b))) := by
  unfold L2.eqD
  rw [if_pos ⟨E.tm a, E.tm b⟩, E.eq]
  congr
theorem Enc.neD [Decidable (a = b)] (E : Enc 12 e) : L2.neD (e a) (e b) = some (.bool (!decide (a = b))) := by
  unfold L2.neD
  rw [if_pos ⟨E.tm a, E.tm b⟩, E.eq]
  congr
theorem Enc.any [Decidable (a ∈ l)] (E : Enc 12 e) : ((l.map e).any fun y => PyData.eqv y (e a)) = decide (a ∈ l) := by
  rw [List.any_map]
  have : (fun y => PyData.eqv y (e a)) ∘ e = fun y => decide (y = a) := by funext y; exact E.eq y a
  rw [this, Bool.eq_iff_iff]
  simp
end
section
variable {l : List Dt} {k : Nat} {P : Dt → Prop}
end
section
variable {ns : List Int} {town : List Dt} {m : Nat} {Q : Dt → List Dt → Prop}
end
end PT
namespace L2
open PySem _root_.PT
end L2
namespace PT
open PySem L2 PF
local macro_rules | `(tactic| decreasing_trivial) => `(tactic| (repeat (first | ((with_reducible apply w_name); (· rfl)) | with_reducible apply w_c0 | with_reducible apply w_c1 | with_reducible apply w_c2 | with_reducible apply w_c3 | with_reducible apply w_c4 | with_reducible apply w_c5 | with_reducible apply w_c6 | with_reducible apply w_c7 | with_reducible apply w_c8 | with_reducible apply w_c9 | with_reducible apply w_c10 | with_reducible apply w_c11 | with_reducible apply w_c12 | with_reducible apply w_c16 | with_reducible apply w_c20 | with_reducible apply w_c27 | with_reducible apply w_c40 | with_reducible apply w_c216 | with_reducible apply w_c300 | with_reducible apply w_c | with_reducible apply w_lcF | with_reducible apply w_gaF | ((with_reducible apply o_ixT); (· rfl)) | with_reducible apply k_ifT | with_reducible apply k_ifF | ((with_reducible apply s_retB); (· rfl); try dsimp only [List.set_cons_succ, List.set_cons_zero]) | with_reducible apply o_isB | with_reducible apply o_isntB | with_reducible apply o_neg | with_reducible apply w_tupG | ((with_reducible apply w_still); (· rfl)) | ((with_reducible apply w_stillT); (· rfl)) | with_reducible apply w_op | with_reducible apply w_un | with_reducible apply w_tF | with_reducible apply k_asB | with_reducible apply w_tru | with_reducible apply o_truB | with_reducible apply w_not | with_reducible apply w_notV | with_reducible apply w_yes | with_reducible apply w_nilA | with_reducible apply w_consA | with_reducible apply w_tup | with_reducible apply w_lst | with_reducible apply w_bF | with_reducible apply w_bFl | with_reducible apply w_call | with_reducible apply w_is | with_reducible apply w_isN | with_reducible apply w_isNN | with_reducible apply w_sl | with_reducible apply w_noO | with_reducible apply w_someO | with_reducible apply k_nat | with_reducible apply s_skip | with_reducible apply s_brk | with_reducible apply s_cnt | with_reducible apply s_seq | with_reducible apply s_expr | with_reducible apply s_ret | with_reducible apply s_set | with_reducible apply s_asg | with_reducible apply s_par | with_reducible apply s_for | with_reducible apply w_rng1 | with_reducible apply w_rng2 | with_reducible apply w_seqI | with_reducible apply o_seqT | with_reducible apply o_seqL | with_reducible apply w_enum | with_reducible apply w_zip | with_reducible apply k_one | with_reducible apply k_two | with_reducible apply w_lrng | with_reducible apply w_trng | with_reducible apply g_cons | with_reducible apply g_nil | ((with_reducible apply g_name); try dsimp only [List.set_cons_succ, List.set_cons_zero]) | with_reducible apply o_end | with_reducible apply o_add | with_reducible apply o_lt | with_reducible apply o_le | with_reducible apply o_gt | with_reducible apply o_ge | with_reducible apply o_eqI | with_reducible apply o_neI | with_reducible apply o_eqB | with_reducible apply o_neB | with_reducible apply o_lenT | with_reducible apply o_lenL | with_reducible apply o_tupL | with_reducible apply o_tupT | with_reducible apply o_listL | with_reducible apply o_listT | with_reducible apply k_seqR | with_reducible apply k_seqB | with_reducible apply k_seqC | ((with_reducible apply k_seq); try dsimp only [List.set_cons_succ, List.set_cons_zero]) | ((with_reducible apply o_fill); (· rfl)) | ((with_reducible apply o_put); (· rfl); try dsimp only [List.set_cons_succ, List.set_cons_zero]) | ((with_reducible apply w_boxA); (· rfl)) | ((with_reducible apply g_tup); (· rfl)) | ((with_reducible apply w_lenB); (· rfl)) | ((with_reducible apply w_tupB); (· rfl)) | ((with_reducible apply w_truB); (· rfl)) | ((with_reducible apply s_aug); (· rfl)) | ((with_reducible apply k_rng1); (· omega)) | ((with_reducible apply k_rng2); (· omega); (· omega)))))
local macro_rules | `(tactic| decreasing_trivial_pre_omega) => `(tactic| (repeat (first | with_reducible apply s_chk | with_reducible apply w_orF | ((with_reducible apply w_name); (· rfl)) | with_reducible apply w_c0 | with_reducible apply w_c1 | with_reducible apply w_c2 | with_reducible apply w_c3 | with_reducible apply w_c4 | with_reducible apply w_c5 | with_reducible apply w_c6 | with_reducible apply w_c7 | with_reducible apply w_c8 | with_reducible apply w_c9 | with_reducible apply w_c10 | with_reducible apply w_c11 | with_reducible apply w_c12 | with_reducible apply w_c16 | with_reducible apply w_c20 | with_reducible apply w_c27 | with_reducible apply w_c40 | with_reducible apply w_c216 | with_reducible apply w_c300 | with_reducible apply w_c | with_reducible apply w_lcF | with_reducible apply w_gaF | ((with_reducible apply o_ixT); (· rfl)) | with_reducible apply k_ifT | with_reducible apply k_ifF | ((with_reducible apply s_retB); (· rfl); try dsimp only [List.set_cons_succ, List.set_cons_zero]) | with_reducible apply o_isB | with_reducible apply o_isntB | with_reducible apply o_neg | with_reducible apply w_tupG | ((with_reducible apply w_still); (· rfl)) | ((with_reducible apply w_stillT); (· rfl)) | with_reducible apply w_op | with_reducible apply w_un | with_reducible apply w_tF | with_reducible apply k_asB | with_reducible apply w_tru | with_reducible apply o_truB | with_reducible apply w_not | with_reducible apply w_notV | with_reducible apply w_yes | with_reducible apply w_nilA | with_reducible apply w_consA | with_reducible apply w_tup | with_reducible apply w_lst | with_reducible apply w_bF | with_reducible apply w_bFl | with_reducible apply w_call | with_reducible apply w_is | with_reducible apply w_isN | with_reducible apply w_isNN | with_reducible apply w_sl | with_reducible apply w_noO | with_reducible apply w_someO | with_reducible apply k_nat | with_reducible apply s_skip | with_reducible apply s_brk | with_reducible apply s_cnt | with_reducible apply s_seq | with_reducible apply s_expr | with_reducible apply s_ret | with_reducible apply s_set | with_reducible apply s_asg | with_reducible apply s_par | with_reducible apply s_for | with_reducible apply w_rng1 | with_reducible apply w_rng2 | with_reducible apply w_seqI | with_reducible apply o_seqT | with_reducible apply o_seqL | with_reducible apply w_enum | with_reducible apply w_zip | with_reducible apply k_one | with_reducible apply k_two | with_reducible apply w_lrng | with_reducible apply w_trng | with_reducible apply g_cons | with_reducible apply g_nil | ((with_reducible apply g_name); try dsimp only [List.set_cons_succ, List.set_cons_zero]) | with_reducible apply o_end | with_reducible apply o_add | with_reducible apply o_lt | with_reducible apply o_le | with_reducible apply o_gt | with_reducible apply o_ge | with_reducible apply o_eqI | with_reducible apply o_neI | with_reducible apply o_eqB | with_reducible apply o_neB | with_reducible apply o_lenT | with_reducible apply o_lenL | with_reducible apply o_tupL | with_reducible apply o_tupT | with_reducible apply o_listL | with_reducible apply o_listT | with_reducible apply k_seqR | with_reducible apply k_seqB | with_reducible apply k_seqC | ((with_reducible apply k_seq); try dsimp only [List.set_cons_succ, List.set_cons_zero]) | ((with_reducible apply o_fill); (· rfl)) | ((with_reducible apply o_put); (· rfl); try dsimp only [List.set_cons_succ, List.set_cons_zero]) | ((with_reducible apply w_boxA); (· rfl)) | ((with_reducible apply g_tup); (· rfl)) | ((with_reducible apply w_lenB); (· rfl)) | ((with_reducible apply w_tupB); (· rfl)) | ((with_reducible apply w_truB); (· rfl)) | ((with_reducible apply s_aug); (· rfl)) | ((with_reducible apply k_rng1); (· omega)) | ((with_reducible apply k_rng2); (· omega); (· omega)))))
section
variable {r : Nat → Nat → Bool} {ws : List (List Nat)} {n k : Nat}
end
end PT
namespace PT
open PySem L2 PF
local macro_rules | `(tactic| decreasing_trivial) => `(tactic| (repeat (first | ((with_reducible apply w_name); (· rfl)) | with_reducible apply w_c0 | with_reducible apply w_c1 | with_reducible apply w_c2 | with_reducible apply w_c3 | with_reducible apply w_c4 | with_reducible apply w_c5 | with_reducible apply w_c6 | with_reducible apply w_c7 | with_reducible apply w_c8 | with_reducible apply w_c9 | with_reducible apply w_c10 | with_reducible apply w_c11 | with_reducible apply w_c12 | with_reducible apply w_c16 | with_reducible apply w_c20 | with_reducible apply w_c27 | with_reducible apply w_c40 | with_reducible apply w_c216 | with_reducible apply w_c300 | with_reducible apply w_c | with_reducible apply w_lcF | with_reducible apply w_gaF | ((with_reducible apply o_ixT); (· rfl)) | with_reducible apply k_ifT | with_reducible apply k_ifF | ((with_reducible apply s_retB); (· rfl); try dsimp only [List.set_cons_succ, List.set_cons_zero]) | with_reducible apply o_isB | with_reducible apply o_isntB | with_reducible apply o_neg | with_reducible apply w_tupG | ((with_reducible apply w_still); (· rfl)) | ((with_reducible apply w_stillT); (· rfl)) | with_reducible apply w_op | with_reducible apply w_un | with_reducible apply w_tF | with_reducible apply k_asB | with_reducible apply w_tru | with_reducible apply o_truB | with_reducible apply w_not | with_reducible apply w_notV | with_reducible apply w_yes | with_reducible apply w_nilA | with_reducible apply w_consA | with_reducible apply w_tup | with_reducible apply w_lst | with_reducible apply w_bF | with_reducible apply w_bFl | with_reducible apply w_call | with_reducible apply w_is | with_reducible apply w_isN | with_reducible apply w_isNN | with_reducible apply w_sl | with_reducible apply w_noO | with_reducible apply w_someO | with_reducible apply k_nat | with_reducible apply s_skip | with_reducible apply s_brk | with_reducible apply s_cnt | with_reducible apply s_seq | with_reducible apply s_expr | with_reducible apply s_ret | with_reducible apply s_set | with_reducible apply s_asg | with_reducible apply s_par | with_reducible apply s_for | with_reducible apply w_rng1 | with_reducible apply w_rng2 | with_reducible apply w_seqI | with_reducible apply o_seqT | with_reducible apply o_seqL | with_reducible apply w_enum | with_reducible apply w_zip | with_reducible apply k_one | with_reducible apply k_two | with_reducible apply w_lrng | with_reducible apply w_trng | with_reducible apply g_cons | with_reducible apply g_nil | ((with_reducible apply g_name); try dsimp only [List.set_cons_succ, List.set_cons_zero]) | with_reducible apply o_end | with_reducible apply o_add | with_reducible apply o_lt | with_reducible apply o_le | with_reducible apply o_gt | with_reducible apply o_ge | with_reducible apply o_eqI | with_reducible apply o_neI | with_reducible apply o_eqB | with_reducible apply o_neB | with_reducible apply o_lenT | with_reducible apply o_lenL | with_reducible apply o_tupL | with_reducible apply o_tupT | with_reducible apply o_listL | with_reducible apply o_listT | with_reducible apply k_seqR | with_reducible apply k_seqB | with_reducible apply k_seqC | ((with_reducible apply k_seq); try dsimp only [List.set_cons_succ, List.set_cons_zero]) | ((with_reducible apply o_fill); (· rfl)) | ((with_reducible apply o_put); (· rfl); try dsimp only [List.set_cons_succ, List.set_cons_zero]) | ((with_reducible apply w_boxA); (· rfl)) | ((with_reducible apply g_tup); (· rfl)) | ((with_reducible apply w_lenB); (· rfl)) | ((with_reducible apply w_tupB); (· rfl)) | ((with_reducible apply w_truB); (· rfl)) | ((with_reducible apply s_aug); (· rfl)) | ((with_reducible apply k_rng1); (· omega)) | ((with_reducible apply k_rng2); (· omega); (· omega)))))
local macro_rules | `(tactic| decreasing_trivial_pre_omega) => `(tactic| (repeat (first | with_reducible apply s_chk | with_reducible apply w_orF | ((with_reducible apply w_name); (· rfl)) | with_reducible apply w_c0 | with_reducible apply w_c1 | with_reducible apply w_c2 | with_reducible apply w_c3 | with_reducible apply w_c4 | with_reducible apply w_c5 | with_reducible apply w_c6 | with_reducible apply w_c7 | with_reducible apply w_c8 | with_reducible apply w_c9 | with_reducible apply w_c10 | with_reducible apply w_c11 | with_reducible apply w_c12 | with_reducible apply w_c16 | with_reducible apply w_c20 | with_reducible apply w_c27 | with_reducible apply w_c40 | with_reducible apply w_c216 | with_reducible apply w_c300 | with_reducible apply w_c | with_reducible apply w_lcF | with_reducible apply w_gaF | ((with_reducible apply o_ixT); (· rfl)) | with_reducible apply k_ifT | with_reducible apply k_ifF | ((with_reducible apply s_retB); (· rfl); try dsimp only [List.set_cons_succ, List.set_cons_zero]) | with_reducible apply o_isB | with_reducible apply o_isntB | with_reducible apply o_neg | with_reducible apply w_tupG | ((with_reducible apply w_still); (· rfl)) | ((with_reducible apply w_stillT); (· rfl)) | with_reducible apply w_op | with_reducible apply w_un | with_reducible apply w_tF | with_reducible apply k_asB | with_reducible apply w_tru | with_reducible apply o_truB | with_reducible apply w_not | with_reducible apply w_notV | with_reducible apply w_yes | with_reducible apply w_nilA | with_reducible apply w_consA | with_reducible apply w_tup | with_reducible apply w_lst | with_reducible apply w_bF | with_reducible apply w_bFl | with_reducible apply w_call | with_reducible apply w_is | with_reducible apply w_isN | with_reducible apply w_isNN | with_reducible apply w_sl | with_reducible apply w_noO | with_reducible apply w_someO | with_reducible apply k_nat | with_reducible apply s_skip | with_reducible apply s_brk | with_reducible apply s_cnt | with_reducible apply s_seq | with_reducible apply s_expr | with_reducible apply s_ret | with_reducible apply s_set | with_reducible apply s_asg | with_reducible apply s_par | with_reducible apply s_for | with_reducible apply w_rng1 | with_reducible apply w_rng2 | with_reducible apply w_seqI | with_reducible apply o_seqT | with_reducible apply o_seqL | with_reducible apply w_enum | with_reducible apply w_zip | with_reducible apply k_one | with_reducible apply k_two | with_reducible apply w_lrng | with_reducible apply w_trng | with_reducible apply g_cons | with_reducible apply g_nil | ((with_reducible apply g_name); try dsimp only [List.set_cons_succ, List.set_cons_zero]) | with_reducible apply o_end | with_reducible apply o_add | with_reducible apply o_lt | with_reducible apply o_le | with_reducible apply o_gt | with_reducible apply o_ge | with_reducible apply o_eqI | with_reducible apply o_neI | with_reducible apply o_eqB | with_reducible apply o_neB | with_reducible apply o_lenT | with_reducible apply o_lenL | with_reducible apply o_tupL | with_reducible apply o_tupT | with_reducible apply o_listL | with_reducible apply o_listT | with_reducible apply k_seqR | with_reducible apply k_seqB | with_reducible apply k_seqC | ((with_reducible apply k_seq); try dsimp only [List.set_cons_succ, List.set_cons_zero]) | ((with_reducible apply o_fill); (· rfl)) | ((with_reducible apply o_put); (· rfl); try dsimp only [List.set_cons_succ, List.set_cons_zero]) | ((with_reducible apply w_boxA); (· rfl)) | ((with_reducible apply g_tup); (· rfl)) | ((with_reducible apply w_lenB); (· rfl)) | ((with_reducible apply w_tupB); (· rfl)) | ((with_reducible apply w_truB); (· rfl)) | ((with_reducible apply s_aug); (· rfl)) | ((with_reducible apply k_rng1); (· omega)) | ((with_reducible apply k_rng2); (· omega); (· omega)))))
section
variable {P : Dt → Prop}
theorem o_addZ {i j : Int} (k : P (.int (i + j))) : W1 (addD (.int i) (.int j)) P := ⟨_, rfl, k⟩
theorem o_mulZ {i j : Int} (h : -(2 ^ 64) < i ∧ i < 2 ^ 64) (k : P (.int (i * j))) : W1 (mulD (.int i) (.int j)) P := ⟨_, mul_ok h, k⟩
theorem o_modZ {i j : Int} (h : 0 < j) (k : P (.int (i % j))) : W1 (modD (.int i) (.int j)) P := ⟨_, mod_ok h, k⟩
theorem o_fdivZ {i j : Int} (h : 0 < j ∧ j < 1073741824) (k : P (.int (i / j))) : W1 (fdivD (.int i) (.int j)) P := ⟨_, fdiv_ok h, k⟩
end
mutual
def plain : Nat → Dt → Bool
  | _, .none => true
  | _, .bool _ => true
  | _, .int _ => true
  | _, .str x => PyData.strOk x
  | 0, _ => false
  | n + 1, .tuple ds => plainAll n ds
  | _, _ => false
def plainAll : Nat → List Dt → Bool
  | _, [] => true
  | n, d :: ds => plain n d && plainAll n ds
end
section
variable {ns : List Int} {town : List Dt} {m : Nat} {Q : Dt → List Dt → Prop}
theorem draw2_w (hm : 0 < m) (ht : town.length < 1000000) (k : ∀ (r : Nat) (t : List Dt), r < m → t.length = town.length + 1 → Q (DI r) [.list t]) : W2 (f_law_draw_k02 [scr ns, .list town, DI m]) Q := by
  refine w_fn (ρ0 := [some (scr ns), some (.list town), some (DI m), none, none, none]) rfl ?_
  unfold b_law_draw_k02
  refine s_seq (s_app (ds0 := town) (ds := town) rfl ?_)
  decreasing_trivial
  refine ⟨town, rfl, by omega, ?_⟩
  have hw : (town ++ [DI 0]).length = town.length + 1 := by simp
  generalize town ++ [DI 0] = tw at hw ⊢
  decreasing_trivial
  refine s_if ?_
  decreasing_trivial
  have fin : ∀ c : Int, W2 (seqS (setS 5 (opF modD (opF addD (nameF 4) (opF mulD (cF (.int 104729)) (nameF 3))) (cF (.int 4294967291)))) (seqS (setS 5 (opF modD (opF mulD (opF modD (opF mulD (nameF 5) (nameF 5)) (cF (.int 4294967279))) (cF (.int 48271))) (cF (.int 4294967291)))) (retS (opF modD (opF fdivD (nameF 5) (cF (.int 64))) (nameF 2)))) [some (scr ns), some (.list tw), some (DI m), some (DI tw.length), some (.int c), none]) fun o ρ1 => W1 (endD o) fun d => W1 (outsB [false, true, false] ρ1) fun os => Q d os := by
    intro c
    decreasing_trivial
    refine o_mulZ (by decide) ?_
    refine o_addZ ?_
    decreasing_trivial
    refine o_modZ (by decide) ?_
    have b5 : 0 ≤ (c + 104729 * (tw.length : Int)) % 4294967291 ∧ (c + 104729 * (tw.length : Int)) % 4294967291 < 4294967291 := ⟨Int.emod_nonneg _ (by decide), Int.emod_lt_of_pos _ (by decide)⟩
    generalize (c + 104729 * (tw.length : Int)) % 4294967291 = v at b5 ⊢
    decreasing_trivial
    refine o_mulZ (by omega) ?_
    decreasing_trivial
    refine o_modZ (by decide) ?_
    have m5 : 0 ≤ v * v % 4294967279 ∧ v * v % 4294967279 < 4294967279 := ⟨Int.emod_nonneg _ (by decide), Int.emod_lt_of_pos _ (by decide)⟩
    generalize v * v % 4294967279 = u at m5 ⊢
    decreasing_trivial
    refine o_mulZ (by omega) ?_
    decreasing_trivial
    refine o_modZ (by decide) ?_
    have m6 : 0 ≤ u * 48271 % 4294967291 := Int.emod_nonneg _ (by decide)
    generalize u * 48271 % 4294967291 = x at m6 ⊢
    decreasing_trivial
    refine o_fdivZ (by decide) ?_
    decreasing_trivial
    refine o_modZ (by omega) ?_
    have m7 : 0 ≤ x / 64 % (m : Int) ∧ x / 64 % (m : Int) < m := ⟨Int.emod_nonneg _ (by omega), Int.emod_lt_of_pos _ (by omega)⟩
    generalize x / 64 % (m : Int) = y at m7 ⊢
    decreasing_trivial
    refine o_outs rfl ?_
    have := k y.toNat tw (by omega) hw
    rwa [show DI y.toNat = PyData.int y by show PyData.int (y.toNat : Int) = _; rw [Int.toNat_of_nonneg m7.1]] at this
  refine o_truL ?_
  cases ns with
  | nil =>
    refine ⟨fun h => (nomatch h), fun _ => ?_⟩
    exact s_skip (fin 0)
  | cons x xs =>
    refine ⟨fun _ => ?_, fun h => nomatch h⟩
    have hlt : tw.length % ((x :: xs).map PyData.int).length < (x :: xs).length := by rw [List.length_map]; exact Nat.mod_lt _ (by simp)
    refine s_set ?_
    decreasing_trivial
    refine o_mod (by simp) ?_
    refine o_ixL (d := .int ((x :: xs)[tw.length % ((x :: xs).map PyData.int).length])) (by rw [List.getElem?_map, List.getElem?_eq_getElem hlt]; rfl) ?_
    exact fin _
end
section
variable {ns : List Int} {town : List Dt} {m : Nat} {Q : Dt → List Dt → Prop}
theorem pick2_w {α : Type} {xs : List α} {e : α → Dt} (hx : xs ≠ []) (ht : town.length < 1000000) (k : ∀ (x : α) (t : List Dt), x ∈ xs → t.length = town.length + 1 → Q (e x) [.list t]) : W2 (f_law_pick_k02 [scr ns, .list town, .list (xs.map e)]) Q := by
  refine w_fn (ρ0 := [some (scr ns), some (.list town), some (.list (xs.map e))]) rfl ?_
  unfold b_law_pick_k02
  decreasing_trivial
  refine draw2_w (m := (xs.map e).length) (by rw [List.length_map]; exact List.length_pos_iff.mpr hx) ht fun r t hr h1 => ?_
  rw [List.length_map] at hr
  decreasing_trivial
  refine o_ixL (d := e xs[r]) (by rw [List.getElem?_map, List.getElem?_eq_getElem hr]; rfl) ?_
  decreasing_trivial
  exact o_outs rfl (k _ _ (List.getElem_mem hr) h1)
end
section
variable {r : Nat → Nat → Bool} {n k : Nat} {ns : List Int} {town : List Dt} {Q : Dt → List Dt → Prop}
end
section
variable {r : Nat → Nat → Bool} {ws : List (List Nat)} {n k : Nat}
def gr (r : Nat → Nat → Bool) : List (List Nat) → List (List Nat) → List (List Nat)
  | [], c => c
  | w :: l, c => gr r l (if c.any (mxw r w) = true then c else c ++ [w])
end
section
variable {ns : List Int} {m : Nat}
abbrev L15 : List Nat := [2, 4, 5]
abbrev T15 : List Str := ["", "x", "7:", "2:10", "3:01,01", "2:01,", "1:00"]
def a15 (j : Nat) : Dt := .list [.str (if j < 3 then "NoSign" else "NoText")]
theorem ask15 {j l : Nat} {t : Str} (hj : j ∈ List.range 4) (hl : l ∈ L15) (ht : t ∈ T15) : f_law_ask_k15 [DI j, DI l, .str t] = some (a15 j, []) := by
  have hj : j = 0 ∨ j = 1 ∨ j = 2 ∨ j = 3 := by have := List.mem_range.mp hj; omega
  simp only [List.mem_cons, List.mem_nil_iff, or_false] at hl ht
  rcases hj with rfl | rfl | rfl | rfl <;> rcases hl with rfl | rfl | rfl <;> rcases ht with rfl | rfl | rfl | rfl | rfl | rfl | rfl <;> kernel_rfl
theorem rep15 (ρ : Ev) : repF (lstF (consA (lstF (consA (cF (.str "NoSign")) nilA)) nilA)) (cF (.int 3)) ρ = some (.list [.list [.str "NoSign"], .list [.str "NoSign"], .list [.str "NoSign"]], ρ) := by kernel_rfl
theorem one15 (ρ : Ev) : lstF (consA (lstF (consA (cF (.str "NoText")) nilA)) nilA) ρ = some (.list [.list [.str "NoText"]], ρ) := by kernel_rfl
theorem add15 : addD (.list [.list [.str "NoSign"], .list [.str "NoSign"], .list [.str "NoSign"]]) (.list [.list [.str "NoText"]]) = some (.list [.list [.str "NoSign"], .list [.str "NoSign"], .list [.str "NoSign"], .list [.str "NoText"]]) := by kernel_rfl
theorem ne15 : neD (.list ((List.range 4).map a15)) (.list [.list [.str "NoSign"], .list [.str "NoSign"], .list [.str "NoSign"], .list [.str "NoText"]]) = some (.bool false) := by kernel_rfl
def E15 (ns : List Int) (t : List Dt) (rest : List (Option Dt)) : Ev := some (scr ns) :: some (.list t) :: rest
def Ev15 (ns : List Int) (m : Nat) (ρ : Ev) : Prop := ∃ (t : List Dt) (rest : List (Option Dt)), ρ = E15 ns t rest ∧ rest.length = 4 ∧ t.length ≤ m
theorem turn15 {ρ : Ev} {a : Nat} (hm : m ≤ 5000) (h : Ev15 ns m ρ) : W1 (nameG 2 (DI a) ρ) fun ρ1 => W2 (PF.p_law_k15_1 ρ1) fun o ρ2 => (o = .nx ∨ o = .ct) ∧ Ev15 ns (m + 2) ρ2 := by
  obtain ⟨t0, rest, rfl, hl, ht0⟩ := h
  match rest, hl with
  | [x2, x3, x4, x5], _ =>
  decreasing_trivial_pre_omega
  unfold p_law_k15_1
  decreasing_trivial_pre_omega
  refine pick2_w (xs := L15) (e := DI) (by decide) (by omega) fun l t1 hl h1 => ?_
  decreasing_trivial_pre_omega
  refine pick2_w (xs := T15) (e := PyData.str) (by decide) (by omega) fun s t2 hs h2 => ?_
  decreasing_trivial_pre_omega
  refine w_lcY DI (List.range 4) a15 (fun j hj => ?_) ?_
  · decreasing_trivial_pre_omega
    refine ⟨rfl, ?_⟩
    decreasing_trivial_pre_omega
    refine w2 (ask15 hj hl hs) ?_
    decreasing_trivial_pre_omega
    exact ⟨rfl, rfl⟩
  (dsimp only [backE, wipeE, List.set_cons_succ, List.set_cons_zero, List.getElem?_cons_succ, List.getElem?_cons_zero, Option.getD_some])
  decreasing_trivial_pre_omega
  refine w2 (rep15 _) (w2 (one15 _) (w1 add15 (w1 ne15 ⟨_, rfl, rfl, .inl rfl, _, _, rfl, rfl, by omega⟩)))
theorem main15 (ns : List Int) (h : ns.length ≤ 63) : f_law_k15 [.list (ns.map PyData.int)] = some (.bool true, []) := by
  refine W2.eq ?_
  refine w_fn (ρ0 := [some (scr ns), none, none, none, none, none]) rfl ?_
  unfold b_law_k15
  decreasing_trivial_pre_omega
  refine w_loopC DI (List.range 8) (fun k ρ => Ev15 ns (2 * k) ρ) ⟨[], _, rfl, rfl, by simp⟩ (fun a k ρ _ hk h => ?_) ?_
  · rw [List.length_range] at hk
    exact turn15 (m := 2 * k) (by omega) h
  rintro ρ ⟨t, rest, rfl, hl, ht⟩
  match rest, hl with
  | [x2, x3, x4, x5], _ =>
  decreasing_trivial_pre_omega
  exact o_outs rfl ⟨rfl, rfl⟩
end
end PT
namespace G15
open PySem L2
open PySem.Spec PyProof.Rows
def top (i : Nat) : Stmt := PySem.Challenge.pw_mistakesigns_k15_whole_refusals.main.body.getD i (.Pass ⟨0, 0, 0, 0⟩)
abbrev tn : List Str := ["rises", "is_table", "may_be_heard"]
structure DefAt (K : PySem.W.Frag) (mg : Str → Option Value) (x : Str) (st : Stmt) (ps : List Str) (p : Addr × FuncData) : Prop where
  F : Fun K x x st p.1 p.2
  n : PySem.W.nsIn K mainGlobals x = some (some (.ref p.1))
  m : mg x = some (.ref p.1)
  b : Binds K p.2 ps []
structure Ad where
  is_whole : Addr × FuncData
  is_sign : Addr × FuncData
  is_pair : Addr × FuncData
  rises : Addr × FuncData
  is_table : Addr × FuncData
  may_be_heard : Addr × FuncData
  sent : Addr × FuncData
  told : Addr × FuncData
  figure : Addr × FuncData
  read : Addr × FuncData
  law_draw : Addr × FuncData
  law_pick : Addr × FuncData
  law_names : Addr × FuncData
  law_ask : Addr × FuncData
  law : Addr × FuncData
  x_MistakeError : Addr
  x_NoSign : Addr
  x_NoText : Addr
abbrev s_is_whole : Stmt := top 6
abbrev s_is_sign : Stmt := top 7
abbrev s_is_pair : Stmt := top 8
abbrev s_rises : Stmt := top 9
abbrev s_is_table : Stmt := top 10
abbrev s_may_be_heard : Stmt := top 12
abbrev s_sent : Stmt := top 13
abbrev s_told : Stmt := top 14
abbrev s_figure : Stmt := top 17
abbrev s_read : Stmt := top 18
abbrev s_law_draw : Stmt := top 20
abbrev s_law_pick : Stmt := top 21
abbrev s_law_names : Stmt := top 22
abbrev s_law_ask : Stmt := top 23
abbrev s_law : Stmt := top 24
structure Tx (K : PySem.W.Frag) (mg : Str → Option Value) (a : Ad) : Prop where
  is_whole : DefAt K mg "is_whole" s_is_whole ["thing"] a.is_whole
  is_sign : DefAt K mg "is_sign" s_is_sign ["thing", "many"] a.is_sign
  is_pair : DefAt K mg "is_pair" s_is_pair ["thing", "many"] a.is_pair
  rises : DefAt K mg "rises" s_rises ["row"] a.rises
  is_table : DefAt K mg "is_table" s_is_table ["thing"] a.is_table
  may_be_heard : DefAt K mg "may_be_heard" s_may_be_heard ["channel", "word", "heard"] a.may_be_heard
  sent : DefAt K mg "sent" s_sent ["channel", "some", "heard"] a.sent
  told : DefAt K mg "told" s_told ["channel", "some", "heard"] a.told
  figure : DefAt K mg "figure" s_figure ["text"] a.figure
  read : DefAt K mg "read" s_read ["text"] a.read
  law_draw : DefAt K mg "_law_draw" s_law_draw ["_law_script", "_law_town", "_law_many"] a.law_draw
  law_pick : DefAt K mg "_law_pick" s_law_pick ["_law_script", "_law_town", "_law_some"] a.law_pick
  law_names : DefAt K mg "_law_names" s_law_names ["_law_e"] a.law_names
  law_ask : DefAt K mg "_law_ask" s_law_ask ["_law_k", "_law_letter", "_law_text"] a.law_ask
  law : DefAt K mg "law" s_law ["_law_script"] a.law
  z_ValueError : mg "ValueError" = none
  z_all : mg "all" = none
  z_bool : mg "bool" = none
  z_enumerate : mg "enumerate" = none
  z_int : mg "int" = none
  z_isinstance : mg "isinstance" = none
  z_len : mg "len" = none
  z_range : mg "range" = none
  z_tuple : mg "tuple" = none
  z_zip : mg "zip" = none
  x_MistakeError : ExF K "MistakeError" a.x_MistakeError
  x_NoSign : ExF K "NoSign" a.x_NoSign
  x_NoText : ExF K "NoText" a.x_NoText
  g_MOST_SIGNS : ∃ t, mg "MOST_SIGNS" = some (.int 6 t)
  g_FIGURES : ∃ t, mg "FIGURES" = some (.str "0123456789" t)
  t_rises : ∃ c P, PySem.W.tabIn K "rises" = some (c, P)
  t_is_table : ∃ c P, PySem.W.tabIn K "is_table" = some (c, P)
  t_may_be_heard : ∃ c P, PySem.W.tabIn K "may_be_heard" = some (c, P)
  xi_NoSign_NoSign : PySem.W.kitOne K (.ref a.x_NoSign) (.ref a.x_NoSign) = some true
  xi_NoSign_NoText : PySem.W.kitOne K (.ref a.x_NoSign) (.ref a.x_NoText) = some false
  xi_NoSign_ValueError : PySem.W.kitOne K (.ref a.x_NoSign) (.type "ValueError") = some true
  xi_NoText_NoSign : PySem.W.kitOne K (.ref a.x_NoText) (.ref a.x_NoSign) = some false
  xi_NoText_NoText : PySem.W.kitOne K (.ref a.x_NoText) (.ref a.x_NoText) = some true
  xi_NoText_ValueError : PySem.W.kitOne K (.ref a.x_NoText) (.type "ValueError") = some true
  xk_NoSign : excKb K a.x_NoSign = true
  xk_NoText : excKb K a.x_NoText = true
  xm_NoSign_MistakeError : PySem.W.exmOne K (.ref a.x_NoSign) (.ref a.x_MistakeError) = some true
  xm_NoText_MistakeError : PySem.W.exmOne K (.ref a.x_NoText) (.ref a.x_MistakeError) = some true
abbrev N_is_whole : List Str := ["thing"]
abbrev P_is_whole : List Str := ["thing"]
theorem sc_is_whole : FnScope N_is_whole P_is_whole (defScope s_is_whole) := ⟨rfl, rfl, rfl, by decide +kernel, rfl, by decide +kernel, by decide +kernel⟩
abbrev M_is_whole : Md := { bs := [], np := 1, tn := tn }
theorem ok_is_whole {P : Program} {w : World} {K : PySem.W.Frag} {mg : Str → Option Value} {base : Heap} {a : Ad} (T : Tx K mg a) (B : GBase K mg base tn) : FnOk P w K mg base CX0 1 a.is_whole.1 a.is_whole.2 P_is_whole (spq K tn [false] PF.f_is_whole) := by
  have key := fn_q (P := P) (w := w) (mg := mg) (base := base) (k := 0) (M := M_is_whole) (bp := [false]) (body := PF.b_is_whole) T.is_whole.F T.is_whole.n sc_is_whole (by rfl) (by rfl)
  refine key ?_
  clear key
  intro cdv A outer s H E hcc hr
  conv => arg 3; whnf
  conv => arg 4; delta PF.b_is_whole
  exact qss_one (qs_ret (eo_and (qe_isinst "int" (eo_name 0) T.z_isinstance T.z_int (hvt := bb_int)) (eo_one (eo_not (qe_isinst "bool" (eo_name 0) T.z_isinstance T.z_bool (hvt := bb_bool))))))
abbrev N_is_sign : List Str := ["thing", "many"]
abbrev P_is_sign : List Str := ["thing", "many"]
theorem sc_is_sign : FnScope N_is_sign P_is_sign (defScope s_is_sign) := ⟨rfl, rfl, rfl, by decide +kernel, rfl, by decide +kernel, by decide +kernel⟩
abbrev M_is_sign : Md := { bs := [], np := 2, tn := tn }
theorem ok_is_sign {P : Program} {w : World} {K : PySem.W.Frag} {mg : Str → Option Value} {base : Heap} {a : Ad} (T : Tx K mg a) (B : GBase K mg base tn) : FnOk P w K mg base CX0 2 a.is_sign.1 a.is_sign.2 P_is_sign (spq K tn [false, false] PF.f_is_sign) := by
  have G_is_whole := ok_is_whole (P := P) (w := w) T B
  have key := fn_q (P := P) (w := w) (mg := mg) (base := base) (k := 1) (M := M_is_sign) (bp := [false, false]) (body := PF.b_is_sign) T.is_sign.F T.is_sign.n sc_is_sign (by rfl) (by rfl)
  refine key ?_
  clear key
  intro cdv A outer s H E hcc hr
  conv => arg 3; whnf
  conv => arg 4; delta PF.b_is_sign
  exact qss_one (qs_ret (eo_and (qe_call G_is_whole ((hr).mono (by first | decide | omega)) T.is_whole.m T.is_whole.F.kp T.is_whole.b (ao_cons (eo_name 0) (ao_nil))) (eo_one (eo_chain oq_le (oq_ltT (hr).units) (eo_int) (eo_name 0) (eo_name 1)))))
abbrev N_is_pair : List Str := ["thing", "many", "one", "other"]
abbrev P_is_pair : List Str := ["thing", "many"]
theorem sc_is_pair : FnScope N_is_pair P_is_pair (defScope s_is_pair) := ⟨rfl, rfl, rfl, by decide +kernel, rfl, by decide +kernel, by decide +kernel⟩
abbrev M_is_pair : Md := { bs := [], np := 2, tn := tn }
theorem ok_is_pair {P : Program} {w : World} {K : PySem.W.Frag} {mg : Str → Option Value} {base : Heap} {a : Ad} (T : Tx K mg a) (B : GBase K mg base tn) : FnOk P w K mg base CX0 3 a.is_pair.1 a.is_pair.2 P_is_pair (spq K tn [false, false] PF.f_is_pair) := by
  have G_is_sign := ok_is_sign (P := P) (w := w) T B
  have key := fn_q (P := P) (w := w) (mg := mg) (base := base) (k := 2) (M := M_is_pair) (bp := [false, false]) (body := PF.b_is_pair) T.is_pair.F T.is_pair.n sc_is_pair (by rfl) (by rfl)
  refine key ?_
  clear key
  intro cdv A outer s H E hcc hr
  conv => arg 3; whnf
  conv => arg 4; delta PF.b_is_pair
  exact qss_cons (qs_if (QW.to (wo_or (to_not (to_tru (qe_isinst "tuple" (eo_name 0) T.z_isinstance T.z_tuple (hvt := bb_tuple)))) (wo_or1 (to_cmp (oq_ne (hr).units) (qe_callB cq_len T.z_len (ao_cons (eo_name 0) (ao_nil)) (hv := bb_len)) (eo_int))))) (qss_one (qs_ret (eo_bl))) (qss_nil))
    (qss_cons (qs_asg (eo_name 0) (qj_tup (qjs_cons (qj_name 2 sc_is_pair.nd) (qjs_cons (qj_name 3 sc_is_pair.nd) (qjs_nil)))))
    (qss_one (qs_ret (eo_and (qe_call G_is_sign ((hr).mono (by first | decide | omega)) T.is_sign.m T.is_sign.F.kp T.is_sign.b (ao_cons (eo_name 2) (ao_cons (eo_name 1) (ao_nil)))) (eo_and (qe_call G_is_sign ((hr).mono (by first | decide | omega)) T.is_sign.m T.is_sign.F.kp T.is_sign.b (ao_cons (eo_name 3) (ao_cons (eo_name 1) (ao_nil)))) (eo_one (eo_cmp (oq_ltT (hr).units) (eo_name 2) (eo_name 3))))))))
abbrev N_rises : List Str := ["row", "at"]
abbrev P_rises : List Str := ["row"]
theorem sc_rises : FnScope N_rises P_rises (defScope s_rises) := ⟨rfl, rfl, rfl, by decide +kernel, rfl, by decide +kernel, by decide +kernel⟩
abbrev M_rises : Md := { bs := [], np := 1, tn := tn }
theorem ok_rises {P : Program} {w : World} {K : PySem.W.Frag} {mg : Str → Option Value} {base : Heap} {a : Ad} (T : Tx K mg a) (B : GBase K mg base tn) : FnOk P w K mg base CX0 2 a.rises.1 a.rises.2 P_rises (spq K tn [false] PF.f_rises) := by
  obtain ⟨c, Q, hcQ⟩ := T.t_rises
  have gx : ∀ {cdv A outer s H E}, (∀ c P, PySem.W.tabIn K "rises" = some (c, P) → cdv = .ref c) → GenX (cxOf CX0 P w K mg base N_rises "rises" (defScope s_rises) a.rises.1 cdv A outer s H E).nox M_rises "rises" c Q := fun hcc => ⟨by decide, hcQ, B.hd _ (by decide) _ _ hcQ, hcc c Q hcQ, B.bm⟩
  have key := fn_q (P := P) (w := w) (mg := mg) (base := base) (k := 1) (M := M_rises) (bp := [false]) (body := PF.b_rises) T.rises.F T.rises.n sc_rises (by rfl) (by rfl)
  refine key ?_
  clear key
  intro cdv A outer s H E hcc hr
  conv => arg 3; whnf
  conv => arg 4; delta PF.b_rises
  exact qss_one (qs_ret (qe_all [("at", 1)] (gx hcc) hr T.z_all sc_rises.nd (qi_range1 T.z_range (ao_cons (eo_op oq_sub (qe_callB cq_len T.z_len (ao_cons (eo_name 0) (ao_nil)) (hv := bb_len)) (eo_int)) (ao_nil))) ⟨(show BlkOk N_rises (defScope s_rises) _ _ from ⟨rfl, by decide +kernel, by decide +kernel, by decide +kernel, by decide +kernel⟩), rfl, by decide +kernel, rfl⟩ (fun _ _ _ _ _ _ => qj_name 1 sc_rises.nd) (fun _ _ _ _ _ _ => qts_nil) (fun _ _ _ _ _ _ => eo_cmp (oq_ltT ((hr).gen _).units) (qe_ix (eo_name 0) (eo_name 1)) (qe_ix (eo_name 0) (eo_op oq_add (eo_name 1) (eo_int))))))
abbrev N_is_table : List Str := ["thing", "many", "pairs", "pair"]
abbrev P_is_table : List Str := ["thing"]
theorem sc_is_table : FnScope N_is_table P_is_table (defScope s_is_table) := ⟨rfl, rfl, rfl, by decide +kernel, rfl, by decide +kernel, by decide +kernel⟩
abbrev M_is_table : Md := { bs := [], np := 1, tn := tn }
theorem ok_is_table {P : Program} {w : World} {K : PySem.W.Frag} {mg : Str → Option Value} {base : Heap} {a : Ad} (T : Tx K mg a) (B : GBase K mg base tn) : FnOk P w K mg base CX0 5 a.is_table.1 a.is_table.2 P_is_table (spq K tn [false] PF.f_is_table) := by
  have G_is_pair := ok_is_pair (P := P) (w := w) T B
  have G_is_whole := ok_is_whole (P := P) (w := w) T B
  have G_rises := ok_rises (P := P) (w := w) T B
  obtain ⟨_, g_MOST_SIGNS⟩ := T.g_MOST_SIGNS
  obtain ⟨c, Q, hcQ⟩ := T.t_is_table
  have gx : ∀ {cdv A outer s H E}, (∀ c P, PySem.W.tabIn K "is_table" = some (c, P) → cdv = .ref c) → GenX (cxOf CX0 P w K mg base N_is_table "is_table" (defScope s_is_table) a.is_table.1 cdv A outer s H E).nox M_is_table "is_table" c Q := fun hcc => ⟨by decide, hcQ, B.hd _ (by decide) _ _ hcQ, hcc c Q hcQ, B.bm⟩
  have key := fn_q (P := P) (w := w) (mg := mg) (base := base) (k := 4) (M := M_is_table) (bp := [false]) (body := PF.b_is_table) T.is_table.F T.is_table.n sc_is_table (by rfl) (by rfl)
  refine key ?_
  clear key
  intro cdv A outer s H E hcc hr
  conv => arg 3; whnf
  conv => arg 4; delta PF.b_is_table
  exact qss_cons (qs_if (QW.to (wo_or (to_not (to_tru (qe_isinst "tuple" (eo_name 0) T.z_isinstance T.z_tuple (hvt := bb_tuple)))) (wo_or1 (to_cmp (oq_ne (hr).units) (qe_callB cq_len T.z_len (ao_cons (eo_name 0) (ao_nil)) (hv := bb_len)) (eo_int))))) (qss_one (qs_ret (eo_bl))) (qss_nil))
    (qss_cons (qs_asg (eo_name 0) (qj_tup (qjs_cons (qj_name 1 sc_is_table.nd) (qjs_cons (qj_name 2 sc_is_table.nd) (qjs_nil)))))
    (qss_cons (qs_if (QW.to (wo_or (to_not (to_tru (qe_call G_is_whole ((hr).mono (by first | decide | omega)) T.is_whole.m T.is_whole.F.kp T.is_whole.b (ao_cons (eo_name 1) (ao_nil))))) (wo_or (to_not (to_chain oq_le oq_le (eo_int) (eo_name 1) (eo_glob (by rfl) g_MOST_SIGNS))) (wo_or1 (to_not (to_tru (qe_isinst "tuple" (eo_name 2) T.z_isinstance T.z_tuple (hvt := bb_tuple)))))))) (qss_one (qs_ret (eo_bl))) (qss_nil))
    (qss_one (qs_ret (eo_and (qe_all [("pair", 3)] (gx hcc) hr T.z_all sc_is_table.nd (qi_seq (eo_name 2)) ⟨(show BlkOk N_is_table (defScope s_is_table) _ _ from ⟨rfl, by decide +kernel, by decide +kernel, by decide +kernel, by decide +kernel⟩), rfl, by decide +kernel, rfl⟩ (fun _ _ _ _ _ _ => qj_name 3 sc_is_table.nd) (fun _ _ _ _ _ _ => qts_nil) (fun _ _ _ _ _ _ => qe_call G_is_pair (((hr).gen _).mono (by first | decide | omega)) T.is_pair.m T.is_pair.F.kp T.is_pair.b (ao_cons (eo_name 3) (ao_cons (eo_name 1) (ao_nil))))) (eo_one (qe_call G_rises ((hr).mono (by first | decide | omega)) T.rises.m T.rises.F.kp T.rises.b (ao_cons (eo_name 2) (ao_nil)))))))))
abbrev N_may_be_heard : List Str := ["channel", "word", "heard", "sign", "letter"]
abbrev P_may_be_heard : List Str := ["channel", "word", "heard"]
theorem sc_may_be_heard : FnScope N_may_be_heard P_may_be_heard (defScope s_may_be_heard) := ⟨rfl, rfl, rfl, by decide +kernel, rfl, by decide +kernel, by decide +kernel⟩
abbrev M_may_be_heard : Md := { bs := [], np := 3, tn := tn }
theorem ok_may_be_heard {P : Program} {w : World} {K : PySem.W.Frag} {mg : Str → Option Value} {base : Heap} {a : Ad} (T : Tx K mg a) (B : GBase K mg base tn) : FnOk P w K mg base CX0 2 a.may_be_heard.1 a.may_be_heard.2 P_may_be_heard (spq K tn [false, false, false] PF.f_may_be_heard) := by
  obtain ⟨c, Q, hcQ⟩ := T.t_may_be_heard
  have gx : ∀ {cdv A outer s H E}, (∀ c P, PySem.W.tabIn K "may_be_heard" = some (c, P) → cdv = .ref c) → GenX (cxOf CX0 P w K mg base N_may_be_heard "may_be_heard" (defScope s_may_be_heard) a.may_be_heard.1 cdv A outer s H E).nox M_may_be_heard "may_be_heard" c Q := fun hcc => ⟨by decide, hcQ, B.hd _ (by decide) _ _ hcQ, hcc c Q hcQ, B.bm⟩
  have key := fn_q (P := P) (w := w) (mg := mg) (base := base) (k := 1) (M := M_may_be_heard) (bp := [false, false, false]) (body := PF.b_may_be_heard) T.may_be_heard.F T.may_be_heard.n sc_may_be_heard (by rfl) (by rfl)
  refine key ?_
  clear key
  intro cdv A outer s H E hcc hr
  conv => arg 3; whnf
  conv => arg 4; delta PF.b_may_be_heard
  exact qss_one (qs_ret (qe_all [("sign", 3), ("letter", 4)] (gx hcc) hr T.z_all sc_may_be_heard.nd (qi_zip T.z_zip (ao_cons (eo_name 1) (ao_cons (eo_name 2) (ao_nil)))) ⟨(show BlkOk N_may_be_heard (defScope s_may_be_heard) _ _ from ⟨rfl, by decide +kernel, by decide +kernel, by decide +kernel, by decide +kernel⟩), rfl, by decide +kernel, rfl⟩ (fun _ _ _ _ _ _ => qj_tup (qjs_cons (qj_name 3 sc_may_be_heard.nd) (qjs_cons (qj_name 4 sc_may_be_heard.nd) (qjs_nil)))) (fun _ _ _ _ _ _ => qts_nil) (fun _ _ _ _ _ _ => eo_cmp (oq_in ((hr).gen _).units) (eo_name 4) (qe_ix (eo_name 0) (eo_name 3)))))
abbrev N_sent : List Str := ["channel", "some", "heard", "place", "word"]
abbrev P_sent : List Str := ["channel", "some", "heard"]
theorem sc_sent : FnScope N_sent P_sent (defScope s_sent) := ⟨rfl, rfl, rfl, by decide +kernel, rfl, by decide +kernel, by decide +kernel⟩
abbrev M_sent : Md := { bs := [], np := 3, tn := tn }
theorem ok_sent {P : Program} {w : World} {K : PySem.W.Frag} {mg : Str → Option Value} {base : Heap} {a : Ad} (T : Tx K mg a) (B : GBase K mg base tn) : FnOk P w K mg base CX0 3 a.sent.1 a.sent.2 P_sent (spq K tn [false, false, false] PF.f_sent) := by
  have G_may_be_heard := ok_may_be_heard (P := P) (w := w) T B
  have key := fn_q (P := P) (w := w) (mg := mg) (base := base) (k := 2) (M := M_sent) (bp := [false, false, false]) (body := PF.b_sent) T.sent.F T.sent.n sc_sent (by rfl) (by rfl)
  refine key ?_
  clear key
  intro cdv A outer s H E hcc hr
  conv => arg 3; whnf
  conv => arg 4; delta PF.b_sent
  exact qss_one (qs_ret (qe_callT cq_tuple T.z_tuple (ao_cons (qe_lc [("place", 3), ("word", 4)] sc_sent.nd (qi_enum T.z_enumerate (ao_cons (eo_name 1) (ao_nil))) (show BlkOk N_sent (defScope s_sent) _ _ from ⟨rfl, by decide +kernel, by decide +kernel, by decide +kernel, by decide +kernel⟩) (fun _ _ _ _ _ => qj_tup (qjs_cons (qj_name 3 sc_sent.nd) (qjs_cons (qj_name 4 sc_sent.nd) (qjs_nil)))) (fun _ _ _ _ _ => qts_one (to_tru (qe_call G_may_be_heard ((hr).mono (by first | decide | omega)) T.may_be_heard.m T.may_be_heard.F.kp T.may_be_heard.b (ao_cons (eo_name 0) (ao_cons (eo_name 4) (ao_cons (eo_name 2) (ao_nil))))))) (fun _ _ _ _ _ => eo_name 3)) (ao_nil)) (hv := bb_tuple)))
abbrev N_told : List Str := ["channel", "some", "heard", "places"]
abbrev P_told : List Str := ["channel", "some", "heard"]
theorem sc_told : FnScope N_told P_told (defScope s_told) := ⟨rfl, rfl, rfl, by decide +kernel, rfl, by decide +kernel, by decide +kernel⟩
abbrev M_told : Md := { bs := [], np := 3, tn := tn }
theorem ok_told {P : Program} {w : World} {K : PySem.W.Frag} {mg : Str → Option Value} {base : Heap} {a : Ad} (T : Tx K mg a) (B : GBase K mg base tn) : FnOk P w K mg base (CXR P w a.x_NoSign) 4 a.told.1 a.told.2 P_told (spqx K tn 3 PF.f_told) := by
  have G_sent := ok_sent (P := P) (w := w) T B
  have key := fn_qx (P := P) (w := w) (mg := mg) (base := base) (C := a.x_NoSign) (k := 3) (M := M_told) (body := PF.b_told) T.told.F T.told.n sc_told (by decide)
  refine key ?_
  clear key
  intro cdv A outer s H E hcc hr
  conv => arg 4; whnf
  conv => arg 5; delta PF.b_told
  exact qxs_cons (qs_set 3 sc_told.nd (qe_call G_sent ((hr).mono (by first | decide | omega)) T.sent.m T.sent.F.kp T.sent.b (ao_cons (eo_name 0) (ao_cons (eo_name 1) (ao_cons (eo_name 2) (ao_nil))))))
    (qxs_if raiseOk_of T.x_NoSign rfl rfl (to_cmp (oq_ne (hr).units) (qe_callB cq_len T.z_len (ao_cons (eo_name 3) (ao_nil)) (hv := bb_len)) (eo_int)) (qe_jn (qfs_val (qe_callB cq_len T.z_len (ao_cons (eo_name 3) (ao_nil)) (hv := bb_len)) (qfs_str (qfs_nil))))
    (qxs_end (qss_one (qs_ret (qe_ix (eo_name 1) (qe_ix (eo_name 3) (eo_int)))))))
abbrev N_figure : List Str := ["text"]
abbrev P_figure : List Str := ["text"]
theorem sc_figure : FnScope N_figure P_figure (defScope s_figure) := ⟨rfl, rfl, rfl, by decide +kernel, rfl, by decide +kernel, by decide +kernel⟩
abbrev M_figure : Md := { bs := [], np := 1, tn := tn }
theorem ok_figure {P : Program} {w : World} {K : PySem.W.Frag} {mg : Str → Option Value} {base : Heap} {a : Ad} (T : Tx K mg a) (B : GBase K mg base tn) : FnOk P w K mg base CX0 1 a.figure.1 a.figure.2 P_figure (spq K tn [false] PF.f_figure) := by
  obtain ⟨_, g_FIGURES⟩ := T.g_FIGURES
  have key := fn_q (P := P) (w := w) (mg := mg) (base := base) (k := 0) (M := M_figure) (bp := [false]) (body := PF.b_figure) T.figure.F T.figure.n sc_figure (by rfl) (by rfl)
  refine key ?_
  clear key
  intro cdv A outer s H E hcc hr
  conv => arg 3; whnf
  conv => arg 4; delta PF.b_figure
  exact qss_cons (qs_if (QW.to (wo_or (to_cmp (oq_ne (hr).units) (qe_callB (cq_or cq_len cq_lenS) T.z_len (ao_cons (eo_name 0) (ao_nil)) (hv := bb_len)) (eo_int)) (wo_or1 (to_cmp (oq_or (oq_notIn (hr).units) oq_notInS) (eo_name 0) (eo_globS (by rfl) g_FIGURES))))) (qss_one (qs_ret (eo_non))) (qss_nil))
    (qss_one (qs_ret (qe_indexS (eo_globS (by rfl) g_FIGURES) (eo_name 0))))
abbrev N_read : List Str := ["text", "front", "colon", "rest", "parts", "table", "part", "sign"]
abbrev P_read : List Str := ["text"]
theorem sc_read : FnScope N_read P_read (defScope s_read) := ⟨rfl, rfl, rfl, by decide +kernel, rfl, by decide +kernel, by decide +kernel⟩
abbrev M_read : Md := { bs := [], np := 1, tn := tn }
theorem ok_read {P : Program} {w : World} {K : PySem.W.Frag} {mg : Str → Option Value} {base : Heap} {a : Ad} (T : Tx K mg a) (B : GBase K mg base tn) : FnOk P w K mg base (CXR P w a.x_NoText) 6 a.read.1 a.read.2 P_read (spqx K tn 1 PF.f_read) := by
  have G_figure := ok_figure (P := P) (w := w) T B
  have G_is_table := ok_is_table (P := P) (w := w) T B
  have key := fn_qx (P := P) (w := w) (mg := mg) (base := base) (C := a.x_NoText) (k := 5) (M := M_read) (body := PF.b_read) T.read.F T.read.n sc_read (by decide)
  refine key ?_
  clear key
  intro cdv A outer s H E hcc hr
  conv => arg 4; whnf
  conv => arg 5; delta PF.b_read
  exact qxs_cons (qs_asg (qe_partition (eo_name 0) (eo_str)) (qj_tup (qjs_cons (qj_name 1 sc_read.nd) (qjs_cons (qj_name 2 sc_read.nd) (qjs_cons (qj_name 3 sc_read.nd) (qjs_nil))))))
    (qxs_cons (qs_set 4 sc_read.nd (eo_if (to_truX (eo_name 3)) (qe_split (eo_name 3) (eo_str)) (qe_lst (ao_nil))))
    (qxs_cons (qs_set 5 sc_read.nd (qe_tup (ao_cons (qe_call G_figure ((hr).mono (by first | decide | omega)) T.figure.m T.figure.F.kp T.figure.b (ao_cons (eo_name 1) (ao_nil))) (ao_cons (qe_callT cq_tuple T.z_tuple (ao_cons (qe_lc [("part", 6)] sc_read.nd (qi_seqX (eo_name 4)) (show BlkOk N_read (defScope s_read) _ _ from ⟨rfl, by decide +kernel, by decide +kernel, by decide +kernel, by decide +kernel⟩) (fun _ _ _ _ _ => qj_name 6 sc_read.nd) (fun _ _ _ _ _ => qts_nil) (fun _ _ _ _ _ => qe_callT cq_tuple T.z_tuple (ao_cons (qe_lc [("sign", 7)] sc_read.nd (qi_seqX (eo_name 6)) (⟨rfl, of_decide_eq_true (by kernel_rfl), of_decide_eq_true (by kernel_rfl), of_decide_eq_true (by kernel_rfl), of_decide_eq_true (by kernel_rfl)⟩) (fun _ _ _ _ _ => qj_name 7 sc_read.nd) (fun _ _ _ _ _ => qts_nil) (fun _ _ _ _ _ => qe_call G_figure ((hr).mono (by first | decide | omega)) T.figure.m T.figure.F.kp T.figure.b (ao_cons (eo_name 7) (ao_nil)))) (ao_nil)) (hv := bb_tuple))) (ao_nil)) (hv := bb_tuple)) (ao_nil)))))
    (qxs_if raiseOk_of T.x_NoText rfl rfl (QW.to (wo_or (to_not (to_truX (eo_name 2))) (wo_or1 (to_not (to_truX (qe_call G_is_table ((hr).mono (by first | decide | omega)) T.is_table.m T.is_table.F.kp T.is_table.b (ao_cons (eo_name 5) (ao_nil)))))))) (eo_str)
    (qxs_end (qss_one (qs_ret (eo_name 5)))))))
abbrev N_law_draw : List Str := ["_law_script", "_law_town", "_law_many", "_law_k", "_law_cell", "_law_number"]
abbrev P_law_draw : List Str := ["_law_script", "_law_town", "_law_many"]
theorem sc_law_draw : FnScope N_law_draw P_law_draw (defScope s_law_draw) := ⟨rfl, rfl, rfl, by decide +kernel, rfl, by decide +kernel, by decide +kernel⟩
abbrev M_law_draw : Md := { bs := [1], np := 3, tn := tn }
theorem ok_law_draw {P : Program} {w : World} {K : PySem.W.Frag} {mg : Str → Option Value} {base : Heap} {a : Ad} (T : Tx K mg a) (B : GBase K mg base tn) : FnOk P w K mg base CX0 1 a.law_draw.1 a.law_draw.2 P_law_draw (spq K tn [false, true, false] PF.f_law_draw_k02) := by
  have key := fn_q (P := P) (w := w) (mg := mg) (base := base) (k := 0) (M := M_law_draw) (bp := [false, true, false]) (body := PF.b_law_draw_k02) T.law_draw.F T.law_draw.n sc_law_draw (by rfl) (by rfl)
  refine key ?_
  clear key
  intro cdv A outer s H E hcc hr
  conv => arg 3; whnf
  conv => arg 4; delta PF.b_law_draw_k02
  exact qss_cons (qs_app 1 (eo_int))
    (qss_cons (qs_set 3 sc_law_draw.nd (qe_lenB 1 (hm := T.z_len)))
    (qss_cons (qs_set 4 sc_law_draw.nd (eo_int))
    (qss_cons (qs_if (to_tru (eo_name 0)) (qss_one (qs_set 4 sc_law_draw.nd (qe_ix (eo_name 0) (eo_op oq_mod (eo_name 3) (qe_callB cq_len T.z_len (ao_cons (eo_name 0) (ao_nil)) (hv := bb_len)))))) (qss_nil))
    (qss_cons (qs_set 5 sc_law_draw.nd (eo_op oq_mod (eo_op oq_add (eo_name 4) (eo_op oq_mul (eo_int) (eo_name 3))) (eo_int)))
    (qss_cons (qs_set 5 sc_law_draw.nd (eo_op oq_mod (eo_op oq_mul (eo_op oq_mod (eo_op oq_mul (eo_name 5) (eo_name 5)) (eo_int)) (eo_int)) (eo_int)))
    (qss_one (qs_ret (eo_op oq_mod (eo_op oq_fdiv (eo_name 5) (eo_int)) (eo_name 2)))))))))
abbrev N_law_pick : List Str := ["_law_script", "_law_town", "_law_some"]
abbrev P_law_pick : List Str := ["_law_script", "_law_town", "_law_some"]
theorem sc_law_pick : FnScope N_law_pick P_law_pick (defScope s_law_pick) := ⟨rfl, rfl, rfl, by decide +kernel, rfl, by decide +kernel, by decide +kernel⟩
abbrev M_law_pick : Md := { bs := [1], np := 3, tn := tn }
theorem ok_law_pick {P : Program} {w : World} {K : PySem.W.Frag} {mg : Str → Option Value} {base : Heap} {a : Ad} (T : Tx K mg a) (B : GBase K mg base tn) : FnOk P w K mg base CX0 2 a.law_pick.1 a.law_pick.2 P_law_pick (spq K tn [false, true, false] PF.f_law_pick_k02) := by
  have G_law_draw := ok_law_draw (P := P) (w := w) T B
  have key := fn_q (P := P) (w := w) (mg := mg) (base := base) (k := 1) (M := M_law_pick) (bp := [false, true, false]) (body := PF.b_law_pick_k02) T.law_pick.F T.law_pick.n sc_law_pick (by rfl) (by rfl)
  refine key ?_
  clear key
  intro cdv A outer s H E hcc hr
  conv => arg 3; whnf
  conv => arg 4; delta PF.b_law_pick_k02
  exact qss_one (qs_ret (qe_ix (eo_name 2) (qe_call G_law_draw ((hr).mono (by first | decide | omega)) T.law_draw.m T.law_draw.F.kp T.law_draw.b (ao_cons (eo_name 0) (qa_box 1 (ao_cons (qe_callB cq_len T.z_len (ao_cons (eo_name 2) (ao_nil)) (hv := bb_len)) (ao_nil)))))))
abbrev N_law_names : List Str := ["_law_e", "_law_names_here"]
abbrev P_law_names : List Str := ["_law_e"]
theorem sc_law_names : FnScope N_law_names P_law_names (defScope s_law_names) := ⟨rfl, rfl, rfl, by decide +kernel, rfl, by decide +kernel, by decide +kernel⟩
abbrev M_law_names : Md := { bs := [0], np := 1, tn := tn }
theorem ok_law_names {P : Program} {w : World} {K : PySem.W.Frag} {mg : Str → Option Value} {base : Heap} {a : Ad} (T : Tx K mg a) (B : GBase K mg base tn) : FnOkM P w K mg base CX0 1 a.law_names.1 a.law_names.2 P_law_names (spq K tn [true] PF.f_law_names_k15) := by
  have key := fn_qM (P := P) (w := w) (mg := mg) (base := base) (k := 0) (M := M_law_names) (bp := [true]) (body := PF.b_law_names_k15) T.law_names.F T.law_names.n sc_law_names (by rfl) (by rfl)
  refine key ?_
  clear key
  intro cdv A outer s H E hcc hr
  conv => arg 3; whnf
  conv => arg 4; delta PF.b_law_names_k15
  exact qss_cons (qs_set 1 sc_law_names.nd (eo_op oq_add ((qf_rep (qf_lst (ao_cons (eo_str) (ao_nil))) (qe_callT cq_int T.z_int (ao_cons (qe_isEO T.x_NoSign (IsL.cons T.x_NoSign T.xk_NoSign T.xi_NoSign_NoSign IsL.nil) (IsL.cons T.x_NoText T.xk_NoText T.xi_NoText_NoSign IsL.nil) T.z_isinstance) (ao_nil)) (hv := bb_int))).frz repF_list) ((qf_rep (qf_lst (ao_cons (eo_str) (ao_nil))) (qe_callT cq_int T.z_int (ao_cons (qe_isEO T.x_NoText (IsL.cons T.x_NoText T.xk_NoText T.xi_NoText_NoText IsL.nil) (IsL.cons T.x_NoSign T.xk_NoSign T.xi_NoSign_NoText IsL.nil) T.z_isinstance) (ao_nil)) (hv := bb_int))).frz repF_list)))
    (qss_cons (qs_if (to_not (to_tru (qe_isET "ValueError" (IsL.cons T.x_NoSign T.xk_NoSign T.xi_NoSign_ValueError (IsL.cons T.x_NoText T.xk_NoText T.xi_NoText_ValueError IsL.nil)) IsL.nil T.z_isinstance T.z_ValueError))) (qss_one (qs_ret (qe_lst (ao_cons (eo_str) (ao_nil))))) (qss_nil))
    (qss_one (qs_ret (eo_name 1))))
abbrev N_law_ask : List Str := ["_law_k", "_law_letter", "_law_text", "_law_names_here", "_law_channel", "_law_e"]
abbrev P_law_ask : List Str := ["_law_k", "_law_letter", "_law_text"]
theorem sc_law_ask : FnScope N_law_ask P_law_ask (defScope s_law_ask) := ⟨rfl, rfl, rfl, by decide +kernel, rfl, by decide +kernel, by decide +kernel⟩
abbrev M_law_ask : Md := { bs := [5], np := 3, tn := tn }
theorem ok_law_ask {P : Program} {w : World} {K : PySem.W.Frag} {mg : Str → Option Value} {base : Heap} {a : Ad} (T : Tx K mg a) (B : GBase K mg base tn) : FnOk P w K mg base CX0 7 a.law_ask.1 a.law_ask.2 P_law_ask (spq K tn [false, false, false] PF.f_law_ask_k15) := by
  have G_law_names := ok_law_names (P := P) (w := w) T B
  have G_read := ok_read (P := P) (w := w) T B
  have G_told := ok_told (P := P) (w := w) T B
  have key := fn_q (P := P) (w := w) (mg := mg) (base := base) (k := 6) (M := M_law_ask) (bp := [false, false, false]) (body := PF.b_law_ask_k15) T.law_ask.F T.law_ask.n sc_law_ask (by rfl) (by rfl)
  refine key ?_
  clear key
  intro cdv A outer s H E hcc hr
  conv => arg 3; whnf
  conv => arg 4; delta PF.b_law_ask_k15
  exact qss_cons (qs_set 3 sc_law_ask.nd (qe_lst (ao_nil)))
    (qss_cons (qs_set 4 sc_law_ask.nd (qe_tup (ao_cons (qe_tup (ao_cons (eo_int) (ao_cons (eo_int) (ao_nil)))) (ao_cons (qe_tup (ao_cons (eo_int) (ao_cons (eo_int) (ao_nil)))) (ao_cons (qe_tup (ao_cons (eo_int) (ao_nil))) (ao_nil))))))
    (qss_cons (qs_tryZ 5 _ T.x_MistakeError (BelowL.cons T.x_NoSign T.xm_NoSign_MistakeError (BelowL.cons T.x_NoText T.xm_NoText_MistakeError BelowL.nil)) sc_law_ask.nd (qz_if (fun _ _ => to_cmp (oq_eq (hr).units) (eo_name 0) (eo_int)) (qz_call T.x_NoSign G_told ((hr).mono (by first | decide | omega)) T.told.m T.told.F.kp T.told.b (fun _ _ => ao_cons (eo_name 4) (ao_cons (qe_tup (ao_cons (qe_tup (ao_cons (eo_int) (ao_nil))) (ao_cons (qe_tup (ao_cons (eo_int) (ao_nil))) (ao_nil)))) (ao_cons (qe_tup (ao_cons (eo_int) (ao_nil))) (ao_nil))))) (qz_if (fun _ _ => to_cmp (oq_eq (hr).units) (eo_name 0) (eo_int)) (qz_call T.x_NoSign G_told ((hr).mono (by first | decide | omega)) T.told.m T.told.F.kp T.told.b (fun _ _ => ao_cons (eo_name 4) (ao_cons (qe_tup (ao_cons (qe_tup (ao_cons (eo_int) (ao_nil))) (ao_cons (qe_tup (ao_cons (eo_int) (ao_nil))) (ao_nil)))) (ao_cons (qe_tup (ao_cons (eo_name 1) (ao_nil))) (ao_nil))))) (qz_if (fun _ _ => to_cmp (oq_eq (hr).units) (eo_name 0) (eo_int)) (qz_call T.x_NoSign G_told ((hr).mono (by first | decide | omega)) T.told.m T.told.F.kp T.told.b (fun _ _ => ao_cons (eo_name 4) (ao_cons (qe_tup (ao_nil)) (ao_cons (qe_tup (ao_cons (eo_name 1) (ao_nil))) (ao_nil))))) (qz_call T.x_NoText G_read ((hr).mono (by first | decide | omega)) T.read.m T.read.F.kp T.read.b (fun _ _ => ao_cons (eo_name 2) (ao_nil)))))) (fun _ => qss_one (qs_set 3 sc_law_ask.nd (qe_callM G_law_names (((hr).mono (by first | decide | omega)).m) T.law_names.m T.law_names.F.kp T.law_names.b (qa_box 5 (ao_nil))))))
    (qss_one (qs_ret (eo_name 3)))))
abbrev N_law : List Str := ["_law_script", "_law_town", "_law_k", "_law_letter", "_law_text", "_law_j"]
abbrev P_law : List Str := ["_law_script"]
theorem sc_law : FnScope N_law P_law (defScope s_law) := ⟨rfl, rfl, rfl, by decide +kernel, rfl, by decide +kernel, by decide +kernel⟩
abbrev M_law : Md := { bs := [1], np := 1, tn := tn }
theorem ok_law {P : Program} {w : World} {K : PySem.W.Frag} {mg : Str → Option Value} {base : Heap} {a : Ad} (T : Tx K mg a) (B : GBase K mg base tn) : FnOk P w K mg base CX0 8 a.law.1 a.law.2 P_law (spq K tn [false] PF.f_law_k15) := by
  have G_law_ask := ok_law_ask (P := P) (w := w) T B
  have G_law_pick := ok_law_pick (P := P) (w := w) T B
  have key := fn_q (P := P) (w := w) (mg := mg) (base := base) (k := 7) (M := M_law) (bp := [false]) (body := PF.b_law_k15) T.law.F T.law.n sc_law (by rfl) (by rfl)
  refine key ?_
  clear key
  intro cdv A outer s H E hcc hr
  conv => arg 3; whnf
  conv => arg 4; delta PF.b_law_k15
  conv => arg 4; delta PF.p_law_k15_1
  exact qss_cons (qs_setB 1 sc_law.nd (qf_lst (ao_nil)))
    (qss_cons (qs_for (qi_range1 T.z_range (ao_cons (eo_int) (ao_nil))) (qj_name 2 sc_law.nd) (qss_cons (qs_set 3 sc_law.nd (qe_call G_law_pick ((hr).mono (by first | decide | omega)) T.law_pick.m T.law_pick.F.kp T.law_pick.b (ao_cons (eo_name 0) (qa_box 1 (ao_cons (qe_lst (ao_cons (eo_int) (ao_cons (eo_int) (ao_cons (eo_int) (ao_nil))))) (ao_nil))))))
    (qss_cons (qs_set 4 sc_law.nd (qe_call G_law_pick ((hr).mono (by first | decide | omega)) T.law_pick.m T.law_pick.F.kp T.law_pick.b (ao_cons (eo_name 0) (qa_box 1 (ao_cons (qe_lst (ao_cons (eo_str) (ao_cons (eo_str) (ao_cons (eo_str) (ao_cons (eo_str) (ao_cons (eo_str) (ao_cons (eo_str) (ao_cons (eo_str) (ao_nil))))))))) (ao_nil))))))
    (qss_one (qs_if (to_cmp (oq_ne (hr).units) (qe_lc [("_law_j", 5)] sc_law.nd (qi_range1 T.z_range (ao_cons (eo_int) (ao_nil))) (show BlkOk N_law (defScope s_law) _ _ from ⟨rfl, by decide +kernel, by decide +kernel, by decide +kernel, by decide +kernel⟩) (fun _ _ _ _ _ => qj_name 5 sc_law.nd) (fun _ _ _ _ _ => qts_nil) (fun _ _ _ _ _ => qe_call G_law_ask ((hr).mono (by first | decide | omega)) T.law_ask.m T.law_ask.F.kp T.law_ask.b (ao_cons (eo_name 5) (ao_cons (eo_name 3) (ao_cons (eo_name 4) (ao_nil)))))) (eo_op oq_add ((qf_rep (qf_lst (ao_cons (qe_lst (ao_cons (eo_str) (ao_nil))) (ao_nil))) (eo_int)).frz repF_list) (qe_lst (ao_cons (qe_lst (ao_cons (eo_str) (ao_nil))) (ao_nil))))) (qss_one (qs_ret (eo_bl))) (qss_nil))))))
    (qss_one (qs_ret (eo_bl))))
theorem all_mk {l : PySem.W.OpenLaw} {w : World} {K : PySem.W.Frag} {h : Heap} {mg : Str → Option Value} {fa f0 f1 f2 f3 f4 f5 f6 f7 f8 f9 f10 f11 f12 f13 f14 : Addr} (X : K.In h) (G : h.Ns mainGlobals mg) (hfa : mg "law" = some (.ref fa))
    {od0 an0 od1 an1 od2 an2 od3 an3 od4 an4 od5 an5 od6 an6 od7 an7 od8 an8 od9 an9 od10 an10 od11 an11 od12 an12 od13 an13 od14 an14 : Option Addr} {sl0 sl1 sl2 sl3 sl4 sl5 sl6 sl7 sl8 sl9 sl10 sl11 sl12 sl13 sl14 : Array (Option Value)} {oc0 kV0 dc0 pm0 cd0 ct0 oc1 kV1 dc1 pm1 cd1 ct1 oc2 kV2 dc2 pm2 cd2 ct2 oc3 kV3 dc3 pm3 cd3 ct3 oc4 kV4 dc4 pm4 cd4 ct4 oc5 kV5 dc5 pm5 cd5 ct5 oc6 kV6 dc6 pm6 cd6 ct6 oc7 kV7 dc7 pm7 cd7 ct7 oc8 kV8 dc8 pm8 cd8 ct8 oc9 kV9 dc9 pm9 cd9 ct9 oc10 kV10 dc10 pm10 cd10 ct10 oc11 kV11 dc11 pm11 cd11 ct11 oc12 kV12 dc12 pm12 cd12 ct12 oc13 kV13 dc13 pm13 cd13 ct13 oc14 kV14 dc14 pm14 cd14 ct14 : Value} {C_MistakeError C_NoSign C_NoText : Addr} {tk_MOST_SIGNS tk_FIGURES : Tok}
    (a0 : PySem.W.nsIn K mainGlobals "is_whole" = some (some (.ref f0))) (l0 : K.lookup f0 = some ⟨oc0, od0, .func (PySem.W.fnOf "is_whole" "is_whole" (defArgs s_is_whole) (defBody s_is_whole) (defScope s_is_whole) .none kV0 dc0 pm0 an0 cd0 ct0), sl0⟩) (c0 : PySem.W.codeIn K cd0 "is_whole" = true) (k0 : PySem.W.keepIn K (.ref f0) = true)
    (a1 : PySem.W.nsIn K mainGlobals "is_sign" = some (some (.ref f1))) (l1 : K.lookup f1 = some ⟨oc1, od1, .func (PySem.W.fnOf "is_sign" "is_sign" (defArgs s_is_sign) (defBody s_is_sign) (defScope s_is_sign) .none kV1 dc1 pm1 an1 cd1 ct1), sl1⟩) (c1 : PySem.W.codeIn K cd1 "is_sign" = true) (k1 : PySem.W.keepIn K (.ref f1) = true)
    (a2 : PySem.W.nsIn K mainGlobals "is_pair" = some (some (.ref f2))) (l2 : K.lookup f2 = some ⟨oc2, od2, .func (PySem.W.fnOf "is_pair" "is_pair" (defArgs s_is_pair) (defBody s_is_pair) (defScope s_is_pair) .none kV2 dc2 pm2 an2 cd2 ct2), sl2⟩) (c2 : PySem.W.codeIn K cd2 "is_pair" = true) (k2 : PySem.W.keepIn K (.ref f2) = true)
    (a3 : PySem.W.nsIn K mainGlobals "rises" = some (some (.ref f3))) (l3 : K.lookup f3 = some ⟨oc3, od3, .func (PySem.W.fnOf "rises" "rises" (defArgs s_rises) (defBody s_rises) (defScope s_rises) .none kV3 dc3 pm3 an3 cd3 ct3), sl3⟩) (c3 : PySem.W.codeIn K cd3 "rises" = true) (k3 : PySem.W.keepIn K (.ref f3) = true)
    (a4 : PySem.W.nsIn K mainGlobals "is_table" = some (some (.ref f4))) (l4 : K.lookup f4 = some ⟨oc4, od4, .func (PySem.W.fnOf "is_table" "is_table" (defArgs s_is_table) (defBody s_is_table) (defScope s_is_table) .none kV4 dc4 pm4 an4 cd4 ct4), sl4⟩) (c4 : PySem.W.codeIn K cd4 "is_table" = true) (k4 : PySem.W.keepIn K (.ref f4) = true)
    (a5 : PySem.W.nsIn K mainGlobals "may_be_heard" = some (some (.ref f5))) (l5 : K.lookup f5 = some ⟨oc5, od5, .func (PySem.W.fnOf "may_be_heard" "may_be_heard" (defArgs s_may_be_heard) (defBody s_may_be_heard) (defScope s_may_be_heard) .none kV5 dc5 pm5 an5 cd5 ct5), sl5⟩) (c5 : PySem.W.codeIn K cd5 "may_be_heard" = true) (k5 : PySem.W.keepIn K (.ref f5) = true)
    (a6 : PySem.W.nsIn K mainGlobals "sent" = some (some (.ref f6))) (l6 : K.lookup f6 = some ⟨oc6, od6, .func (PySem.W.fnOf "sent" "sent" (defArgs s_sent) (defBody s_sent) (defScope s_sent) .none kV6 dc6 pm6 an6 cd6 ct6), sl6⟩) (c6 : PySem.W.codeIn K cd6 "sent" = true) (k6 : PySem.W.keepIn K (.ref f6) = true)
    (a7 : PySem.W.nsIn K mainGlobals "told" = some (some (.ref f7))) (l7 : K.lookup f7 = some ⟨oc7, od7, .func (PySem.W.fnOf "told" "told" (defArgs s_told) (defBody s_told) (defScope s_told) .none kV7 dc7 pm7 an7 cd7 ct7), sl7⟩) (c7 : PySem.W.codeIn K cd7 "told" = true) (k7 : PySem.W.keepIn K (.ref f7) = true)
    (a8 : PySem.W.nsIn K mainGlobals "figure" = some (some (.ref f8))) (l8 : K.lookup f8 = some ⟨oc8, od8, .func (PySem.W.fnOf "figure" "figure" (defArgs s_figure) (defBody s_figure) (defScope s_figure) .none kV8 dc8 pm8 an8 cd8 ct8), sl8⟩) (c8 : PySem.W.codeIn K cd8 "figure" = true) (k8 : PySem.W.keepIn K (.ref f8) = true)
    (a9 : PySem.W.nsIn K mainGlobals "read" = some (some (.ref f9))) (l9 : K.lookup f9 = some ⟨oc9, od9, .func (PySem.W.fnOf "read" "read" (defArgs s_read) (defBody s_read) (defScope s_read) .none kV9 dc9 pm9 an9 cd9 ct9), sl9⟩) (c9 : PySem.W.codeIn K cd9 "read" = true) (k9 : PySem.W.keepIn K (.ref f9) = true)
    (a10 : PySem.W.nsIn K mainGlobals "_law_draw" = some (some (.ref f10))) (l10 : K.lookup f10 = some ⟨oc10, od10, .func (PySem.W.fnOf "_law_draw" "_law_draw" (defArgs s_law_draw) (defBody s_law_draw) (defScope s_law_draw) .none kV10 dc10 pm10 an10 cd10 ct10), sl10⟩) (c10 : PySem.W.codeIn K cd10 "_law_draw" = true) (k10 : PySem.W.keepIn K (.ref f10) = true)
    (a11 : PySem.W.nsIn K mainGlobals "_law_pick" = some (some (.ref f11))) (l11 : K.lookup f11 = some ⟨oc11, od11, .func (PySem.W.fnOf "_law_pick" "_law_pick" (defArgs s_law_pick) (defBody s_law_pick) (defScope s_law_pick) .none kV11 dc11 pm11 an11 cd11 ct11), sl11⟩) (c11 : PySem.W.codeIn K cd11 "_law_pick" = true) (k11 : PySem.W.keepIn K (.ref f11) = true)
    (a12 : PySem.W.nsIn K mainGlobals "_law_names" = some (some (.ref f12))) (l12 : K.lookup f12 = some ⟨oc12, od12, .func (PySem.W.fnOf "_law_names" "_law_names" (defArgs s_law_names) (defBody s_law_names) (defScope s_law_names) .none kV12 dc12 pm12 an12 cd12 ct12), sl12⟩) (c12 : PySem.W.codeIn K cd12 "_law_names" = true) (k12 : PySem.W.keepIn K (.ref f12) = true)
    (a13 : PySem.W.nsIn K mainGlobals "_law_ask" = some (some (.ref f13))) (l13 : K.lookup f13 = some ⟨oc13, od13, .func (PySem.W.fnOf "_law_ask" "_law_ask" (defArgs s_law_ask) (defBody s_law_ask) (defScope s_law_ask) .none kV13 dc13 pm13 an13 cd13 ct13), sl13⟩) (c13 : PySem.W.codeIn K cd13 "_law_ask" = true) (k13 : PySem.W.keepIn K (.ref f13) = true)
    (a14 : PySem.W.nsIn K mainGlobals "law" = some (some (.ref f14))) (l14 : K.lookup f14 = some ⟨oc14, od14, .func (PySem.W.fnOf "law" "law" (defArgs s_law) (defBody s_law) (defScope s_law) .none kV14 dc14 pm14 an14 cd14 ct14), sl14⟩) (c14 : PySem.W.codeIn K cd14 "law" = true) (k14 : PySem.W.keepIn K (.ref f14) = true)
    (z_ValueError : PySem.W.nsIn K mainGlobals "ValueError" = some none)
    (z_all : PySem.W.nsIn K mainGlobals "all" = some none)
    (z_bool : PySem.W.nsIn K mainGlobals "bool" = some none)
    (z_enumerate : PySem.W.nsIn K mainGlobals "enumerate" = some none)
    (z_int : PySem.W.nsIn K mainGlobals "int" = some none)
    (z_isinstance : PySem.W.nsIn K mainGlobals "isinstance" = some none)
    (z_len : PySem.W.nsIn K mainGlobals "len" = some none)
    (z_range : PySem.W.nsIn K mainGlobals "range" = some none)
    (z_tuple : PySem.W.nsIn K mainGlobals "tuple" = some none)
    (z_zip : PySem.W.nsIn K mainGlobals "zip" = some none)
    (g_MOST_SIGNS : PySem.W.nsIn K mainGlobals "MOST_SIGNS" = some (some (.int 6 tk_MOST_SIGNS)))
    (g_FIGURES : PySem.W.nsIn K mainGlobals "FIGURES" = some (some (.str "0123456789" tk_FIGURES)))
    (e_MistakeError : PySem.W.nsIn K mainGlobals "MistakeError" = some (some (.ref C_MistakeError))) (q_MistakeError : PySem.W.excIn K C_MistakeError [.type "ValueError", .type "Exception", .type "BaseException", .type "object"] "ValueError.__new__" = true)
    (e_NoSign : PySem.W.nsIn K mainGlobals "NoSign" = some (some (.ref C_NoSign))) (q_NoSign : PySem.W.excIn K C_NoSign [.type "ValueError", .type "Exception", .type "BaseException", .type "object"] "ValueError.__new__" = true)
    (e_NoText : PySem.W.nsIn K mainGlobals "NoText" = some (some (.ref C_NoText))) (q_NoText : PySem.W.excIn K C_NoText [.type "ValueError", .type "Exception", .type "BaseException", .type "object"] "ValueError.__new__" = true)
    (t_rises : (PySem.W.tabIn K "rises").isSome = true)
    (t_is_table : (PySem.W.tabIn K "is_table").isSome = true)
    (t_may_be_heard : (PySem.W.tabIn K "may_be_heard").isSome = true)
    (xi_NoSign_NoSign : PySem.W.kitOne K (.ref C_NoSign) (.ref C_NoSign) = some true)
    (xi_NoSign_NoText : PySem.W.kitOne K (.ref C_NoSign) (.ref C_NoText) = some false)
    (xi_NoSign_ValueError : PySem.W.kitOne K (.ref C_NoSign) (.type "ValueError") = some true)
    (xi_NoText_NoSign : PySem.W.kitOne K (.ref C_NoText) (.ref C_NoSign) = some false)
    (xi_NoText_NoText : PySem.W.kitOne K (.ref C_NoText) (.ref C_NoText) = some true)
    (xi_NoText_ValueError : PySem.W.kitOne K (.ref C_NoText) (.type "ValueError") = some true)
    (xk_NoSign : excKb K C_NoSign = true)
    (xk_NoText : excKb K C_NoText = true)
    (xm_NoSign_MistakeError : PySem.W.exmOne K (.ref C_NoSign) (.ref C_MistakeError) = some true)
    (xm_NoText_MistakeError : PySem.W.exmOne K (.ref C_NoText) (.ref C_MistakeError) = some true) :
    ∃ fd : FuncData, (∀ (s : Shared) (v : Value), BindsTo s fd ⟨[v], []⟩ [("_law_script", v)]) ∧ ∀ base : Heap, K.In base → base.Ns mainGlobals mg → GBase K mg base tn → FnOk l.prog w K mg base CX0 8 fa fd ["_law_script"] (spq K tn [false] PF.f_law_k15) := by
  have e := hfa.symm.trans (PySem.W.mg_of X G a14)
  cases e
  have F0 := fun_mk (st := s_is_whole) l0 c0 k0
  have F1 := fun_mk (st := s_is_sign) l1 c1 k1
  have F2 := fun_mk (st := s_is_pair) l2 c2 k2
  have F3 := fun_mk (st := s_rises) l3 c3 k3
  have F4 := fun_mk (st := s_is_table) l4 c4 k4
  have F5 := fun_mk (st := s_may_be_heard) l5 c5 k5
  have F6 := fun_mk (st := s_sent) l6 c6 k6
  have F7 := fun_mk (st := s_told) l7 c7 k7
  have F8 := fun_mk (st := s_figure) l8 c8 k8
  have F9 := fun_mk (st := s_read) l9 c9 k9
  have F10 := fun_mk (st := s_law_draw) l10 c10 k10
  have F11 := fun_mk (st := s_law_pick) l11 c11 k11
  have F12 := fun_mk (st := s_law_names) l12 c12 k12
  have F13 := fun_mk (st := s_law_ask) l13 c13 k13
  have F14 := fun_mk (st := s_law) l14 c14 k14
  have b0 := F0.binds (ps := ["thing"]) fun _ _ _ _ _ _ us hl => match us, hl with | [_], _ => rfl
  have b1 := F1.binds (ps := ["thing", "many"]) fun _ _ _ _ _ _ us hl => match us, hl with | [_, _], _ => rfl
  have b2 := F2.binds (ps := ["thing", "many"]) fun _ _ _ _ _ _ us hl => match us, hl with | [_, _], _ => rfl
  have b3 := F3.binds (ps := ["row"]) fun _ _ _ _ _ _ us hl => match us, hl with | [_], _ => rfl
  have b4 := F4.binds (ps := ["thing"]) fun _ _ _ _ _ _ us hl => match us, hl with | [_], _ => rfl
  have b5 := F5.binds (ps := ["channel", "word", "heard"]) fun _ _ _ _ _ _ us hl => match us, hl with | [_, _, _], _ => rfl
  have b6 := F6.binds (ps := ["channel", "some", "heard"]) fun _ _ _ _ _ _ us hl => match us, hl with | [_, _, _], _ => rfl
  have b7 := F7.binds (ps := ["channel", "some", "heard"]) fun _ _ _ _ _ _ us hl => match us, hl with | [_, _, _], _ => rfl
  have b8 := F8.binds (ps := ["text"]) fun _ _ _ _ _ _ us hl => match us, hl with | [_], _ => rfl
  have b9 := F9.binds (ps := ["text"]) fun _ _ _ _ _ _ us hl => match us, hl with | [_], _ => rfl
  have b10 := F10.binds (ps := ["_law_script", "_law_town", "_law_many"]) fun _ _ _ _ _ _ us hl => match us, hl with | [_, _, _], _ => rfl
  have b11 := F11.binds (ps := ["_law_script", "_law_town", "_law_some"]) fun _ _ _ _ _ _ us hl => match us, hl with | [_, _, _], _ => rfl
  have b12 := F12.binds (ps := ["_law_e"]) fun _ _ _ _ _ _ us hl => match us, hl with | [_], _ => rfl
  have b13 := F13.binds (ps := ["_law_k", "_law_letter", "_law_text"]) fun _ _ _ _ _ _ us hl => match us, hl with | [_, _, _], _ => rfl
  have b14 := F14.binds (ps := ["_law_script"]) fun _ _ _ _ _ _ us hl => match us, hl with | [_], _ => rfl
  have T : Tx K mg ⟨(_, _), (_, _), (_, _), (_, _), (_, _), (_, _), (_, _), (_, _), (_, _), (_, _), (_, _), (_, _), (_, _), (_, _), (_, _), _, _, _⟩ := ⟨⟨F0, a0, PySem.W.mg_of X G a0, b0⟩, ⟨F1, a1, PySem.W.mg_of X G a1, b1⟩, ⟨F2, a2, PySem.W.mg_of X G a2, b2⟩, ⟨F3, a3, PySem.W.mg_of X G a3, b3⟩, ⟨F4, a4, PySem.W.mg_of X G a4, b4⟩, ⟨F5, a5, PySem.W.mg_of X G a5, b5⟩, ⟨F6, a6, PySem.W.mg_of X G a6, b6⟩, ⟨F7, a7, PySem.W.mg_of X G a7, b7⟩, ⟨F8, a8, PySem.W.mg_of X G a8, b8⟩, ⟨F9, a9, PySem.W.mg_of X G a9, b9⟩, ⟨F10, a10, PySem.W.mg_of X G a10, b10⟩, ⟨F11, a11, PySem.W.mg_of X G a11, b11⟩, ⟨F12, a12, PySem.W.mg_of X G a12, b12⟩, ⟨F13, a13, PySem.W.mg_of X G a13, b13⟩, ⟨F14, a14, PySem.W.mg_of X G a14, b14⟩, PySem.W.mg_none_of X G z_ValueError, PySem.W.mg_none_of X G z_all, PySem.W.mg_none_of X G z_bool, PySem.W.mg_none_of X G z_enumerate, PySem.W.mg_none_of X G z_int, PySem.W.mg_none_of X G z_isinstance, PySem.W.mg_none_of X G z_len, PySem.W.mg_none_of X G z_range, PySem.W.mg_none_of X G z_tuple, PySem.W.mg_none_of X G z_zip, ⟨e_MistakeError, q_MistakeError⟩, ⟨e_NoSign, q_NoSign⟩, ⟨e_NoText, q_NoText⟩, ⟨_, PySem.W.mg_of X G g_MOST_SIGNS⟩, ⟨_, PySem.W.mg_of X G g_FIGURES⟩, (let ⟨p, e⟩ := Option.isSome_iff_exists.mp t_rises; ⟨p.1, p.2, e⟩), (let ⟨p, e⟩ := Option.isSome_iff_exists.mp t_is_table; ⟨p.1, p.2, e⟩), (let ⟨p, e⟩ := Option.isSome_iff_exists.mp t_may_be_heard; ⟨p.1, p.2, e⟩), xi_NoSign_NoSign, xi_NoSign_NoText, xi_NoSign_ValueError, xi_NoText_NoSign, xi_NoText_NoText, xi_NoText_ValueError, xk_NoSign, xk_NoText, xm_NoSign_MistakeError, xm_NoText_MistakeError⟩
  exact ⟨_, fun s v => .of_eq rfl, fun base _ _ B => ok_law T B⟩
end G15
namespace G15
open PySem L2 PySem.Spec PyProof.Rows
theorem main (ns : List Int) (h : ns.length ≤ 63) : PF.f_law_k15 [.list (ns.map PyData.int)] = some (.bool true, []) := PT.main15 ns h
theorem walk {l : PySem.W.OpenLaw} {q : Program} {loose : List Str} {XP : (Str → Option Value) → Heap → Prop} {YP : World → Heap → Prop} {d : DefRec} {K : Params → PySem.W.Frag} (hn : l.most = some 63) (hdf : d.params.defaults = [])
    (hY : ∀ (w : World) (h : Heap), YP w h → (K w.params).In h) (hnt : ∀ w : World, PySem.W.noTabs (K w.params) = true) (hrc : (tn.all fun x => ((recsOf q).find? fun e => e.name == x).isSome) = true)
    (F : ∀ (w : World) (mg : Str → Option Value) (fa : Addr) (h : Heap), (K w.params).In h → h.Ns mainGlobals mg → mg d.name = some (.ref fa) → ∃ fd : FuncData, (∀ (s : Shared) (u : Value), BindsTo s fd ⟨[u], []⟩ [("_law_script", u)]) ∧ ∀ base : Heap, (K w.params).In base → base.Ns mainGlobals mg → GBase (K w.params) mg base tn → FnOk l.prog w (K w.params) mg base CX0 8 fa fd ["_law_script"] (spq (K w.params) tn [false] PF.f_law_k15)) :
    PySem.W.WalkO q loose XP YP l.row.toRowW d [] (fun f vs => PySem.call f vs) := walkT (k := 8) tn hn hdf ⟨rfl, by decide, by decide, rfl⟩ hY hnt hrc F main
end G15
open PySem PySem.W PyProof.Rows
set_option maxRecDepth 100000 in
set_option maxHeartbeats 0 in
theorem PySem.Challenge.cw_mistakesigns_k15_whole_refusals_holds : PySem.Challenge.rw_mistakesigns_k15_whole_refusals.Holds := by
  w_on; o_law; k_head; (case hw => w_witness2)
  k_fill
  refine' G15.walk (l := PySem.Challenge.rw_mistakesigns_k15_whole_refusals) rfl rfl (fun w h Y => PySem.W.kIn_of Y) ?hnt ?hrc ?hF
  case hnt => intro w; kernel_rfl
  case hrc => kernel_rfl
  case hF =>
    intro w mg fa h KX G hmg
    refine' G15.all_mk KX G hmg ?x_a0 ?x_l0 ?x_c0 ?x_k0 ?x_a1 ?x_l1 ?x_c1 ?x_k1 ?x_a2 ?x_l2 ?x_c2 ?x_k2 ?x_a3 ?x_l3 ?x_c3 ?x_k3 ?x_a4 ?x_l4 ?x_c4 ?x_k4 ?x_a5 ?x_l5 ?x_c5 ?x_k5 ?x_a6 ?x_l6 ?x_c6 ?x_k6 ?x_a7 ?x_l7 ?x_c7 ?x_k7 ?x_a8 ?x_l8 ?x_c8 ?x_k8 ?x_a9 ?x_l9 ?x_c9 ?x_k9 ?x_a10 ?x_l10 ?x_c10 ?x_k10 ?x_a11 ?x_l11 ?x_c11 ?x_k11 ?x_a12 ?x_l12 ?x_c12 ?x_k12 ?x_a13 ?x_l13 ?x_c13 ?x_k13 ?x_a14 ?x_l14 ?x_c14 ?x_k14 ?x_z_ValueError ?x_z_all ?x_z_bool ?x_z_enumerate ?x_z_int ?x_z_isinstance ?x_z_len ?x_z_range ?x_z_tuple ?x_z_zip ?x_g_MOST_SIGNS ?x_g_FIGURES ?x_e_MistakeError ?x_q_MistakeError ?x_e_NoSign ?x_q_NoSign ?x_e_NoText ?x_q_NoText ?x_t_rises ?x_t_is_table ?x_t_may_be_heard ?x_xi_NoSign_NoSign ?x_xi_NoSign_NoText ?x_xi_NoSign_ValueError ?x_xi_NoText_NoSign ?x_xi_NoText_NoText ?x_xi_NoText_ValueError ?x_xk_NoSign ?x_xk_NoText ?x_xm_NoSign_MistakeError ?x_xm_NoText_MistakeError
    (case x_a0 => k_is)
    (case x_l0 => k_is)
    (case x_c0 => k_is)
    (case x_k0 => k_is)
    (case x_a1 => k_is)
    (case x_l1 => k_is)
    (case x_c1 => k_is)
    (case x_k1 => k_is)
    (case x_a2 => k_is)
    (case x_l2 => k_is)
    (case x_c2 => k_is)
    (case x_k2 => k_is)
    (case x_a3 => k_is)
    (case x_l3 => k_is)
    (case x_c3 => k_is)
    (case x_k3 => k_is)
    (case x_a4 => k_is)
    (case x_l4 => k_is)
    (case x_c4 => k_is)
    (case x_k4 => k_is)
    (case x_a5 => k_is)
    (case x_l5 => k_is)
    (case x_c5 => k_is)
    (case x_k5 => k_is)
    (case x_a6 => k_is)
    (case x_l6 => k_is)
    (case x_c6 => k_is)
    (case x_k6 => k_is)
    (case x_a7 => k_is)
    (case x_l7 => k_is)
    (case x_c7 => k_is)
    (case x_k7 => k_is)
    (case x_a8 => k_is)
    (case x_l8 => k_is)
    (case x_c8 => k_is)
    (case x_k8 => k_is)
    (case x_a9 => k_is)
    (case x_l9 => k_is)
    (case x_c9 => k_is)
    (case x_k9 => k_is)
    (case x_a10 => k_is)
    (case x_l10 => k_is)
    (case x_c10 => k_is)
    (case x_k10 => k_is)
    (case x_a11 => k_is)
    (case x_l11 => k_is)
    (case x_c11 => k_is)
    (case x_k11 => k_is)
    (case x_a12 => k_is)
    (case x_l12 => k_is)
    (case x_c12 => k_is)
    (case x_k12 => k_is)
    (case x_a13 => k_is)
    (case x_l13 => k_is)
    (case x_c13 => k_is)
    (case x_k13 => k_is)
    (case x_a14 => k_is)
    (case x_l14 => k_is)
    (case x_c14 => k_is)
    (case x_k14 => k_is)
    (case x_z_ValueError => k_is)
    (case x_z_all => k_is)
    (case x_z_bool => k_is)
    (case x_z_enumerate => k_is)
    (case x_z_int => k_is)
    (case x_z_isinstance => k_is)
    (case x_z_len => k_is)
    (case x_z_range => k_is)
    (case x_z_tuple => k_is)
    (case x_z_zip => k_is)
    (case x_g_MOST_SIGNS => k_is)
    (case x_g_FIGURES => k_is)
    (case x_e_MistakeError => k_is)
    (case x_q_MistakeError => k_exc)
    (case x_e_NoSign => k_is)
    (case x_q_NoSign => k_exc)
    (case x_e_NoText => k_is)
    (case x_q_NoText => k_exc)
    (case x_t_rises => kernel_rfl)
    (case x_t_is_table => kernel_rfl)
    (case x_t_may_be_heard => kernel_rfl)
    (case x_xi_NoSign_NoSign => kernel_rfl)
    (case x_xi_NoSign_NoText => kernel_rfl)
    (case x_xi_NoSign_ValueError => kernel_rfl)
    (case x_xi_NoText_NoSign => kernel_rfl)
    (case x_xi_NoText_NoText => kernel_rfl)
    (case x_xi_NoText_ValueError => kernel_rfl)
    (case x_xk_NoSign => kernel_rfl)
    (case x_xk_NoText => kernel_rfl)
    (case x_xm_NoSign_MistakeError => kernel_rfl)
    (case x_xm_NoText_MistakeError => kernel_rfl)
