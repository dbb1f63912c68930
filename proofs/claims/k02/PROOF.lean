import PyProof.Rows.All
import Wide.All
import OpenK.AllK
import Wide.FinOn
import Lean
import PyProof.EqAt
import PyProof.EqKinds
import PyProof.TupleCall
import KE.KDictOf
import PyProof.AttrMiss
import PyProof.IsiH_list
import PySem.SetOps
import PySem.Challenge.RW_shopbound_k02_shops_asked
set_option Elab.async false
set_option linter.all false
set_option maxRecDepth 100000
theorem oBd {α : Type u} {β : Type v} {o : Option α} {f : α -> Option β} {b : β} (h : o.bind f = some b) : ∃ a, o = some a /\ f a = some b := Option.bind_eq_some_iff.mp h
theorem oMd {α : Type u} {β : Type v} {o : Option α} {f : α -> β} {b : β} (h : o.map f = some b) : ∃ a, o = some a /\ f a = b := Option.map_eq_some_iff.mp h
noncomputable section
section
namespace L2
open PySem PySem.Spec PyProof.Rows
abbrev zvK := Sum Int Str
def zkY : zvK -> Value -> Bool
 | .inl k, v => Value.isInt k v
 | .inr x, v => Value.isStrOf x v
def ztL (w : World) : zvK -> Int
 | .inl k => hashInt k
 | .inr x => hashStr w x
theorem zbq : ∀ {k : zvK} {v : Value}, zkY k v = true -> (∃ i t, k = Sum.inl i /\ v = Value.int i t) \/ (∃ x t, k = Sum.inr x /\ v = Value.str x t)
 | .inl i, v, h => by
  obtain ⟨t, e⟩ := Value.isInt_shape (k := i) (v := v) h
  exact .inl ⟨i, t, rfl, e⟩
 | .inr x, v, h => by
  obtain ⟨t, e⟩ := Value.isStrOf_shape (x := x) (v := v) h
  exact .inr ⟨x, t, rfl, e⟩
theorem zmb (i : Int) (t : Tok) : zkY (.inl i) (.int i t) = true := by simp [zkY, Value.isInt]
theorem zma (x : Str) (t : Tok) : zkY (.inr x) (.str x t) = true := by simp [zkY, Value.isStrOf]
theorem zrK (a b : Int) : decide ((Sum.inl a : zvK) = Sum.inl b) = (a == b) := by
 by_cases e : a = b
 ·subst e; simp
 ·have h : ¬ (Sum.inl a : zvK) = Sum.inl b := fun q => e (Sum.inl.inj q)
  rw [decide_eq_false h]
  exact (beq_eq_false_iff_ne.mpr e).symm
theorem zrH (a b : Str) : decide ((Sum.inr a : zvK) = Sum.inr b) = decide (a = b) := by
 by_cases e : a = b
 ·subst e; simp
 ·have h : ¬ (Sum.inr a : zvK) = Sum.inr b := fun q => e (Sum.inr.inj q)
  rw [decide_eq_false h, decide_eq_false e]
theorem zrJ (a : Int) (b : Str) : decide ((Sum.inl a : zvK) = Sum.inr b) = false := decide_eq_false (fun q => nomatch q)
theorem zrI (a : Str) (b : Int) : decide ((Sum.inr a : zvK) = Sum.inl b) = false := decide_eq_false (fun q => nomatch q)
def zaW (prog : Program) (w : World) : PySem.KeyKind prog w zvK where
 is := zkY
 hash := ztL w
 inj := fun v a b ha hb => by
  rcases zbq ha with ⟨i, t, rfl, rfl⟩ | ⟨x, t, rfl, rfl⟩
  ·rcases zbq hb with ⟨j, u, rfl, e⟩ | ⟨y, u, rfl, e⟩
   ·injection e with e1 _; rw [e1]
   ·exact nomatch e
  ·rcases zbq hb with ⟨j, u, rfl, e⟩ | ⟨y, u, rfl, e⟩
   ·exact nomatch e
   ·injection e with e1 _; rw [e1]
 byValue := fun k v h => by
  rcases zbq h with ⟨i, t, rfl, rfl⟩ | ⟨x, t, rfl, rfl⟩ <;> rfl
 pyHash := fun hv h => by
  rcases zbq hv with ⟨i, t, rfl, rfl⟩ | ⟨x, t, rfl, rfl⟩
  ·exact wpAny_pyHash_int h
  ·exact wpAny_pyHash_str h
 eqBool := fun hu hv h => by
  rcases zbq hu with ⟨i, t, rfl, rfl⟩ | ⟨x, t, rfl, rfl⟩
  ·rcases zbq hv with ⟨j, u, rfl, rfl⟩ | ⟨y, u, rfl, rfl⟩
   ·rw [zrK] at h; exact wpAny_eqBool_int h
   ·rw [zrJ] at h; exact SeqAt.EqAt.int_str i t y u _ _ _ _ h
  ·rcases zbq hv with ⟨j, u, rfl, rfl⟩ | ⟨y, u, rfl, rfl⟩
   ·rw [zrI] at h; exact SeqAt.EqAt.str_int x t j u _ _ _ _ h
   ·rw [zrH] at h; exact wpAny_eqBool_str h
 «strs» := fun k x t v h => by
  rcases zbq h with ⟨i, u, rfl, e⟩ | ⟨y, u, rfl, e⟩
  ·exact nomatch e
  ·injection e with e1 _
   subst e1
   cases v <;> rfl
theorem zjv (prog : Program) (w : World) (i : Int) (t : Tok) : (zaW prog w).is (.inl i) (.int i t) = true := zmb i t
theorem zju (prog : Program) (w : World) (x : Str) (t : Tok) : (zaW prog w).is (.inr x) (.str x t) = true := zma x t
end L2
namespace L2
open PySem PySem.Spec PyProof.Rows
inductive V where
 | non | bl (b : Bool) | int (i : Int) | str (x : Str) | byt (b : Array UInt8) | flt (b : UInt64) | ref (a : Addr) | ty (n : String)
 deriving DecidableEq
def zb6 : V -> Value -> Prop
 | .non, u => u = Value.none
 | .bl b, u => u = Value.bool b
 | .int i, u => ∃ t, u = Value.int i t
 | .str x, u => ∃ t, u = Value.str x t
 | .byt b, u => ∃ t, u = Value.bytes b t
 | .flt b, u => ∃ t, u = Value.float b t
 | .ref a, u => u = Value.ref a
 | .ty n, u => u = Value.type n
abbrev zcb : List V -> List Value -> Prop := Paired zb6
theorem zcb.length {xs : List V} {us : List Value} (r : zcb xs us) : xs.length = us.length := Paired.length r
theorem zcb.get : ∀ {xs : List V} {us : List Value} {i : Nat} {x : V}, zcb xs us -> xs[i]? = some x -> ∃ u, us[i]? = some u /\ zb6 x u
 | _, _, _, _, .nil, e => by simp at e
 | _, _, 0, _, .cons r _, e => by simp at e; subst e; exact ⟨_, rfl, r⟩
 | _, _, i + 1, x, .cons _ t, e => by
  obtain ⟨u, h1, h2⟩ := zcb.get (i := i) (x := x) t (by simpa using e)
  exact ⟨u, by simpa using h1, h2⟩
theorem zcb.append : ∀ {xs ys : List V} {us ws : List Value}, zcb xs us -> zcb ys ws -> zcb (xs ++ ys) (us ++ ws)
 | _, _, _, _, .nil, s => s
 | _, _, _, _, .cons r t, s => .cons r (zcb.append t s)
theorem zcb.take : ∀ {xs : List V} {us : List Value} (n : Nat), zcb xs us -> zcb (xs.take n) (us.take n)
 | _, _, 0, _ => .nil
 | _, _, _ + 1, .nil => .nil
 | _, _, n + 1, .cons r t => .cons r (zcb.take n t)
theorem zcb.drop : ∀ {xs : List V} {us : List Value} (n : Nat), zcb xs us -> zcb (xs.drop n) (us.drop n)
 | _, _, 0, r => r
 | _, _, _ + 1, .nil => .nil
 | _, _, n + 1, .cons _ t => zcb.drop n t
def zii : Option V -> Option Value -> Prop
 | some v, some u => zb6 v u
 | none, none => True
 | _, _ => False
def zwQ {κ : Type} : List (κ × V) -> List (κ × Value) -> Prop := Paired fun (p : κ × V) (q : κ × Value) => p.1 = q.1 /\ zb6 p.2 q.2
def zw7 : zvK -> V
 | .inl i => .int i
 | .inr x => .str x
inductive HO where
 | lst (xs : List V)
 | tup (xs : List V)
 | dK (kvs : List (zvK × V)) | dT (kvs : List (List zvK × V))
 | set (S : Int -> Bool) (n : Nat)
 | ins (C dx : Addr) (fs : List (Str × V))
 | own (x : Addr)
 | xd (fs : List (Str × V))
 | met (f x : Addr)
 | rng (lo hi : Int)
 | frz (o : Obj) (u : HO)
 | tbl (ps : Array Value)
 | ext (φ : Heap -> Prop)
abbrev zxg := Addr -> Option HO
def zt0 (H : zxg) (a : Addr) (o : HO) : zxg := fun b => if b = a then some o else H b
theorem zaB {H : zxg} {a : Addr} {o : HO} : zt0 H a o a = some o := by unfold zt0; rw [if_pos rfl]
theorem zaz {H : zxg} {a b : Addr} {o : HO} (h : b ≠ a) : zt0 H a o b = H b := by unfold zt0; rw [if_neg h]
theorem znE {H : zxg} {a b : Addr} {o u : HO} (h : H a = some o) (h' : H b = some u) (d : o ≠ u) : a ≠ b := by
 intro e; subst e; rw [h] at h'; exact d (Option.some.inj h')
theorem zaq {H : zxg} {a b : Addr} {o : HO} (h : H a = some o) (h' : H b = none) : a ≠ b := by
 intro e; subst e; rw [h] at h'; cases h'
section
variable (P : Program) (w : World)
def zcF (H : zxg) (h : Heap) (a : Addr) : HO -> Prop
 | .lst xs => xs.length <= sizeLine /\ ∃ (its : List Value) (n : Nat), zcb xs its /\ h.get? a = some { cls := .type "list", data := .seq its.toArray n }
 | .tup xs => xs.length <= sizeLine /\ ∃ its : List Value, zcb xs its /\ IsTup h a its.toArray
 | .dK kvs => kvs.length <= sizeLine /\ (a == sysModules) = false /\ ∃ vs, zwQ kvs vs /\ h.DictOf (zaW P w) a vs
 | .dT kvs => kvs.length <= sizeLine /\ (a == sysModules) = false /\ ∃ xs : List (List zvK × Addr × Value),
   Paired (fun (p : List zvK × V) (q : List zvK × Addr × Value) => p.1 = q.1 /\ H q.2.1 = some (.tup (p.1.map zw7)) /\ zb6 p.2 q.2.2) kvs xs /\
   ∃ o es ep, h.get? a = some o /\ o.ExactDict /\ o.data = .dict es ep /\ es.toList = xs.map (entryOfKey (tupleKind (zaW P w))) /\ (xs.map (·.1)).Nodup
 | .set S n => h.SetOf (intKind P w) a S n
 | .ins C dx fs => H dx = some (.own a) /\ fs.length <= 1000 /\ dx ≠ a /\ h.get? a = some (PySem.W.instObj C dx) /\
   ∃ mA, h.Ns1 dx mA /\ (∀ f, zii (fs.lookup f) (mA f)) /\ PySem.Within mA (fs.map (·.1))
 | .own _ => ∃ o, h.get? a = some o
 | .xd fs => ∃ mA, h.Ns1 a mA /\ ∀ f, zii (fs.lookup f) (mA f)
 | .rng lo hi => ∃ t u v, h.get? a = some { cls := .type "range", data := .fields #[.int lo t, .int hi u, .int 1 v] }
 | .frz o u => h.get? a = some o /\ zcF H h a u
 | .tbl ps => h.get? a = some { cls := .none, data := .fields ps }
 | .met f x => h.get? a = some (PySem.W.methodObj (.ref f) (.ref x))
 | .ext φ => φ h /\ (∃ o, h.get? a = some o) /\ ∀ h1 h2 : Heap, φ h1 -> (∀ o, h1.get? a = some o -> h2.get? a = some o) -> φ h2
def zvT (H : zxg) (h : Heap) : Prop := ∀ a o, H a = some o -> zcF P w H h a o
end
section
variable {P : Program} {w : World} {H H' : zxg} {h h' : Heap} {a : Addr} {o : HO}
theorem zcF.lt (x : zcF P w H h a o) : a < h.objs.size := by
 cases o with
 | lst xs => obtain ⟨_, _, _, _, e⟩ := x; exact Heap.lt_size e
 | tup xs => obtain ⟨_, _, _, p⟩ := x; exact p.lt
 | dK kvs => obtain ⟨_, _, _, _, o, _, _, e, _⟩ := x; exact Heap.lt_size e
 | dT kvs => obtain ⟨_, _, _, _, o, _, _, e, _⟩ := x; exact Heap.lt_size e
 | set S n => obtain ⟨o, _, _, _, e, _⟩ := x; exact Heap.lt_size e
 | ins C dx fs => obtain ⟨_, _, _, e, _⟩ := x; exact Heap.lt_size e
 | own y => obtain ⟨_, e⟩ := x; exact Heap.lt_size e
 | xd fs => obtain ⟨_, ⟨_, _, _, e, _⟩, _⟩ := x; exact Heap.lt_size e
 | rng lo hi => obtain ⟨_, _, _, e⟩ := x; exact Heap.lt_size e
 | frz zw9 u => obtain ⟨e, _⟩ := x; exact Heap.lt_size e
 | tbl ps => exact Heap.lt_size (show h.get? a = some _ from x)
 | met f y => exact Heap.lt_size (show h.get? a = some _ from x)
 | ext φ => obtain ⟨_, ⟨_, e⟩, _⟩ := x; exact Heap.lt_size e
theorem Paired.mapP {α β : Type} {F G : α -> β -> Prop} : ∀ {l₁ : List α} {l₂ : List β}, Paired F l₁ l₂ -> (∀ a b, F a b -> G a b) -> Paired G l₁ l₂
 | _, _, .nil, _ => .nil
 | _, _, .cons r t, f => .cons (f _ _ r) (Paired.mapP t f)
theorem zcF.stay (x : zcF P w H h a o) (k : ∀ b u, (b = a \/ H b = some (.own a)) -> h.get? b = some u -> h'.get? b = some u)
  (ho : ∀ b, H b = some (.own a) -> H' b = some (.own a)) (ht : ∀ b xs, H b = some (.tup xs) -> H' b = some (.tup xs)) : zcF P w H' h' a o := by
 induction o with
 | lst xs => obtain ⟨z, its, n, r, e⟩ := x; exact ⟨z, its, n, r, k _ _ (.inl rfl) e⟩
 | tup xs => obtain ⟨z, its, r, zw9, e, c⟩ := x; exact ⟨z, its, r, zw9, k _ _ (.inl rfl) e, c⟩
 | dK kvs => obtain ⟨z, y, vs, r, zw9, es, ep, e, c⟩ := x; exact ⟨z, y, vs, r, zw9, es, ep, k _ _ (.inl rfl) e, c⟩
 | dT kvs =>
  obtain ⟨z, y, xs, r, zw9, es, ep, e, c⟩ := x
  exact ⟨z, y, xs, Paired.mapP r fun p q z => ⟨z.1, ht _ _ z.2.1, z.2.2⟩, zw9, es, ep, k _ _ (.inl rfl) e, c⟩
 | set S n => obtain ⟨zw9, es, ep, t, e, c⟩ := x; exact ⟨zw9, es, ep, t, k _ _ (.inl rfl) e, c⟩
 | ins C dx fs =>
  obtain ⟨d, z, ne, e, mA, ⟨od, es, ep, e2, c⟩, r⟩ := x
  exact ⟨ho _ d, z, ne, k _ _ (.inl rfl) e, mA, ⟨od, es, ep, k _ _ (.inr d) e2, c⟩, r⟩
 | own y => obtain ⟨zw9, e⟩ := x; exact ⟨zw9, k _ _ (.inl rfl) e⟩
 | xd fs => obtain ⟨mA, ⟨od, es, ep, e, c⟩, r⟩ := x; exact ⟨mA, ⟨od, es, ep, k _ _ (.inl rfl) e, c⟩, r⟩
 | rng lo hi => obtain ⟨t, u, v, e⟩ := x; exact ⟨t, u, v, k _ _ (.inl rfl) e⟩
 | frz zw9 u ih => obtain ⟨e, q⟩ := x; exact ⟨k _ _ (.inl rfl) e, ih q⟩
 | tbl ps =>
  have e : h.get? a = some { cls := .none, data := .fields ps } := x
  show h'.get? a = some { cls := .none, data := .fields ps }
  exact k a _ (.inl rfl) e
 | met f y =>
  have e : h.get? a = some (PySem.W.methodObj (.ref f) (.ref y)) := x
  show h'.get? a = some (PySem.W.methodObj (.ref f) (.ref y))
  exact k a _ (.inl rfl) e
 | ext φ => obtain ⟨p, ⟨o, e⟩, st⟩ := x; exact ⟨st _ _ p fun o q => k _ _ (.inl rfl) q, ⟨o, k _ _ (.inl rfl) e⟩, st⟩
theorem zvT.lt (x : zvT P w H h) (e : H a = some o) : a < h.objs.size := (x a o e).lt
theorem zvT.fresh (x : zvT P w H h) (e : h.objs.size <= a) : H a = none := by
 cases q : H a with
 | none => rfl
 | some u => exact absurd (Nat.lt_of_lt_of_le (x.lt q) e) (Nat.lt_irrefl _)
theorem zvT.kept (x : zvT P w H h) (k : ∀ b u, h.get? b = some u -> h'.get? b = some u) : zvT P w H h' := fun a o e =>
 (x a o e).stay (fun b u _ q => k b u q) (fun _ q => q) fun _ _ q => q
theorem zvT.laid (x : zvT P w H h) (k : ∀ b u, h.get? b = some u -> h'.get? b = some u) (hp : h.objs.size <= a) (new : zcF P w (zt0 H a o) h' a o) : zvT P w (zt0 H a o) h' := fun b u e => by
 have hn := x.fresh hp
 by_cases hb : b = a
 ·subst hb; rw [zaB] at e; cases e; exact new
 ·rw [zaz hb] at e
  exact (x b u e).stay (fun c v _ q => k c v q) (fun c q => by rw [zaz (zaq q hn)]; exact q) fun c xs q => by rw [zaz (zaq q hn)]; exact q
end
def zwy (H : zxg) (a : Addr) (u : HO) : Prop := H a = some u \/ ∃ o, H a = some (.frz o u)
theorem zwy.ok {P : Program} {w : World} {H : zxg} {h : Heap} {a : Addr} {u : HO} (r : zwy H a u) (x : zvT P w H h) : zcF P w H h a u := by
 rcases r with r | ⟨o, r⟩
 ·exact x a u r
 ·obtain ⟨_, q⟩ := x a _ r
  exact q
def zvF : Option HO -> Prop
 | some (.lst _) => True
 | some (.dK _) => True
 | some (.dT _) => True
 | some (.set _ _) => True
 | some (.ins _ _ _) => True
 | some (.ext _) => True
 | _ => False
section
variable {P : Program} {w : World} {H : zxg} {h h' : Heap} {x e : Addr} {o' : HO}
theorem zvT.write (ok : zvT P w H h) (mu : zvF (H x)) (he : e = x \/ H e = some (.own x)) (k : ∀ b u, b ≠ e -> h.get? b = some u -> h'.get? b = some u) (heo : ∃ u, h'.get? e = some u)
  (new : zcF P w (zt0 H x o') h' x o') : zvT P w (zt0 H x o') h' := fun b u q => by
 have nown : ∀ c y, H c = some (.own y) -> c ≠ x := fun c y r z => by subst z; rw [r] at mu; exact mu
 have ntup : ∀ c xs, H c = some (.tup xs) -> c ≠ x := fun c xs r z => by subst z; rw [r] at mu; exact mu
 by_cases hb : b = x
 ·subst hb; rw [zaB] at q; cases q; exact new
 ·rw [zaz hb] at q
  by_cases hbe : b = e
  ·have q' : H b = some (.own x) := by
    rcases he with z | z
    ·exact absurd (hbe.trans z) hb
    ·rw [hbe]; exact z
   rw [q] at q'; cases q'
   obtain ⟨v, hv⟩ := heo
   exact ⟨v, by rw [hbe]; exact hv⟩
  ·refine (ok b u q).stay (fun c v hc r => k c v ?_ r) (fun c r => by rw [zaz (nown c b r)]; exact r) fun c xs r => by rw [zaz (ntup c xs r)]; exact r
   rcases hc with rfl | hc
   ·exact hbe
   ·rintro rfl
    rcases he with z | z
    ·exact nown c b hc z
    ·rw [hc] at z; cases z; exact hb rfl
end
structure Un (fs ex : List Addr) (H H' : zxg) (h h' : Heap) : Prop where
 keep : ∀ b o, h.get? b = some o -> H b = none -> b ∉ fs -> b ∉ ex -> h'.get? b = some o
 slot : ∀ b o, h.get? b = some o -> H b = none -> b ∈ fs -> b ∉ ex -> ∃ sl, h'.get? b = some { o with slots := sl }
 free : ∀ b o, h.get? b = some o -> H b = none -> b ∉ ex -> H' b = none
 there : ∀ b o, h.get? b = some o -> b ∉ ex -> ∃ o', h'.get? b = some o'
 tups : ∀ b xs, H b = some (.tup xs) -> H' b = some (.tup xs)
 frzs : ∀ b o u, H b = some (.frz o u) -> H' b = some (.frz o u)
 tbls : ∀ b ps, H b = some (.tbl ps) -> ∃ more, H' b = some (.tbl (ps ++ more))
section
variable {fs fs' ex ex' : List Addr} {H H1 H2 : zxg} {h h1 h2 h' : Heap} {a x e : Addr} {o : HO}
theorem Un.any (u : Un fs ex H H1 h h1) {b : Addr} {zw9 : Obj} (q : h.get? b = some zw9) (n : H b = none) (hx : b ∉ ex) : ∃ sl, h1.get? b = some { zw9 with slots := sl } := by
 by_cases hb : b ∈ fs
 ·exact u.slot b zw9 q n hb hx
 ·exact ⟨zw9.slots, u.keep b zw9 q n hb hx⟩
theorem Un.kept (k : ∀ b u, h.get? b = some u -> h'.get? b = some u) : Un fs ex H H h h' :=
 ⟨fun b zw9 q _ _ _ => k b zw9 q, fun b zw9 q _ _ _ => ⟨zw9.slots, k b zw9 q⟩, fun _ _ _ n _ => n, fun b zw9 q _ => ⟨zw9, k b zw9 q⟩, fun _ _ q => q, fun _ _ _ q => q, fun _ ps q => ⟨#[], by rw [q]; simp⟩⟩
theorem Un.refl : Un fs ex H H h h := Un.kept fun _ _ q => q
theorem Un.laid (k : ∀ b u, h.get? b = some u -> h'.get? b = some u) (hp : h.objs.size <= a) (hn : H a = none) : Un fs ex H (zt0 H a o) h h' where
 keep := fun b u q _ _ _ => k b u q
 slot := fun b u q _ _ _ => ⟨u.slots, k b u q⟩
 free := fun b u q n _ => by rw [zaz (Nat.ne_of_lt (Nat.lt_of_lt_of_le (Heap.lt_size q) hp))]; exact n
 there := fun b u q _ => ⟨u, k b u q⟩
 tups := fun b xs q => by rw [zaz (zaq q hn)]; exact q
 frzs := fun b u xs q => by rw [zaz (zaq q hn)]; exact q
 tbls := fun b ps q => ⟨#[], by rw [zaz (zaq q hn), q]; simp⟩
theorem Un.write (mu : zvF (H x)) (he : e = x \/ H e = some (.own x)) (k : ∀ b u, b ≠ e -> h.get? b = some u -> h'.get? b = some u) (heo : ∃ u, h'.get? e = some u) : Un fs ex H (zt0 H x o) h h' := by
 have hx : ∀ b, H b = none -> b ≠ x := fun b n z => by subst z; rw [n] at mu; exact mu
 have hb : ∀ b, H b = none -> b ≠ e := fun b n z => by
  subst z
  rcases he with r | r
  ·exact hx b n r
  ·rw [n] at r; cases r
 have hm : ∀ b u, H b = some u -> ¬ zvF (some u) -> b ≠ x := fun b u q nm z => by subst z; rw [q] at mu; exact nm mu
 refine ⟨fun b u q n _ _ => k b u (hb b n) q, fun b u q n _ _ => ⟨u.slots, k b u (hb b n) q⟩, fun b u q n _ => by rw [zaz (hx b n)]; exact n, fun b u q _ => ?_,
  fun b xs q => by rw [zaz (hm b _ q fun z => z)]; exact q, fun b u xs q => by rw [zaz (hm b _ q fun z => z)]; exact q, fun b ps q => ⟨#[], by rw [zaz (hm b _ q fun z => z), q]; simp⟩⟩
 by_cases hbe : b = e
 ·subst hbe; exact heo
 ·exact ⟨u, k b u hbe q⟩
end
def zt4 (h : Heap) (H : zxg) : List Addr := (List.range h.objs.size).filter fun a => (H a).isSome
def znT (h : Heap) (H : zxg) : Heap := PySem.W.hideAll h (zt4 h H)
theorem zmi (h : Heap) (H : zxg) : (znT h H).objs.size = h.objs.size := PySem.W.hideAll_size _ _
theorem znS {h : Heap} {H : zxg} {b : Addr} {o : Obj} (e : h.get? b = some o) (n : H b = none) : (znT h H).get? b = some o :=
 PySem.W.hideAll_get _ e fun hm => by
  have q : (H b).isSome = true := (List.mem_filter.mp hm).2
  rw [n] at q; simp at q
theorem zpO {h : Heap} {H : zxg} {b : Addr} {o : Obj} (e : (znT h H).get? b = some o) : h.get? b = some o /\ H b = none := by
 have e' : h.get? b = some o := PySem.W.of_hideAll (zt4 h H) e
 refine ⟨e', ?_⟩
 cases q : H b with
 | none => rfl
 | some x =>
  have hm : b ∈ zt4 h H := List.mem_filter.mpr ⟨List.mem_range.mpr (Heap.lt_size e'), by simp [q]⟩
  have z : (znT h H).get? b = none := PySem.W.hideAll_none (zt4 h H) hm
  rw [z] at e; cases e
def zqD (g h : Heap) (L : Addr) : List (Addr × Obj) := (List.range h.objs.size).filterMap fun a => if a = L \/ (g.get? a).isSome = true then none else (h.get? a).map fun o => (a, o)
def zcM (g h : Heap) (L d : Addr) : List (Addr × Obj) := (zqD g h L).filter fun p => decide (p.1 ≠ d)
end L2
namespace L2
open PySem PySem.Spec PyProof.Rows
structure Mod (K : PySem.W.Frag) (mg : Str -> Option Value) (base : Heap) : Prop where
 kin : K.In base
 glob : base.Ns mainGlobals mg
 blt : ∃ mb, base.Ns builtinsNs mb /\ ∀ x : Str, x ≠ "__name__" -> mb x = bootBuiltins x
 nolimit : base.NoLimit
structure Cx where
 prog : Program
 w : World
 K : PySem.W.Frag
 mg : Str -> Option Value
 base : Heap
 A : Around
 N : List Str
 s₀ : Shared
 H₀ : zxg
 env : Env
 outer : List Env
 stack : List Env
 ex : List Addr
 fn : Str -> Bool
 calm : Bool
 pn : List (Addr × Obj)
 xe : Value -> Shared -> Prop
def zu7 (l : List Env) : List Addr := l.filterMap (·.frame)
abbrev Cx.fs (X : Cx) : List Addr := zu7 X.outer
def zvn (sc : Scope) (x : Str) : Prop := sc.names.lookup x = some .local \/ sc.names.lookup x = some .cell \/ sc.names.lookup x = some .free
def zvI (sc : Scope) (x : Str) : Prop := sc.names.lookup x = some .local \/ sc.names.lookup x = some .cell
def ztU (env : Env) (h : Heap) (m : Str -> Option Value) (x : Str) (u : Value) : Prop :=
 (env.kindOf x = some .local /\ m x = some u) \/ ((env.kindOf x = some .cell \/ env.kindOf x = some .free) /\ ∃ c, env.cells.lookup x = some c /\ h.IsCell c (some u))
structure Cx.Ok (X : Cx) : Prop where
 mod : Mod X.K X.mg X.base
 kind : X.env.scope.kind = .function
 glob : X.env.globals = mainGlobals
 blt : X.env.builtins = builtinsNs
 above : X.s₀.heap.objs.size <= X.env.locals
 inj : ∀ x y c, X.env.cells.lookup x = some c -> X.env.cells.lookup y = some c -> x = y
 has : ∀ x, (X.env.kindOf x = some .cell \/ X.env.kindOf x = some .free) -> ∃ c, X.env.cells.lookup x = some c
 cab : ∀ x c, X.fn x = true -> X.env.cells.lookup x = some c -> X.s₀.heap.objs.size <= c
 hd : X.calm = true -> X.A.handled = none
 frames : X.A.frames = some X.stack
 stk : X.stack = X.outer \/ (X.stack = X.env :: X.outer /\ X.env.frame = some X.env.locals)
 exf : ∀ b ∈ X.ex, b ≠ X.env.locals /\ ∀ x c, X.env.cells.lookup x = some c -> c ≠ b
 bs : ∀ b o, X.base.get? b = some o -> X.s₀.heap.get? b = some o /\ X.H₀ b = none
 bsz : X.base.objs.size <= X.s₀.heap.objs.size
 noex : ∀ b o, X.base.get? b = some o -> b ∉ X.ex
 exfs : ∀ b ∈ X.ex, b ∉ X.fs
 funs : X.s₀.heap.FunFrames X.base X.outer
 frf : ∀ b ∈ X.fs, X.H₀ b = none
structure Inv (X : Cx) (pins : List (Addr × Obj)) (σ : List (Option V)) (H : zxg) (s : Shared) : Prop where
 ok : X.Ok
 os : s.os = X.s₀.os
 bare : AllBare s.gens
 base : Un X.fs X.ex X.H₀ H X.s₀.heap s.heap
 loc : ∃ m, s.heap.Ns X.env.locals m /\ ∀ (i : Nat) (x : Str) (v : V), X.N[i]? = some x -> σ[i]? = some (some v) -> zvn X.env.scope x -> ∃ u, zb6 v u /\ ztU X.env s.heap m x u
 cell : ∀ x c, X.env.cells.lookup x = some c -> ∃ v, s.heap.IsCell c v
 free : H X.env.locals = none
 freeC : ∀ x c, X.env.cells.lookup x = some c -> H c = none
 pin : ∀ p ∈ X.pn ++ pins, s.heap.get? p.1 = some p.2 /\ H p.1 = none /\ p.1 ≠ X.env.locals /\ p.1 ∉ X.fs /\ ∀ v, p.2.data ≠ .cell v
 hok : zvT X.prog X.w H s.heap
 len : σ.length = X.N.length
section
variable {X : Cx} {pins : List (Addr × Obj)} {σ : List (Option V)} {H H' : zxg} {s : Shared} {h' : Heap}
theorem Cx.Ok.nofr (ok : X.Ok) {b : Addr} {o : Obj} (e : X.base.get? b = some o) : b ∉ X.fs := fun hb => by
 have := (ok.funs.mem hb).1
 rw [e] at this; cases this
theorem Inv.bs (I : Inv X pins σ H s) : ∀ b o, X.base.get? b = some o -> s.heap.get? b = some o /\ H b = none := fun b o e =>
 ⟨I.base.keep b o (I.ok.bs b o e).1 (I.ok.bs b o e).2 (I.ok.nofr e) (I.ok.noex b o e), I.base.free b o (I.ok.bs b o e).1 (I.ok.bs b o e).2 (I.ok.noex b o e)⟩
theorem Inv.bk (I : Inv X pins σ H s) : ∀ b o, X.base.get? b = some o -> s.heap.get? b = some o := fun b o e => (I.bs b o e).1
theorem Inv.mod (I : Inv X pins σ H s) : Mod X.K X.mg X.base := I.ok.mod
theorem Inv.kIn (I : Inv X pins σ H s) : X.K.In s.heap := I.ok.mod.kin.keeps I.bk
theorem Inv.lt (I : Inv X pins σ H s) : X.env.locals < s.heap.objs.size := let ⟨_, hn, _⟩ := I.loc; hn.lt
theorem Inv.sz (I : Inv X pins σ H s) : X.s₀.heap.objs.size <= s.heap.objs.size := Nat.le_trans I.ok.above (Nat.le_of_lt I.lt)
theorem Inv.nofs (I : Inv X pins σ H s) {a : Addr} (h : s.heap.objs.size <= a) : a ∉ X.fs := fun hb => by
 obtain ⟨_, o, ho, _⟩ := I.ok.funs.mem hb
 exact absurd (Nat.lt_of_lt_of_le (Heap.lt_size ho) (Nat.le_trans I.sz h)) (Nat.lt_irrefl _)
theorem Inv.cne (I : Inv X pins σ H s) : ∀ x c, X.env.cells.lookup x = some c -> c ≠ X.env.locals := fun x c e z => by
 obtain ⟨v, o, ho, hd⟩ := I.cell x c e
 obtain ⟨m, ⟨o', es, ep, ho', hd', _⟩, _⟩ := I.loc
 rw [z, ho'] at ho; cases ho; rw [hd'] at hd; cases hd
theorem Inv.funs (I : Inv X pins σ H s) : s.heap.FunFrames X.base X.outer := by
 have all : ∀ (l : List Env), (∀ b ∈ zu7 l, b ∈ X.fs) -> X.s₀.heap.FunFrames X.base l -> s.heap.FunFrames X.base l := by
  intro l
  induction l with
  | nil => intro _ _; trivial
  | cons env r ih =>
   intro hs hl
   obtain ⟨hk, ⟨L, o, hf, hn, ho, hd⟩, hr⟩ := hl
   have hL : L ∈ X.fs := hs L (by unfold zu7; rw [List.filterMap_cons, hf]; exact List.mem_cons_self)
   obtain ⟨sl, e⟩ := I.base.slot L o ho (I.ok.frf L hL) hL fun z => I.ok.exfs L z hL
   exact ⟨hk, ⟨L, _, hf, hn, e, hd⟩, ih (fun b hb => hs b (by unfold zu7; rw [List.filterMap_cons, hf]; exact List.mem_cons_of_mem _ hb)) hr⟩
 exact all X.outer (fun _ hb => hb) I.ok.funs
theorem Inv.stack (I : Inv X pins σ H s) : s.heap.FunFrames X.base X.stack := by
 rcases I.ok.stk with e | ⟨e, hf⟩
 ·rw [e]; exact I.funs
 ·rw [e]
  obtain ⟨m, hn, _⟩ := I.loc
  refine .cons (by rw [I.ok.kind]; decide) hf hn ?_ I.funs
  exact Heap.get?_none_of_le (Nat.le_trans I.ok.bsz I.ok.above)
theorem Inv.stkSub (I : Inv X pins σ H s) : ∀ b ∈ zu7 X.stack, b ∈ X.env.locals :: X.fs := fun b hb => by
 rcases I.ok.stk with e | ⟨e, hf⟩
 ·rw [e] at hb; exact List.mem_cons_of_mem _ hb
 ·rw [e] at hb
  unfold zu7 at hb
  rw [List.filterMap_cons, hf] at hb
  exact hb
theorem Inv.stkFree (I : Inv X pins σ H s) : ∀ b ∈ zu7 X.stack, H b = none := fun b hb => by
 rcases List.mem_cons.mp (I.stkSub b hb) with e | hb
 ·rw [e]; exact I.free
 ·obtain ⟨_, o, ho, _⟩ := I.ok.funs.mem hb
  exact I.base.free b o ho (I.ok.frf b hb) fun z => I.ok.exfs b z hb
theorem Inv.step {g' : Array GenState} {t' : Nat} {d' : Drawn} {ch : List Addr} (I : Inv X pins σ H s)
  (hch : ∀ b ∈ ch, (b ∈ X.ex \/ X.s₀.heap.objs.size <= b) /\ b ≠ X.env.locals /\ (∀ x c, X.env.cells.lookup x = some c -> c ≠ b) /\ ∀ p ∈ X.pn ++ pins, p.1 ≠ b)
  (keep : ∀ b o, b ≠ X.env.locals -> b ∉ X.fs -> b ∉ ch -> s.heap.get? b = some o -> H b = none -> h'.get? b = some o)
  (slot : ∀ b o, b ≠ X.env.locals -> b ∈ X.fs -> b ∉ ch -> s.heap.get? b = some o -> H b = none -> ∃ sl, h'.get? b = some { o with slots := sl }) (free : ∀ b o, b ∉ ch -> s.heap.get? b = some o -> H b = none -> H' b = none)
  (there : ∀ b o, b ∉ ch -> s.heap.get? b = some o -> ∃ o', h'.get? b = some o')
  (tups : ∀ b xs, H b = some (.tup xs) -> H' b = some (.tup xs)) (frzs : ∀ b o u, H b = some (.frz o u) -> H' b = some (.frz o u)) (tbls : ∀ b ps, H b = some (.tbl ps) -> ∃ more, H' b = some (.tbl (ps ++ more)))
  (ns : ∀ m, s.heap.Ns X.env.locals m -> h'.Ns X.env.locals m) (hok : zvT X.prog X.w H' h') (hg : AllBare g') :
  Inv X pins σ H' { s with heap := h', gens := g', drawn := d', toks := t' } := by
 have neL : ∀ b o, X.s₀.heap.get? b = some o -> b ≠ X.env.locals := fun b o e => Nat.ne_of_lt (Nat.lt_of_lt_of_le (Heap.lt_size e) I.ok.above)
 have neC : ∀ b o, X.s₀.heap.get? b = some o -> b ∉ X.ex -> b ∉ ch := fun b o e hx hb => by
  rcases (hch b hb).1 with z | z
  ·exact hx z
  ·exact absurd (Nat.lt_of_lt_of_le (Heap.lt_size e) z) (Nat.lt_irrefl _)
 have cellK : ∀ x c, X.env.cells.lookup x = some c -> ∀ v, s.heap.IsCell c v -> h'.IsCell c v := fun x c e v ⟨o, ho, hd⟩ => by
  have nch : c ∉ ch := fun z => (hch c z).2.2.1 x c e rfl
  by_cases hc : c ∈ X.fs
  ·obtain ⟨sl, q⟩ := slot c o (I.cne x c e) hc nch ho (I.freeC x c e)
   exact ⟨_, q, hd⟩
  ·exact ⟨o, keep c o (I.cne x c e) hc nch ho (I.freeC x c e), hd⟩
 refine ⟨I.ok, I.os, hg, ⟨fun b o e n hb hx => ?_, fun b o e n hb hx => ?_, fun b o e n hx => ?_, fun b o e hx => ?_, fun b xs e => tups b xs (I.base.tups b xs e), fun b o xs e => frzs b o xs (I.base.frzs b o xs e), fun b ps e => ?_⟩, ?_, fun x c e => ?_, ?_, fun x c e => ?_, fun p hp => ?_, hok, I.len⟩
 ·exact keep b o (neL b o e) hb (neC b o e hx) (I.base.keep b o e n hb hx) (I.base.free b o e n hx)
 ·obtain ⟨sl, e1⟩ := I.base.slot b o e n hb hx
  obtain ⟨sl', e2⟩ := slot b _ (neL b o e) hb (neC b o e hx) e1 (I.base.free b o e n hx)
  exact ⟨sl', e2⟩
 ·obtain ⟨o', e1⟩ := I.base.there b o e hx
  exact free b o' (neC b o e hx) e1 (I.base.free b o e n hx)
 ·obtain ⟨o', e1⟩ := I.base.there b o e hx
  exact there b o' (neC b o e hx) e1
 ·obtain ⟨m1, e1⟩ := I.base.tbls b ps e
  obtain ⟨m2, e2⟩ := tbls b _ e1
  exact ⟨m1 ++ m2, by rw [e2, Array.append_assoc]⟩
 ·obtain ⟨m, hn, hl⟩ := I.loc
  refine ⟨m, ns m hn, fun i x v e1 e2 e3 => ?_⟩
  obtain ⟨u, r, l⟩ := hl i x v e1 e2 e3
  refine ⟨u, r, ?_⟩
  rcases l with l | ⟨k, c, e, z⟩
  ·exact .inl l
  ·exact .inr ⟨k, c, e, cellK x c e _ z⟩
 ·obtain ⟨v, z⟩ := I.cell x c e
  exact ⟨v, cellK x c e v z⟩
 ·obtain ⟨m, ⟨o, _, _, ho, _⟩, _⟩ := I.loc
  exact free _ o (fun z => (hch _ z).2.1 rfl) ho I.free
 ·obtain ⟨v, o, ho, hd⟩ := I.cell x c e
  exact free c o (fun z => (hch c z).2.2.1 x c e rfl) ho (I.freeC x c e)
 ·obtain ⟨e, n, ne, nf, d⟩ := I.pin p hp
  have nch : p.1 ∉ ch := fun z => (hch p.1 z).2.2.2 p hp rfl
  exact ⟨keep p.1 p.2 ne nf nch e n, free p.1 p.2 nch e n, ne, nf, d⟩
theorem Inv.un {t' : Nat} (I : Inv X pins σ H s) (u : Un X.fs [] H H' s.heap h') (hok : zvT X.prog X.w H' h') : Inv X pins σ H' { s with heap := h', toks := t' } := by
 obtain ⟨m, ⟨o, es, ep, ho, r⟩, _⟩ := id I.loc
 obtain ⟨sl, hL⟩ := u.any ho I.free (by simp)
 exact I.step (g' := s.gens) (d' := s.drawn) (ch := []) (fun _ z => nomatch z) (fun b o _ hb _ e n => u.keep b o e n hb (by simp)) (fun b o _ hb _ e n => u.slot b o e n hb (by simp)) (fun b o _ e n => u.free b o e n (by simp)) (fun b o _ e => u.there b o e (by simp)) u.tups u.frzs u.tbls (fun m' hm => by
  obtain ⟨o', es', ep', ho', r'⟩ := hm
  rw [ho] at ho'; cases ho'
  exact ⟨_, es', ep', hL, r'⟩) hok I.bare
theorem Inv.call {g' : Array GenState} {t' : Nat} {d' : Drawn} {ch : List Addr} (I : Inv X pins σ H s) (u : Un (zu7 X.stack) ch H H' s.heap h') (hok : zvT X.prog X.w H' h') (hg : AllBare g')
  (hch : ∀ b ∈ ch, (b ∈ X.ex \/ X.s₀.heap.objs.size <= b) /\ b ≠ X.env.locals /\ (∀ x c, X.env.cells.lookup x = some c -> c ≠ b) /\ ∀ p ∈ X.pn ++ pins, p.1 ≠ b) :
  Inv X pins σ H' { s with heap := h', gens := g', drawn := d', toks := t' } := by
 obtain ⟨m, ⟨o, es, ep, ho, r⟩, _⟩ := id I.loc
 obtain ⟨sl, hL⟩ := u.any ho I.free fun z => (hch _ z).2.1 rfl
 exact I.step (ch := ch) hch (fun b o hL hb hc e n => u.keep b o e n (fun z => (List.mem_cons.mp (I.stkSub b z)).elim hL hb) hc) (fun b o _ _ hc e n => u.any e n hc) (fun b o hc e n => u.free b o e n hc) (fun b o hc e => u.there b o e hc) u.tups u.frzs u.tbls (fun m' hm => by
  obtain ⟨o', es', ep', ho', r'⟩ := hm
  rw [ho] at ho'; cases ho'
  exact ⟨_, es', ep', hL, r'⟩) hok hg
theorem Inv.turned {t' : Nat} {zxf : Addr} (I : Inv X pins σ H s) (k : ∀ b o, b ≠ zxf -> s.heap.get? b = some o -> h'.get? b = some o) (hn : H zxf = none) (hL : zxf ≠ X.env.locals)
  (h1 : zxf ∈ X.ex \/ X.s₀.heap.objs.size <= zxf) (h2 : ∀ x c, X.env.cells.lookup x = some c -> c ≠ zxf) (h3 : ∀ p ∈ X.pn ++ pins, p.1 ≠ zxf) : Inv X pins σ H { s with heap := h', toks := t' } := by
 have nit : ∀ b u, H b = some u -> b ≠ zxf := fun b u e z => by rw [z, hn] at e; cases e
 refine I.step (g' := s.gens) (d' := s.drawn) (ch := [zxf]) (fun b hb => ?_) (fun b o _ _ hc e _ => k b o (fun z => hc (by simp [z])) e) (fun b o _ _ hc e _ => ⟨o.slots, k b o (fun z => hc (by simp [z])) e⟩) (fun _ _ _ _ n => n)
  (fun b o hc e => ⟨o, k b o (fun z => hc (by simp [z])) e⟩) (fun _ _ e => e) (fun _ _ _ e => e) (fun b ps e => ⟨#[], by rw [e]; simp⟩) (fun m hm => ?_) (fun b u e => ?_) I.bare
 ·have e : b = zxf := by simpa using hb
  subst e
  exact ⟨h1, hL, h2, h3⟩
 ·obtain ⟨o, es, ep, ho, r⟩ := hm
  exact ⟨o, es, ep, k _ o (Ne.symm hL) ho, r⟩
 ·refine (I.hok b u e).stay (fun c v hc q => k c v ?_ q) (fun _ q => q) fun _ _ q => q
  rcases hc with z | z
  ·rw [z]; exact nit b u e
  ·exact nit c _ z
theorem Inv.tok (I : Inv X pins σ H s) (t : Nat) : Inv X pins σ H { s with toks := t } := I.un (h' := s.heap) (t' := t) Un.refl I.hok
theorem Inv.kept {t' : Nat} (I : Inv X pins σ H s) (k : ∀ b u, s.heap.get? b = some u -> h'.get? b = some u) : Inv X pins σ H { s with heap := h', toks := t' } := I.un (Un.kept k) (I.hok.kept k)
theorem Inv.laid {a : Addr} {o : HO} {t' : Nat} (I : Inv X pins σ H s) (k : ∀ b u, s.heap.get? b = some u -> h'.get? b = some u) (hp : s.heap.objs.size <= a) (new : zcF X.prog X.w (zt0 H a o) h' a o) :
  Inv X pins σ (zt0 H a o) { s with heap := h', toks := t' } := I.un (Un.laid k hp (I.hok.fresh hp)) (I.hok.laid k hp new)
theorem Inv.write {x e : Addr} {o : HO} {t' : Nat} (I : Inv X pins σ H s) (mu : zvF (H x)) (he : e = x \/ H e = some (.own x)) (k : ∀ b u, b ≠ e -> s.heap.get? b = some u -> h'.get? b = some u) (heo : ∃ u, h'.get? e = some u)
  (new : zcF X.prog X.w (zt0 H x o) h' x o) : Inv X pins σ (zt0 H x o) { s with heap := h', toks := t' } := I.un (Un.write mu he k heo) (I.hok.write mu he k heo new)
theorem Inv.pins_of {pins' : List (Addr × Obj)} (I : Inv X pins σ H s) (h : ∀ p ∈ pins', s.heap.get? p.1 = some p.2 /\ H p.1 = none /\ p.1 ≠ X.env.locals /\ p.1 ∉ X.fs /\ ∀ v, p.2.data ≠ .cell v) : Inv X pins' σ H s :=
 ⟨I.ok, I.os, I.bare, I.base, I.loc, I.cell, I.free, I.freeC, fun p hp => (List.mem_append.mp hp).elim (fun z => I.pin p (List.mem_append_left _ z)) (h p), I.hok, I.len⟩
theorem zke {N : List Str} (hN : N.Nodup) {i j : Nat} {x : Str} (a : N[i]? = some x) (b : N[j]? = some x) : i = j := by
 obtain ⟨h1, e1⟩ := List.getElem?_eq_some_iff.mp a
 obtain ⟨h2, e2⟩ := List.getElem?_eq_some_iff.mp b
 exact (List.getElem_inj hN).mp (e1.trans e2.symm)
theorem zil {M : Model} {A : Around} {E : Value -> Shared -> Prop} {i : Nat} {x : Str} {v : V} {u : Value} {Q : Unit -> Shared -> Prop} (I : Inv X pins σ H s) (hN : X.N.Nodup) (hi : X.N[i]? = some x) (hx : zvI X.env.scope x) (r : zb6 v u)
  (h : ∀ s', Inv X pins (σ.set i (some v)) H s' -> (∃ a, Heap.SameBut a s.heap s'.heap /\ (a = X.env.locals \/ X.env.cells.lookup x = some a)) -> Q () s') (hf : X.fn x = true \/ X.env.scope.names.lookup x = some .local := by first | exact .inl rfl | exact .inr rfl | assumption) : wpAny M A (storeName X.env x u) Q E s := by
 obtain ⟨m, hn, hl⟩ := id I.loc
 have hcls : (X.env.scope.kind == .class || (X.env.scope.kind == .module && X.env.locals != X.env.globals)) = false := by rw [I.ok.kind]; rfl
 have hiσ : i < σ.length := by rw [I.len]; exact (List.getElem?_eq_some_iff.mp hi).1
 have cne := I.cne
 have tracked : ∀ {a : Addr} {h' : Heap}, (∃ o, s.heap.get? a = some o /\ H a = none) -> Heap.SameBut a s.heap h' -> zvT X.prog X.w H h' := fun {a h'} ha hs b zw9 e => by
  obtain ⟨_, _, hfree⟩ := ha
  refine (I.hok b zw9 e).stay (fun c w' hc q => (hs.2 c ?_).trans q) (fun _ q => q) fun _ _ q => q
  rintro rfl
  rcases hc with rfl | hc
  ·rw [hfree] at e; cases e
  ·rw [hfree] at hc; cases hc
 rcases hx with hk | hk
 ·refine wpAny_storeName_local hk hn (fun h' hn' hs => ?_) hcls
  obtain ⟨oL, _, _, hoL, _⟩ := id hn
  refine h _ ⟨I.ok, I.os, I.bare, ⟨fun b o e n hb hx => ?_, fun b o e n hb hx => ?_, I.base.free, fun b o e hx => ?_, I.base.tups, I.base.frzs, I.base.tbls⟩, ⟨_, hn', fun j y v' e1 e2 e3 => ?_⟩, fun y c e => ?_, I.free, I.freeC, fun p hp => ?_, tracked ⟨oL, hoL, I.free⟩ hs, by simpa using I.len⟩ ⟨_, hs, .inl rfl⟩
  ·exact (hs.2 b (Nat.ne_of_lt (Nat.lt_of_lt_of_le (Heap.lt_size e) I.ok.above))).trans (I.base.keep b o e n hb hx)
  ·obtain ⟨sl, e1⟩ := I.base.slot b o e n hb hx
   exact ⟨sl, (hs.2 b (Nat.ne_of_lt (Nat.lt_of_lt_of_le (Heap.lt_size e) I.ok.above))).trans e1⟩
  ·obtain ⟨o', e1⟩ := I.base.there b o e hx
   exact ⟨o', (hs.2 b (Nat.ne_of_lt (Nat.lt_of_lt_of_le (Heap.lt_size e) I.ok.above))).trans e1⟩
  ·by_cases hj : j = i
   ·subst hj
    rw [hi] at e1; cases e1
    rw [List.getElem?_set_self hiσ] at e2
    cases e2
    exact ⟨u, r, .inl ⟨hk, by simp⟩⟩
   ·rw [List.getElem?_set_ne (Ne.symm hj)] at e2
    obtain ⟨u', r', q⟩ := hl j y v' e1 e2 e3
    refine ⟨u', r', ?_⟩
    rcases q with ⟨k, e⟩ | ⟨k, c, e, z⟩
    ·refine .inl ⟨k, ?_⟩
     have : y ≠ x := fun e => hj (zke hN e1 (e ▸ hi))
     simp [this, e]
    ·exact .inr ⟨k, c, e, z.sameBut hs (cne y c e)⟩
  ·obtain ⟨w', z⟩ := I.cell y c e
   exact ⟨w', z.sameBut hs (cne y c e)⟩
  ·obtain ⟨e, n, ne, nf, d⟩ := I.pin p hp
   exact ⟨(hs.2 p.1 ne).trans e, n, ne, nf, d⟩
 ·have hfn : X.fn x = true := by
   rcases hf with z | z
   ·exact z
   ·rw [z] at hk; cases hk
  obtain ⟨c, hc⟩ := I.ok.has x (.inl hk)
  obtain ⟨w', z⟩ := I.cell x c hc
  refine wpAny_storeName_cell I.ok.kind hk hc z (fun h' hc' hs => ?_)
  obtain ⟨oc, hoc, hocd⟩ := id z
  refine h { s with heap := h' } ⟨I.ok, I.os, I.bare, ⟨fun b o e n hb hx => ?_, fun b o e n hb hx => ?_, I.base.free, fun b o e hx => ?_, I.base.tups, I.base.frzs, I.base.tbls⟩, ⟨m, hn.sameBut hs (Ne.symm (cne x c hc)), fun j y v' e1 e2 e3 => ?_⟩, fun y c' e => ?_, I.free, I.freeC, fun p hp => ?_, tracked ⟨oc, hoc, I.freeC x c hc⟩ hs, by simpa using I.len⟩ ⟨c, hs, .inr hc⟩
  ·exact (hs.2 b (Nat.ne_of_lt (Nat.lt_of_lt_of_le (Heap.lt_size e) (I.ok.cab x c hfn hc)))).trans (I.base.keep b o e n hb hx)
  ·obtain ⟨sl, e1⟩ := I.base.slot b o e n hb hx
   exact ⟨sl, (hs.2 b (Nat.ne_of_lt (Nat.lt_of_lt_of_le (Heap.lt_size e) (I.ok.cab x c hfn hc)))).trans e1⟩
  ·obtain ⟨o', e1⟩ := I.base.there b o e hx
   exact ⟨o', (hs.2 b (Nat.ne_of_lt (Nat.lt_of_lt_of_le (Heap.lt_size e) (I.ok.cab x c hfn hc)))).trans e1⟩
  ·by_cases hj : j = i
   ·subst hj
    rw [hi] at e1; cases e1
    rw [List.getElem?_set_self hiσ] at e2
    cases e2
    exact ⟨u, r, .inr ⟨.inl hk, c, hc, hc'⟩⟩
   ·rw [List.getElem?_set_ne (Ne.symm hj)] at e2
    obtain ⟨u', r', q⟩ := hl j y v' e1 e2 e3
    refine ⟨u', r', ?_⟩
    rcases q with q | ⟨k, c', e, z'⟩
    ·exact .inl q
    ·refine .inr ⟨k, c', e, z'.sameBut hs ?_⟩
     rintro rfl
     exact hj (zke hN e1 (I.ok.inj _ _ _ e hc ▸ hi))
  ·by_cases hcc : c' = c
   ·subst hcc; exact ⟨_, hc'⟩
   ·obtain ⟨w2, z2⟩ := I.cell y c' e
    exact ⟨w2, z2.sameBut hs hcc⟩
  ·obtain ⟨e, n, ne, nf, d⟩ := I.pin p hp
   refine ⟨(hs.2 p.1 ?_).trans e, n, ne, nf, d⟩
   intro q
   rw [q, hoc] at e
   have q' : oc = p.2 := Option.some.inj e
   exact d w' (by rw [← q']; exact hocd)
theorem zj5 {M : Model} {A : Around} {E : Value -> Shared -> Prop} {i : Nat} {x : Str} {v : V} {u : Value} {Q : Unit -> Shared -> Prop} (I : Inv X pins σ H s) (hN : X.N.Nodup) (hi : X.N[i]? = some x) (hx : zvI X.env.scope x) (r : zb6 v u)
  (h : ∀ s', Inv X pins (σ.set i (some v)) H s' -> Q () s') (hf : X.fn x = true \/ X.env.scope.names.lookup x = some .local := by first | exact .inl rfl | exact .inr rfl | assumption) : wpAny M A (storeName X.env x u) Q E s :=
 zil I hN hi hx r (fun s' I' _ => h s' I') hf
theorem Inv.call' {s' : Shared} {ch : List Addr} (I : Inv X pins σ H s) (ho : s'.os = s.os) (u : Un (zu7 X.stack) ch H H' s.heap s'.heap) (hok : zvT X.prog X.w H' s'.heap) (hg : AllBare s'.gens)
  (hch : ∀ b ∈ ch, (b ∈ X.ex \/ X.s₀.heap.objs.size <= b) /\ b ≠ X.env.locals /\ (∀ x c, X.env.cells.lookup x = some c -> c ≠ b) /\ ∀ p ∈ X.pn ++ pins, p.1 ≠ b) : Inv X pins σ H' s' := by
 obtain ⟨h', g', d', t', o'⟩ := s'
 have e : o' = s.os := ho
 subst e
 exact I.call (g' := g') (t' := t') (d' := d') u hok hg hch
end
abbrev zwV := Value -> Option Addr -> zxg -> Prop
abbrev zxd := List (Option V)
abbrev zw3 := V -> zxg -> Prop
abbrev zw8 := zxd -> zxg -> zw3 -> Prop
abbrev zwT := zxd -> zxg -> (Bool -> zxg -> Prop) -> Prop
abbrev zwS := zxd -> zxg -> (List V -> zxg -> Prop) -> Prop
structure Ends where
 nx : zxd -> zxg -> Prop
 rt : zw3
 bk : zxd -> zxg -> Prop := fun _ _ => False
 ct : zxd -> zxg -> Prop := fun _ _ => False
abbrev TS := Ends -> zxd -> zxg -> Prop
def zwP (X : Cx) (pins : List (Addr × Obj)) (σ : zxd) (Q : zw3) (u : Value) (s' : Shared) : Prop := ∃ v H', Inv X pins σ H' s' /\ zb6 v u /\ Q v H'
def zwc (X : Cx) (pins : List (Addr × Obj)) (σ : zxd) (Q : Bool -> zxg -> Prop) (b : Bool) (s' : Shared) : Prop := ∃ H', Inv X pins σ H' s' /\ Q b H'
def zv3 (X : Cx) (pins : List (Addr × Obj)) (σ : zxd) (Q : List V -> zxg -> Prop) (us : List Value) (s' : Shared) : Prop := ∃ vs H', Inv X pins σ H' s' /\ zcb vs us /\ Q vs H'
def zwl (X : Cx) (pins : List (Addr × Obj)) (D : Ends) (f : Flow) (s' : Shared) : Prop :=
 match f with
 | .next => ∃ σ' H', Inv X pins σ' H' s' /\ D.nx σ' H'
 | .brk => ∃ σ' H', Inv X pins σ' H' s' /\ D.bk σ' H'
 | .cont => ∃ σ' H', Inv X pins σ' H' s' /\ D.ct σ' H'
 | .ret u => ∃ v σ' H', Inv X pins σ' H' s' /\ zb6 v u /\ D.rt v H'
def zxb (X : Cx) (e : Expr) (t : zw8) : Prop :=
 ∀ (pins : List (Addr × Obj)) (s : Shared) (σ : zxd) (H : zxg) (Q : zw3), Inv X pins σ H s -> t σ H Q -> wpAny (model X.prog X.w) X.A (eval e X.env) (zwP X pins σ Q) X.xe s
def zwK (X : Cx) (e : Expr) (t : zwT) : Prop :=
 ∀ (pins : List (Addr × Obj)) (s : Shared) (σ : zxd) (H : zxg) (Q : Bool -> zxg -> Prop), Inv X pins σ H s -> t σ H Q -> wpAny (model X.prog X.w) X.A (isTrue e X.env (eval e X.env)) (zwc X pins σ Q) X.xe s
def zwA (X : Cx) (e : Expr) (t : zwT) : Prop :=
 ∀ (whole : Sem Value) (pins : List (Addr × Obj)) (s : Shared) (σ : zxd) (H : zxg) (Q : Bool -> zxg -> Prop), Inv X pins σ H s -> t σ H Q -> wpAny (model X.prog X.w) X.A (isTrue e X.env whole) (zwc X pins σ Q) X.xe s
theorem zwA.pt {X : Cx} {e : Expr} {t : zwT} (h : zwA X e t) : zwK X e t := h _
def zwN (X : Cx) (es : List Expr) (t : zwS) : Prop :=
 ∀ (pos : Pos) (pins : List (Addr × Obj)) (s : Shared) (σ : zxd) (H : zxg) (Q : List V -> zxg -> Prop), Inv X pins σ H s -> t σ H Q -> wpAny (model X.prog X.w) X.A (spliced (backTo pos (starEach es X.env))) (zv3 X pins σ Q) X.xe s
def zwG (X : Cx) (st : Stmt) (t : TS) : Prop :=
 ∀ (pins : List (Addr × Obj)) (s : Shared) (σ : zxd) (H : zxg) (D : Ends), Inv X pins σ H s -> t D σ H -> wpAny (model X.prog X.w) X.A (exec st X.env) (zwl X pins D) X.xe s
def zvB (X : Cx) (st : List Stmt) (t : TS) : Prop :=
 ∀ (pins : List (Addr × Obj)) (s : Shared) (σ : zxd) (H : zxg) (D : Ends), Inv X pins σ H s -> t D σ H -> wpAny (model X.prog X.w) X.A (execs st X.env) (zwl X pins D) X.xe s
theorem zt9 {α : Type} {t : Sem α} {Q Q' : α -> Shared -> Prop} {M : Model} {A : Around} {E : Value -> Shared -> Prop} {s : Shared} (h : wpAny M A t Q E s) (hQ : ∀ a s, Q a s -> Q' a s) : wpAny M A t Q' E s := wpAny_mono h hQ fun _ _ x => x
end L2
namespace L2
open PySem PySem.Spec PyProof.Rows
section
variable {X : Cx}
theorem zvl {a b : Expr} {ta tb : zw8} (ha : zxb X a ta) (hb : zxb X b tb) {pins : List (Addr × Obj)} {s : Shared} {σ : zxd} {H : zxg} {R : V -> V -> zxg -> Prop} (I : Inv X pins σ H s) (h : ta σ H fun x H1 => tb σ H1 fun y H2 => R x y H2)
  {α : Type} {Q : α -> Shared -> Prop} {f : Value -> Value -> Sem α}
  (hf : ∀ v u s2 x y H2, Inv X pins σ H2 s2 -> zb6 x v -> zb6 y u -> R x y H2 -> wpAny (model X.prog X.w) X.A (f v u) Q X.xe s2) :
  wpAny (model X.prog X.w) X.A (eval a X.env) (fun v s₁ => wpAny (model X.prog X.w) X.A (eval b X.env) (fun u s₂ => wpAny (model X.prog X.w) X.A (f v u) Q X.xe s₂) X.xe s₁) X.xe s := by
 refine zt9 (ha pins s σ H _ I h) fun v s1 ⟨x, H1, I1, r1, q1⟩ => ?_
 refine zt9 (hb pins s1 σ H1 _ I1 q1) fun u s2 ⟨y, H2, I2, r2, q2⟩ => ?_
 exact hf v u s2 x y H2 I2 r1 r2 q2
def ztw (i : Nat) : zw8 := fun σ H Q => ∃ v, σ[i]? = some (some v) /\ Q v H
def zwj (v : V) : zw8 := fun _ H Q => Q v H
theorem zfw {i : Nat} {x : Str} {pos : Pos} (hN : X.N[i]? = some x) (hv : zvn X.env.scope x) (hd : (x == ("__debug__" : Str)) = false := by decide) (hcd : (x == ("__classdict__" : Str)) = false := by decide) : zxb X (.Name x pos) (ztw i) := by
 intro pins s σ H Q I h
 obtain ⟨v, e, h⟩ := h
 obtain ⟨m, hn, hl⟩ := I.loc
 obtain ⟨u, r, l⟩ := hl i x v hN e hv
 have fin : zwP X pins σ Q u s := ⟨v, H, I, r, h⟩
 rcases l with ⟨hk, hm⟩ | ⟨hk, c, hc, hcell⟩
 ·exact wpAny_Name (wpAny_loadName_local I.ok.kind hk hn hm fin) hd
 ·rcases hk with hk | hk
  ·exact wpAny_Name (wpAny_loadName_cell I.ok.kind hk hc hcell fin) hd
  ·exact wpAny_Name (wpAny_loadName_free I.ok.kind hk hc hcell fin hcd) hd
theorem zoq {i j pos} : zxb X (.Constant (.int i) j pos) (zwj (.int i)) := fun _ _ _ H _ I h => wpAny_Constant_int ⟨.int i, H, I.tok _, ⟨_, rfl⟩, h⟩
theorem zsI {b j pos} : zxb X (.Constant (.bool b) j pos) (zwj (.bl b)) := fun _ _ _ H _ I h => Constant_bool ⟨.bl b, H, I, rfl, h⟩
theorem zrn {j pos} : zxb X (.Constant .none j pos) (zwj .non) := fun _ _ _ H _ I h => Constant_none ⟨.non, H, I, rfl, h⟩
theorem zrk {x j pos} : zxb X (.Constant (.str x) j pos) (zwj (.str x)) := fun _ _ _ H _ I h => Calls.Constant_str ⟨.str x, H, I.tok _, ⟨_, rfl⟩, h⟩
def zwU (X : Cx) (x : Str) : Prop := X.env.kindOf x = some .globalImplicit
theorem zjy {E : Value -> Shared -> Prop} {pins : List (Addr × Obj)} {s : Shared} {σ : zxd} {H : zxg} {x : Str} {u : Value} {pos : Pos} {Q : Value -> Shared -> Prop} (I : Inv X pins σ H s) (hg : zwU X x) (hm : X.mg x = some u) (h : Q u s)
  (hd : (x == ("__debug__" : Str)) = false := by decide) : wpAny (model X.prog X.w) X.A (eval (.Name x pos) X.env) Q E s :=
 Calls.Name_function_global I.ok.kind hg (Calls.loadGlobal_global (by rw [I.ok.glob]; exact I.mod.glob.keeps I.bk) hm h) hd
theorem zhn {E : Value -> Shared -> Prop} {pins : List (Addr × Obj)} {s : Shared} {σ : zxd} {H : zxg} {x : Str} {u : Value} {pos : Pos} {Q : Value -> Shared -> Prop} (I : Inv X pins σ H s) (hg : zwU X x) (hm : X.mg x = none) (hv : bootBuiltins x = some u) (h : Q u s)
  (hn : x ≠ "__name__" := by decide) (hd : (x == ("__debug__" : Str)) = false := by decide) : wpAny (model X.prog X.w) X.A (eval (.Name x pos) X.env) Q E s := by
 obtain ⟨mb, h1, h2⟩ := I.mod.blt
 exact Calls.Name_function_global I.ok.kind hg (Calls.loadGlobal_builtin (by rw [I.ok.glob]; exact I.mod.glob.keeps I.bk) hm (by rw [I.ok.blt]; exact h1.keeps I.bk) ((h2 x hn).trans hv) h) hd
theorem zpE {x : Str} {v : V} {u : Value} {pos : Pos} (hg : zwU X x) (hm : X.mg x = some u) (r : zb6 v u) (hd : (x == ("__debug__" : Str)) = false := by decide) : zxb X (.Name x pos) (zwj v) :=
 fun _ _ _ H _ I h => zjy I hg hm ⟨v, H, I, r, h⟩ hd
theorem zpI {x : Str} {v : V} {u : Value} {pos : Pos} (hg : zwU X x) (hm : X.mg x = none) (hv : bootBuiltins x = some u) (r : zb6 v u) (hn : x ≠ "__name__" := by decide) (hd : (x == ("__debug__" : Str)) = false := by decide) : zxb X (.Name x pos) (zwj v) :=
 fun _ _ _ H _ I h => zhn I hg hm hv ⟨v, H, I, r, h⟩ hn hd
variable {a b : Expr} {ta tb : zw8} {pos : Pos}
def zv1 (X : Cx) (op : CmpOp) (a b : Expr) (t : zw8) : Prop :=
 ∀ (pins : List (Addr × Obj)) (s : Shared) (σ : zxd) (H : zxg) (Q : zw3), Inv X pins σ H s -> t σ H Q ->
  wpAny (model X.prog X.w) X.A (eval a X.env) (fun v s₁ => wpAny (model X.prog X.w) X.A (eval b X.env) (fun u s₂ => wpAny (model X.prog X.w) X.A (compareOp op v u) (zwP X pins σ Q) X.xe s₂) X.xe s₁) X.xe s
theorem znD (b : Expr) {op : CmpOp} (h : op ≠ .In) (h2 : op ≠ .NotIn) : behindInMarks op b = false := by
 have e1 : (op == CmpOp.In) = false := by cases op <;> first | rfl | exact absurd rfl h
 have e2 : (op == CmpOp.NotIn) = false := by cases op <;> first | rfl | exact absurd rfl h2
 cases b <;> simp [behindInMarks, e1, e2]
def zv4 (t : zw8) : zwT := fun σ H Q => t σ H fun x H1 => ∃ c, x = .bl c /\ Q c H1
theorem ztl {op : CmpOp} {t : zw8} (h : zv1 X op a b t) (h1 : behindInMarks op b = false := by first | exact znD _ (by decide) (by decide) | rfl) : zwK X (.Compare a [op] [b] pos) (zv4 t) := by
 intro pins s σ H Q I hw
 refine wpAny_isTrue_Compare1 (zt9 (h pins s σ H _ I hw) fun v s1 h1 => zt9 h1 fun u s2 h2 => zt9 h2 fun c s3 ⟨x, H1, I1, r1, q1⟩ => ?_) h1
 obtain ⟨d, rfl, q⟩ := q1
 cases r1
 exact wpAny_truthy_bool ⟨H1, I1, q⟩
theorem zra {e : Expr} {t : zw8} (h : zxb X e t) (he : ∀ whole, isTrue e X.env whole = (do let v ← whole; standAt e.pos; holding [v] (truthy v)) := by intro _; rfl) : zwK X e (zv4 t) := by
 intro pins s σ H Q I hw
 refine isTrue_plain (zt9 (h pins s σ H _ I hw) fun v s1 ⟨x, H1, I1, r1, q1⟩ => ?_) (he _)
 obtain ⟨d, rfl, q⟩ := q1
 cases r1
 exact wpAny_truthy_bool ⟨H1, I1, q⟩
variable {tA tB' : zwT} {zcM : List Expr}
def ztG (t u : zwT) : zwT := fun σ H Q => t σ H fun c H1 => if c = true then u σ H1 Q else Q false H1
def zub (t u : zwT) : zwT := fun σ H Q => t σ H fun c H1 => if c = true then Q true H1 else u σ H1 Q
def ztA (t : zwT) : zwT := fun σ H Q => t σ H fun c H1 => Q (!c) H1
theorem zpn (ha : zwK X a tA) : zwA X (.BoolOp .And [a] pos) tA := by
 intro wh pins s σ H Q I h
 refine isTrue_and (zt9 (ha pins s σ H Q I h) fun c s1 e => ?_)
 cases c with
 | true => exact isTrue_and_nil e
 | false => exact e
theorem zq7 (ha : zwK X a tA) : zwA X (.BoolOp .Or [a] pos) tA := by
 intro wh pins s σ H Q I h
 refine isTrue_or (zt9 (ha pins s σ H Q I h) fun c s1 e => ?_)
 cases c with
 | false => exact isTrue_or_nil e
 | true => exact e
theorem zq8 (ha : zwK X a tA) (hb : zwA X (.BoolOp .And (b :: zcM) pos) tB') : zwA X (.BoolOp .And (a :: b :: zcM) pos) (ztG tA tB') := by
 intro wh pins s σ H Q I h
 refine isTrue_and (zt9 (ha pins s σ H _ I h) fun c s1 ⟨H1, I1, q1⟩ => ?_)
 cases c with
 | true => exact hb wh pins s1 σ H1 Q I1 q1
 | false => exact ⟨H1, I1, q1⟩
theorem zsE (ha : zwK X a tA) (hb : zwA X (.BoolOp .Or (b :: zcM) pos) tB') : zwA X (.BoolOp .Or (a :: b :: zcM) pos) (zub tA tB') := by
 intro wh pins s σ H Q I h
 refine isTrue_or (zt9 (ha pins s σ H _ I h) fun c s1 ⟨H1, I1, q1⟩ => ?_)
 cases c with
 | true => exact ⟨H1, I1, q1⟩
 | false => exact hb wh pins s1 σ H1 Q I1 q1
theorem zrb (ha : zwK X a tA) : zwK X (.UnaryOp .Not a pos) (ztA tA) := by
 intro pins s σ H Q I h
 exact isTrue_not (ha pins s σ H (fun c H1 => Q (!c) H1) I h)
def zsA (ta tb : zw8) : zw8 := fun σ H Q => ta σ H fun x H1 => ∃ c, x = .bl c /\ if c = true then tb σ H1 Q else Q (.bl false) H1
def zss (ta : zw8) : zw8 := fun σ H Q => ta σ H fun x H1 => ∃ c, x = .bl c /\ Q (.bl (!c)) H1
theorem zrl {op} {t : zw8} (h : zxb X a t) : zxb X (.BoolOp op [a] pos) t := fun pins s σ H Q I hw => BoolOp_one (h pins s σ H Q I hw)
theorem zrr (ha : zxb X a ta) (hb : zxb X (.BoolOp .And (b :: zcM) pos) tb) : zxb X (.BoolOp .And (a :: b :: zcM) pos) (zsA ta tb) := by
 intro pins s σ H Q I h
 refine BoolOp_and (zt9 (ha pins s σ H _ I h) fun v s1 ⟨x, H1, I1, r1, q1⟩ => ?_)
 obtain ⟨c, rfl, q1⟩ := q1
 cases r1
 refine wpAny_truthy_bool ?_
 cases c with
 | true => exact hb pins s1 σ H1 Q I1 q1
 | false => exact ⟨.bl false, H1, I1, rfl, q1⟩
theorem zrm (ha : zxb X a ta) : zxb X (.UnaryOp .Not a pos) (zss ta) := by
 intro pins s σ H Q I h
 refine UnaryOp_ (zt9 (ha pins s σ H _ I h) fun v s1 ⟨x, H1, I1, r1, q1⟩ => ?_)
 obtain ⟨c, rfl, q1⟩ := q1
 cases r1
 exact not_of (wpAny_truthy_bool ⟨.bl (!c), H1, I1, rfl, q1⟩)
end
end L2
namespace L2
open PySem PySem.Spec PyProof.Rows
def zvy (K : PySem.W.Frag) (H : zxg) (a : Addr) (xs : List V) : Prop :=
 zwy H a (.lst xs) \/
  ∃ (o : Obj) (its : Array Value) (n : Nat), K.lookup a = some o /\ o.cls = .type "list" /\ o.dict = none /\ o.data = .seq its n /\ its.size <= sizeLine /\ zcb xs its.toList
def zvx (K : PySem.W.Frag) (H : zxg) (a : Addr) (xs : List V) : Prop :=
 zwy H a (.tup xs) \/
  ∃ (o : Obj) (its : Array Value) (n : Nat), K.lookup a = some o /\ o.cls = .type "tuple" /\ o.data = .seq its n /\ its.size <= sizeLine /\ zcb xs its.toList
def ztQ : Value -> Option V
 | .none => some .non
 | .bool b => some (.bl b)
 | .int i _ => some (.int i)
 | .str x _ => some (.str x)
 | .bytes b _ => some (.byt b)
 | .float b _ => some (.flt b)
 | .ref a => some (.ref a)
 | .type n => some (.ty n)
 | _ => none
theorem zb6.abs {x : V} {u : Value} (r : zb6 x u) : ztQ u = some x := by
 cases x with
 | non => cases r; rfl
 | bl _ => cases r; rfl
 | int _ => obtain ⟨t, rfl⟩ := r; rfl
 | str _ => obtain ⟨t, rfl⟩ := r; rfl
 | byt _ => obtain ⟨t, rfl⟩ := r; rfl
 | flt _ => obtain ⟨t, rfl⟩ := r; rfl
 | ref _ => cases r; rfl
 | ty _ => cases r; rfl
theorem zb6.inj {x y : V} {u : Value} (r : zb6 x u) (q : zb6 y u) : x = y := Option.some.inj (r.abs.symm.trans q.abs)
theorem zcb.inj : ∀ {xs ys : List V} {us : List Value}, zcb xs us -> zcb ys us -> xs = ys
 | _, _, _, .nil, .nil => rfl
 | _, _, _, .cons r t, .cons r' t' => by rw [r.inj r', zcb.inj t t']
section
variable {X : Cx} {pins : List (Addr × Obj)} {σ : zxd} {H : zxg} {s : Shared} {a : Addr} {xs ys : List V}
theorem Inv.list (I : Inv X pins σ H s) (h : zvy X.K H a xs) : ∃ its : List Value, zcb xs its /\ PlainL s.heap a its.toArray /\ xs.length <= sizeLine := by
 rcases h with h | ⟨o, its, n, hk, hc, hd, hs, hz, r⟩
 ·obtain ⟨z, its, n, r, e⟩ := h.ok I.hok
  exact ⟨its, r, ⟨_, n, e, rfl, rfl, rfl⟩, z⟩
 ·refine ⟨its.toList, r, ⟨o, n, I.kIn a o hk, hc, hd, by simpa using hs⟩, ?_⟩
  have e := r.length
  simp only [Array.length_toList] at e
  omega
theorem Inv.tuple (I : Inv X pins σ H s) (h : zvx X.K H a xs) : ∃ its : List Value, zcb xs its /\ IsTup s.heap a its.toArray /\ xs.length <= sizeLine := by
 rcases h with h | ⟨o, its, n, hk, hc, hs, hz, r⟩
 ·obtain ⟨z, its, r, p⟩ := h.ok I.hok
  exact ⟨its, r, p, z⟩
 ·refine ⟨its.toList, r, ⟨o, I.kIn a o hk, hc, n, by simpa using hs⟩, ?_⟩
  have e := r.length
  simp only [Array.length_toList] at e
  omega
theorem Inv.list_inj (I : Inv X pins σ H s) (h : zvy X.K H a xs) (h' : zvy X.K H a ys) : xs = ys := by
 obtain ⟨its, r, ⟨o, n, e, _, _, d⟩, _⟩ := I.list h
 obtain ⟨its', r', ⟨o', n', e', _, _, d'⟩, _⟩ := I.list h'
 rw [e] at e'; cases e'
 rw [d] at d'
 injection d' with d1 _
 have : its = its' := by simpa using congrArg Array.toList d1
 subst this
 exact r.inj r'
theorem Inv.tuple_inj (I : Inv X pins σ H s) (h : zvx X.K H a xs) (h' : zvx X.K H a ys) : xs = ys := by
 obtain ⟨its, r, ⟨o, e, _, n, d⟩, _⟩ := I.tuple h
 obtain ⟨its', r', ⟨o', e', _, n', d'⟩, _⟩ := I.tuple h'
 rw [e] at e'; cases e'
 rw [d] at d'
 injection d' with d1 _
 have : its = its' := by simpa using congrArg Array.toList d1
 subst this
 exact r.inj r'
end
abbrev Cx.wish (X : Cx) (E : Value -> Shared -> Prop) : Cx := { X with xe := E }
abbrev Cx.nox (X : Cx) : Cx := X.wish fun _ _ => False
theorem Cx.Ok.wish {X : Cx} (ok : X.Ok) (E : Value -> Shared -> Prop) : (X.wish E).Ok :=
 ⟨ok.mod, ok.kind, ok.glob, ok.blt, ok.above, ok.inj, ok.has, ok.cab, ok.hd, ok.frames, ok.stk, ok.exf, ok.bs, ok.bsz, ok.noex, ok.exfs, ok.funs, ok.frf⟩
theorem Cx.Ok.unwish {X : Cx} {E : Value -> Shared -> Prop} (ok : (X.wish E).Ok) : X.Ok :=
 ⟨ok.mod, ok.kind, ok.glob, ok.blt, ok.above, ok.inj, ok.has, ok.cab, ok.hd, ok.frames, ok.stk, ok.exf, ok.bs, ok.bsz, ok.noex, ok.exfs, ok.funs, ok.frf⟩
section
variable {X : Cx} {pins : List (Addr × Obj)} {σ : zxd} {H : zxg} {s : Shared} {E : Value -> Shared -> Prop}
theorem Inv.wish (I : Inv X pins σ H s) (E : Value -> Shared -> Prop) : Inv (X.wish E) pins σ H s := ⟨I.ok.wish E, I.os, I.bare, I.base, I.loc, I.cell, I.free, I.freeC, I.pin, I.hok, I.len⟩
theorem Inv.unwish (I : Inv (X.wish E) pins σ H s) : Inv X pins σ H s := ⟨I.ok.unwish, I.os, I.bare, I.base, I.loc, I.cell, I.free, I.freeC, I.pin, I.hok, I.len⟩
theorem zwl.unwish {D : Ends} {f : Flow} {s' : Shared} (h : zwl (X.wish E) pins D f s') : zwl X pins D f s' := by
 cases f with
 | next => obtain ⟨σ', H', I, q⟩ := h; exact ⟨σ', H', I.unwish, q⟩
 | brk => obtain ⟨σ', H', I, q⟩ := h; exact ⟨σ', H', I.unwish, q⟩
 | cont => obtain ⟨σ', H', I, q⟩ := h; exact ⟨σ', H', I.unwish, q⟩
 | ret u => obtain ⟨v, σ', H', I, r, q⟩ := h; exact ⟨v, σ', H', I.unwish, r, q⟩
theorem zvB.nox {st : List Stmt} {t : TS} (h : zvB X.nox st t) : zvB X st t := fun pins s σ H D I hw =>
 wpAny_mono (h pins s σ H D (I.wish _) hw) (fun _ _ q => q.unwish) fun _ _ z => False.elim z
end
section
variable {X : Cx} {st : Stmt} {zcM : List Stmt} {t u : TS} {e : Expr} {te : zw8} {pos : Pos}
def zst : TS := fun D σ H => D.nx σ H
def zty (t u : TS) : TS := fun D σ H => t { D with nx := u D } σ H
theorem zpt : zvB X [] zst := fun _ _ σ H _ I h => wpAny_execs_nil ⟨σ, H, I, h⟩
theorem znr (h1 : zwG X st t) (h2 : zvB X zcM u) : zvB X (st :: zcM) (zty t u) := by
 intro pins s σ H D I h
 refine wpAny_execs_cons (zt9 (h1 pins s σ H { D with nx := u D } I h) fun f s1 q => ?_)
 cases f with
 | next =>
  obtain ⟨σ', H', I', q⟩ := q
  exact h2 pins s1 σ' H' D I' q
 | ret v => exact q
 | brk => exact q
 | cont => exact q
theorem zps (h1 : zwG X st t) : zvB X [st] t := by
 intro pins s σ H D I h
 refine wpAny_execs_cons (zt9 (h1 pins s σ H D I h) fun f s1 q => ?_)
 cases f with
 | next => exact wpAny_execs_nil q
 | ret v => exact q
 | brk => exact q
 | cont => exact q
theorem Inv.quiet {pins : List (Addr × Obj)} {σ : zxd} {H : zxg} {s : Shared} (I : Inv X pins σ H s) : interactive X.env = false := by simp [interactive, I.ok.kind]
def zsw (te : zw8) : TS := fun D σ H => te σ H fun _ H1 => D.nx σ H1
theorem zjn (he : zxb X e te) (hs : swapsWith e none pos.line X.env = pure false := by rfl) : zwG X (.Expr e pos) (zsw te) := by
 intro pins s σ H D I h
 exact wpAny_Expr_any (zt9 (he pins s σ H _ I h) fun v s1 ⟨x, H1, I1, r1, q1⟩ => ⟨σ, H1, I1, q1⟩) I.quiet hs
def ztz (te : zw8) : TS := fun D σ H => te σ H D.rt
theorem zlD (he : zxb X e te) : zwG X (.Return (some e) pos) (ztz te) := by
 intro pins s σ H D I h
 exact wpAny_Return_some (zt9 (he pins s σ H _ I h) fun v s1 ⟨x, H1, I1, r1, q1⟩ => ⟨x, σ, H1, I1, r1, q1⟩)
def ztD (c : zwT) (t u : TS) : TS := fun D σ H => c σ H fun b H1 => if b = true then t D σ H1 else u D σ H1
theorem zsG {c : Expr} {a b : List Stmt} {tc : zwT} (hc : zwK X c tc) (ha : zvB X a t) (hb : zvB X b u) : zwG X (.If c a b pos) (ztD tc t u) := by
 intro pins s σ H D I h
 refine wpAny_If (zt9 (hc pins s σ H _ I h) fun d s1 ⟨H1, I1, q1⟩ => ?_)
 cases d with
 | true => exact ha pins s1 σ H1 D I1 q1
 | false => exact hb pins s1 σ H1 D I1 q1
end
abbrev zwF := V -> zxd -> zxg -> (zxd -> zxg -> Prop) -> Prop
abbrev zvo := List V -> zxd -> zxg -> (zxd -> zxg -> Prop) -> Prop
def zwt (X : Cx) (target : Expr) (t : zwF) : Prop :=
 ∀ (pins : List (Addr × Obj)) (s : Shared) (σ : zxd) (H : zxg) (v : V) (u : Value) (Q : zxd -> zxg -> Prop), Inv X pins σ H s -> zb6 v u -> t v σ H Q ->
  wpAny (model X.prog X.w) X.A (assign target X.env u) (fun _ s' => ∃ σ' H', Inv X pins σ' H' s' /\ Q σ' H') X.xe s
def zvD (X : Cx) (ts : List Expr) (t : zvo) : Prop :=
 ∀ (pins : List (Addr × Obj)) (s : Shared) (σ : zxd) (H : zxg) (vs : List V) (us : List Value) (Q : zxd -> zxg -> Prop), Inv X pins σ H s -> zcb vs us -> t vs σ H Q ->
  wpAny (model X.prog X.w) X.A (assignInOrder ((assignEach ts X.env).map (·.2)) us) (fun _ s' => ∃ σ' H', Inv X pins σ' H' s' /\ Q σ' H') X.xe s
section
variable {X : Cx} {pos : Pos}
def zmk (i : Nat) : zwF := fun v σ H Q => Q (σ.set i (some v)) H
theorem zpC {i : Nat} {x : Str} (hN : X.N.Nodup) (hi : X.N[i]? = some x) (hx : zvI X.env.scope x) (hf : X.fn x = true \/ X.env.scope.names.lookup x = some .local := by first | exact .inl rfl | exact .inr rfl | assumption) : zwt X (.Name x pos) (zmk i) := by
 intro pins s σ H v u Q I r h
 exact wpAny_assign_Name (zj5 I hN hi hx r (fun s' I' => ⟨_, H, I', h⟩) hf)
def ztP : zvo := fun vs σ H Q => vs = [] /\ Q σ H
def zsV (t : zwF) (u : zvo) : zvo := fun vs σ H Q => ∃ v r, vs = v :: r /\ t v σ H fun σ' H' => u r σ' H' Q
theorem zpB : zvD X [] ztP := by
 intro pins s σ H vs us Q I r h
 obtain ⟨e, h⟩ := h
 subst e
 cases r
 exact assignInOrder_nil ⟨σ, H, I, h⟩
theorem znw {e : Expr} {es : List Expr} {t : zwF} {u : zvo} (h1 : zwt X e t) (h2 : zvD X es u)
  (hs : (assignEach (e :: es) X.env).map (·.2) = assign e X.env :: (assignEach es X.env).map (·.2) := by rfl) : zvD X (e :: es) (zsV t u) := by
 intro pins s σ H vs us Q I r h
 obtain ⟨v, vr, e1, h⟩ := h
 subst e1
 cases r with
 | cons r rr =>
  rw [hs]
  refine assignInOrder_cons (zt9 (h1 pins s σ H _ _ _ I r h) fun _ s1 ⟨σ1, H1, I1, q1⟩ => ?_)
  exact h2 pins s1 σ1 H1 _ _ Q I1 rr q1
def ztO (K : PySem.W.Frag) (n : Nat) (t : zvo) : zwF := fun v σ H Q => ∃ a xs, v = .ref a /\ zvx K H a xs /\ xs.length = n /\ t xs σ H Q
theorem zri {es : List Expr} {k : Nat} {t : zvo} {n : Nat} (hc : X.calm = true) (h : zvD X es t)
  (hn : (assignEach es X.env).length = n := by rfl) (hst : (assignEach es X.env).findIdx? (·.1) = none := by rfl) : zwt X (.Tuple es k pos) (ztO X.K n t) := by
 intro pins s σ H v u Q I r hw
 obtain ⟨a, xs, e1, hq, hl, hw⟩ := hw
 subst e1
 cases r
 obtain ⟨its, rv, ht, hz⟩ := I.tuple hq
 refine assign_Tuple_tuple (I.ok.hd hc) ht (by simp [hn, ← hl, rv.length]) hst fun h' hx => ?_
 have I1 : Inv X pins σ H { s with heap := h' } := I.kept (t' := s.toks) fun b o e => hx b o (Nat.ne_of_lt (Heap.lt_size e)) e
 exact h pins _ σ H xs _ Q I1 (by simpa using rv) hw
def zsj (te : zw8) (g : zwF) : TS := fun D σ H => te σ H fun x H1 => g x σ H1 D.nx
theorem zlC {i : Nat} {x : Str} {e : Expr} {te : zw8} {pos' : Pos} (hN : X.N.Nodup) (hi : X.N[i]? = some x) (hx : zvI X.env.scope x) (he : zxb X e te) (hs : swapsWith e (some (.Name x pos')) pos.line X.env = pure false := by rfl) (hf : X.fn x = true \/ X.env.scope.names.lookup x = some .local := by first | exact .inl rfl | exact .inr rfl | assumption) :
  zwG X (.Assign [.Name x pos'] e pos) (zsj te (zmk i)) := by
 intro pins s σ H D I h
 refine wpAny_Assign_Name (zt9 (he pins s σ H _ I h) fun v s1 ⟨y, H1, I1, r1, q1⟩ => ?_) hs
 exact zj5 I1 hN hi hx r1 (fun s2 I2 => ⟨_, H1, I2, q1⟩) hf
end
section
variable {X : Cx} {pos : Pos}
end
structure It where
 go : Nat -> zxg -> Prop
 yld : Nat -> zxg -> V -> zxg -> Prop
 stop : Nat -> zxg -> Prop
def zld (X : Cx) (pins : List (Addr × Obj)) (H : zxg) (b : Addr) : Prop :=
 H b = none /\ b ≠ X.env.locals /\ b ∉ X.fs /\ (b ∈ X.ex \/ X.s₀.heap.objs.size <= b) /\ (∀ x c, X.env.cells.lookup x = some c -> c ≠ b) /\ ∀ p ∈ X.pn ++ pins, p.1 ≠ b
theorem Inv.fpOk {X : Cx} {pins : List (Addr × Obj)} {σ : zxd} {H H' : zxg} {s : Shared} {b : Addr} (I : Inv X pins σ H s) (hb : s.heap.objs.size <= b) (hn : H' b = none) : zld X pins H' b := by
 refine ⟨hn, Nat.ne_of_gt (Nat.lt_of_lt_of_le I.lt hb), I.nofs hb, .inr (Nat.le_trans I.sz hb), fun x c e z => ?_, fun p hp z => ?_⟩
 ·obtain ⟨v, q⟩ := I.cell x c e
  exact absurd (Nat.lt_of_lt_of_le q.lt (by rw [z]; exact hb)) (Nat.lt_irrefl _)
 ·exact absurd (Nat.lt_of_lt_of_le (Heap.lt_size (I.pin p hp).1) (by rw [z]; exact hb)) (Nat.lt_irrefl _)
structure Turn (P : Program) (w : World) (K : PySem.W.Frag) (tg : Expr) (zxi : It) (fp : List Addr) (zxf : Addr) (tn : Nat -> Heap -> Prop) : Prop where
 mem : zxf ∈ fp
 obj : ∀ i h, tn i h -> ∀ b ∈ fp, ∃ o, h.get? b = some o /\ ∀ v, o.data ≠ .cell v
 keep : ∀ i h h', tn i h -> (∀ b ∈ fp, ∀ o, h.get? b = some o -> h'.get? b = some o) -> tn i h'
 item : ∀ (X : Cx), X.prog = P -> X.w = w -> X.K = K -> X.calm = true -> ∀ (i : Nat) (pins : List (Addr × Obj)) (s : Shared) (σ : zxd) (H : zxg) (E : Value -> Shared -> Prop), Inv X pins σ H s -> (∀ b ∈ fp, zld X pins H b) -> tn i s.heap -> zxi.go i H ->
  wpAny (model P w) X.A (pyNext (.ref zxf)) (fun r s1 => ∃ u, r = some u /\
   wpAny (model P w) X.A (letOwnedTupleGo tg (.ref zxf) u) (fun _ s2 => ∃ x H', Inv X pins σ H' s2 /\ zb6 x u /\ zxi.yld i H x H' /\ tn (i + 1) s2.heap /\ ∀ b ∈ fp, H' b = none) E s1) E s
 done : ∀ (X : Cx), X.prog = P -> X.w = w -> X.K = K -> X.calm = true -> ∀ (i : Nat) (pins : List (Addr × Obj)) (s : Shared) (σ : zxd) (H : zxg) (E : Value -> Shared -> Prop), Inv X pins σ H s -> (∀ b ∈ fp, zld X pins H b) -> tn i s.heap -> zxi.stop i H ->
  wpAny (model P w) X.A (pyNext (.ref zxf)) (fun r s1 => r = none /\ Inv X pins σ H s1) E s
 self : ∀ (A : Around) (i : Nat) (s : Shared) (Q : Value -> Shared -> Prop) (E : Value -> Shared -> Prop), tn i s.heap -> Q (.ref zxf) s -> wpAny (model P w) A (pyIter (.ref zxf)) Q E s
abbrev zwz := zxd -> zxg -> (It -> zxg -> Prop) -> Prop
def zvC (X : Cx) (pins : List (Addr × Obj)) (σ : zxd) (tg : Expr) (R : It -> zxg -> Prop) (itv : Value) (s2 : Shared) : Prop :=
 ∃ (zxf : Addr) (fp : List Addr) (tn : Nat -> Heap -> Prop) (zxi : It) (H' : zxg), itv = .ref zxf /\ Inv X pins σ H' s2 /\ Turn X.prog X.w X.K tg zxi fp zxf tn /\ tn 0 s2.heap /\ (∀ b ∈ fp, zld X pins H' b) /\ R zxi H'
def zwC (X : Cx) (tg iter : Expr) (wi : zwz) : Prop :=
 ∀ (pins : List (Addr × Obj)) (s : Shared) (σ : zxd) (H : zxg) (R : It -> zxg -> Prop), Inv X pins σ H s -> wi σ H R ->
  wpAny (model X.prog X.w) X.A (eval iter X.env) (fun v s1 => wpAny (model X.prog X.w) X.A (pyIter v) (zvC X pins σ tg R) X.xe s1) X.xe s
theorem zqf {M : Model} {A : Around} {E : Value -> Shared -> Prop} {s : Shared} {tg : Expr} {zxf : Addr} {u : Value} {o : Obj} {n : String} {vs : Array Value} {Q : Unit -> Shared -> Prop} (ho : s.heap.get? zxf = some o) (hc : o.cls = .type n) (hd : o.data = .fields vs)
  (hn : ["enumerate", "zip", "dict_itemiterator", "dict_reverseitemiterator", "odict_iterator", "itertools.zip_longest", "itertools.pairwise"].contains n = false) (hQ : Q () s) : wpAny M A (letOwnedTupleGo tg (.ref zxf) u) Q E s := by
 unfold letOwnedTupleGo
 cases tg <;> first
  | exact wpAny_pure hQ
  | (cases u <;> first
    | exact wpAny_pure hQ
    | (refine wpAny_bind (wpAny_load ho ?_); rw [hc, hd]; show wpAny M A (if (["enumerate", "zip", "dict_itemiterator", "dict_reverseitemiterator", "odict_iterator", "itertools.zip_longest", "itertools.pairwise"].contains n && vs[0]? == some (rawInt _)) = true then _ else _) Q E s; rw [if_neg (by intro h; rw [hn, Bool.false_and] at h; cases h)]; exact wpAny_pure hQ))
def zvQ (K : PySem.W.Frag) (a : Addr) : It :=
 ⟨fun i H => ∃ xs x, zvy K H a xs /\ xs[i]? = some x, fun i H x H' => H' = H /\ ∀ xs, zvy K H a xs -> xs[i]? = some x, fun i H => ∃ xs, zvy K H a xs /\ xs.length <= i⟩
def zvN (K : PySem.W.Frag) (a : Addr) : It :=
 ⟨fun i H => ∃ xs x, zvx K H a xs /\ xs[i]? = some x, fun i H x H' => H' = H /\ ∀ xs, zvx K H a xs -> xs[i]? = some x, fun i H => ∃ xs, zvx K H a xs /\ xs.length <= i⟩
def zvP (lo : Int) (n : Nat) : It := ⟨fun i _ => i < n, fun i H x H' => H' = H /\ x = .int (lo + i), fun i _ => n <= i⟩
theorem zlj {P : Program} {w : World} {K : PySem.W.Frag} {tg : Expr} (a zxf : Addr) : Turn P w K tg (zvQ K a) [zxf] zxf (fun i h => h.IsListIter zxf a i) where
 mem := by simp
 obj := fun i h st b hb => by
  have e : b = zxf := by simpa using hb
  subst e
  obtain ⟨o, e, c, d⟩ := st
  exact ⟨o, e, fun v z => by rw [d] at z; cases z⟩
 keep := fun i h h' st k => st.at fun o e => k zxf (by simp) o e
 item := by
  intro X hP hw hK hc i pins s σ H E I hf st hg
  subst hP hw hK
  obtain ⟨xs, x, hq, hx⟩ := hg
  obtain ⟨its, rv, p, hz⟩ := I.list hq
  obtain ⟨u, hu, ru⟩ := rv.get hx
  obtain ⟨f0, f1, f2, f3, f4, f5⟩ := hf zxf (by simp)
  refine wpAny_pyNext_list_item st p.isList (x := u) (by simpa using hu) fun h' st' sb => ?_
  have I1 : Inv X pins σ H { s with heap := h' } := I.turned (t' := s.toks) (fun b o hb e => (sb.2 b hb).trans e) f0 f1 f3 f4 f5
  obtain ⟨o, e, c, d⟩ := id st'
  exact ⟨u, rfl, zqf (s := { s with heap := h' }) e c d (by decide) ⟨x, H, I1, ru, ⟨rfl, fun ys hy => by rw [I.list_inj hy hq]; exact hx⟩, st', fun b hb => (hf b hb).1⟩⟩
 done := by
  intro X hP hw hK hc i pins s σ H E I hf st hg
  subst hP hw hK
  obtain ⟨xs, hq, hx⟩ := hg
  obtain ⟨its, rv, p, hz⟩ := I.list hq
  obtain ⟨f0, f1, f2, f3, f4, f5⟩ := hf zxf (by simp)
  have hl := rv.length
  exact wpAny_pyNext_list_end (I.ok.hd hc) st p.isList (by simp; omega) fun h' eb => ⟨rfl, I.turned (t' := s.toks) (fun b o hb e => eb b o hb e) f0 f1 f3 f4 f5⟩
 self := fun _ _ _ _ _ st h => wpAny_pyIter_listiter st h
theorem zkD {P : Program} {w : World} {K : PySem.W.Frag} {tg : Expr} (a zxf : Addr) : Turn P w K tg (zvN K a) [zxf] zxf (fun i h => h.IsTupleIter zxf a i) where
 mem := by simp
 obj := fun i h st b hb => by
  have e : b = zxf := by simpa using hb
  subst e
  obtain ⟨o, e, c, d⟩ := st
  exact ⟨o, e, fun v z => by rw [d] at z; cases z⟩
 keep := fun i h h' st k => st.at fun o e => k zxf (by simp) o e
 item := by
  intro X hP hw hK hc i pins s σ H E I hf st hg
  subst hP hw hK
  obtain ⟨xs, x, hq, hx⟩ := hg
  obtain ⟨its, rv, p, hz⟩ := I.tuple hq
  obtain ⟨u, hu, ru⟩ := rv.get hx
  obtain ⟨f0, f1, f2, f3, f4, f5⟩ := hf zxf (by simp)
  refine wpAny_pyNext_tuple_item st (show s.heap.IsTuple a its.toArray from p) (x := u) (by simpa using hu) fun h' st' sb => ?_
  have I1 : Inv X pins σ H { s with heap := h' } := I.turned (t' := s.toks) (fun b o hb e => (sb.2 b hb).trans e) f0 f1 f3 f4 f5
  obtain ⟨o, e, c, d⟩ := id st'
  exact ⟨u, rfl, zqf (s := { s with heap := h' }) e c d (by decide) ⟨x, H, I1, ru, ⟨rfl, fun ys hy => by rw [I.tuple_inj hy hq]; exact hx⟩, st', fun b hb => (hf b hb).1⟩⟩
 done := by
  intro X hP hw hK hc i pins s σ H E I hf st hg
  subst hP hw hK
  obtain ⟨xs, hq, hx⟩ := hg
  obtain ⟨its, rv, p, hz⟩ := I.tuple hq
  obtain ⟨f0, f1, f2, f3, f4, f5⟩ := hf zxf (by simp)
  have hl := rv.length
  exact wpAny_pyNext_tuple_end (I.ok.hd hc) st (show s.heap.IsTuple a its.toArray from p) (by simp; omega) fun h' eb => ⟨rfl, I.turned (t' := s.toks) (fun b o hb e => eb b o hb e) f0 f1 f3 f4 f5⟩
 self := fun _ _ _ _ _ st h => wpAny_pyIter_tupleiter st h
theorem zkE {P : Program} {w : World} {K : PySem.W.Frag} {tg : Expr} (zxf : Addr) (lo : Int) (n : Nat) : Turn P w K tg (zvP lo n) [zxf] zxf (fun i h => IsRangeIter h zxf (lo + (i : Nat) * 1) ((n : Int) - (i : Nat)) 1) where
 mem := by simp
 obj := fun i h st b hb => by
  have e : b = zxf := by simpa using hb
  subst e
  exact ⟨_, st, fun v z => by
   have z' : Data.fields _ = Data.cell v := z
   cases z'⟩
 keep := fun i h h' st k => k zxf (by simp) _ st
 item := by
  intro X hP hw hK hc i pins s σ H E I hf st hg
  subst hP hw hK
  obtain ⟨f0, f1, f2, f3, f4, f5⟩ := hf zxf (by simp)
  have W := Walks.range (prog := X.prog) (w := X.w) (I.ok.hd hc) zxf lo 1 n
  refine W.item i s _ _ hg st fun v h' tk hv st' kk => ?_
  obtain ⟨t, rfl⟩ := hv
  have I1 : Inv X pins σ H { s with heap := h', toks := tk } := I.turned (fun b o hb e => kk b o (by simpa using hb) e) f0 f1 f3 f4 f5
  refine ⟨_, rfl, zqf (s := { s with heap := h', toks := tk }) (n := "range_iterator") st' rfl rfl (by decide) ⟨.int (lo + i), H, I1, ⟨t, ?_⟩, ⟨rfl, rfl⟩, st', fun b hb => (hf b hb).1⟩⟩
  rw [Int.mul_one]
 done := by
  intro X hP hw hK hc i pins s σ H E I hf st hg
  subst hP hw hK
  obtain ⟨f0, f1, f2, f3, f4, f5⟩ := hf zxf (by simp)
  exact wpAny_pyNext_range_end (I.ok.hd hc) st (by have : n <= i := hg; omega) fun h' eb => ⟨rfl, I.turned (t' := s.toks) (fun b o hb e => eb b o hb e) f0 f1 f3 f4 f5⟩
 self := fun _ _ _ _ _ st h => wpAny_pyIter_rangeiter st h
end L2
namespace L2
open PySem PySem.Spec PyProof.Rows
section
variable {X : Cx} {tg : Expr}
theorem zj9 {pins : List (Addr × Obj)} {σ : zxd} {H : zxg} {s : Shared} {R : It -> zxg -> Prop} {E : Value -> Shared -> Prop} {lo hi : Int} {t u v : Tok} {tk : Nat} (I : Inv X pins σ H s) (h1 : -(2 ^ 62) <= lo) (h2 : lo < 2 ^ 62) (h3 : -(2 ^ 62) <= hi) (h4 : hi < 2 ^ 62)
  (q : R (zvP lo (hi - lo).toNat) H) : wpAny (model X.prog X.w) X.A (pyIter (.ref s.heap.objs.size)) (zvC X pins σ tg R) E { s with heap := s.heap.push { cls := .type "range", data := .fields #[.int lo t, .int hi u, .int 1 v] }, toks := tk } := by
 refine wpAny_pyIter_range (IsRange.new ..) (small_one h1 h2 h3 h4) ?_
 have I1 : Inv X pins σ H { s with heap := s.heap.push { cls := .type "range", data := .fields #[.int lo t, .int hi u, .int 1 v] }, toks := tk } := I.kept fun b o e => Heap.get?_push_of_some _ e
 refine ⟨(s.heap.push { cls := .type "range", data := .fields #[.int lo t, .int hi u, .int 1 v] }).objs.size, [(s.heap.push { cls := .type "range", data := .fields #[.int lo t, .int hi u, .int 1 v] }).objs.size], _, _, H, rfl,
  I1.kept (t' := tk) fun b o e => Heap.get?_push_of_some _ e, zkE _ lo (hi - lo).toNat, ?_, fun b hb => ?_, q⟩
 ·have e1 : lo + ((0 : Nat) : Int) * 1 = lo := by simp
  have e2 : (((hi - lo).toNat : Nat) : Int) - ((0 : Nat) : Int) = Builtin.Range.rangeSize lo hi 1 := by rw [rangeSize_one]; split <;> omega
  show IsRangeIter _ _ (lo + ((0 : Nat) : Int) * 1) ((((hi - lo).toNat : Nat) : Int) - ((0 : Nat) : Int)) 1
  rw [e1, e2]
  exact Heap.get?_push_size _ rfl
 ·have e : b = (s.heap.push { cls := .type "range", data := .fields #[.int lo t, .int hi u, .int 1 v] }).objs.size := by simpa using hb
  subst e
  exact I1.fpOk (Nat.le_refl _) (I1.hok.fresh (Nat.le_refl _))
def zsT (ta : zwS) : zwz := fun σ H R => ta σ H fun vs H1 => ∃ j : Int, vs = [.int j] /\ -(2 ^ 62) <= j /\ j < 2 ^ 62 /\ R (zvP 0 j.toNat) H1
def zsS (ta : zwS) : zwz := fun σ H R => ta σ H fun vs H1 => ∃ i j : Int, vs = [.int i, .int j] /\ (-(2 ^ 62) <= i /\ i < 2 ^ 62 /\ -(2 ^ 62) <= j /\ j < 2 ^ 62) /\ R (zvP i (j - i).toNat) H1
theorem zlG {a : Expr} {ta : zwS} {p pos : Pos} (hg : zwU X "range") (hm : X.mg "range" = none) (ha : zwN X [a] ta) (hs : starEach [a] X.env = [(false, eval a X.env)] := by rfl) : zwC X tg (.Call (.Name "range" p) [a] [] pos) (zsT ta) := by
 intro pins s σ H R I h
 refine Call_ (zhn I hg hm boot_range (PyProof.Rows.callWith_type1 (zt9 (ha pos pins s σ H _ I h) fun us s1 ⟨vs, H1, I1, r1, q1⟩ => ?_) hs rfl))
 obtain ⟨j, e, q1, q2, q⟩ := q1
 subst e
 cases r1 with
 | cons r rr =>
  cases rr
  obtain ⟨t, rfl⟩ := r
  exact call_range_1 (zj9 I1 (by omega) (by omega) q1 q2 (by simpa using q))
theorem zlF {a b : Expr} {ta : zwS} {p pos : Pos} (hg : zwU X "range") (hm : X.mg "range" = none) (ha : zwN X [a, b] ta) (hs : starEach [a, b] X.env = [(false, eval a X.env), (false, eval b X.env)] := by rfl) (hs2 : starEach [b] X.env = [(false, eval b X.env)] := by rfl) :
  zwC X tg (.Call (.Name "range" p) [a, b] [] pos) (zsS ta) := by
 intro pins s σ H R I h
 refine Call_ (zhn I hg hm boot_range (PyProof.Rows.callWith_type1 (zt9 (ha pos pins s σ H _ I h) fun us s1 ⟨vs, H1, I1, r1, q1⟩ => ?_) (by rw [hs, hs2]) (by rw [hs2]; rfl)))
 obtain ⟨i, j, e, ⟨q1, q2, q3, q4⟩, q⟩ := q1
 subst e
 cases r1 with
 | cons r rr =>
  cases rr with
  | cons r' rr =>
   cases rr
   obtain ⟨t, rfl⟩ := r
   obtain ⟨t', rfl⟩ := r'
   exact call_range_2 (zj9 I1 q1 q2 q3 q4 q)
def ztE (wi : zwz) (g : zwF) (tb : TS) : TS := fun D σ H => wi σ H fun zxi H1 => ∃ W : Nat -> Nat -> zxd -> zxg -> Prop, (∃ m, W 0 m σ H1) /\ ∀ i m σ H, W i m σ H ->
 (zxi.stop i H /\ D.nx σ H) \/ (zxi.go i H /\ ∃ N : zxd -> zxg -> Prop, (∀ σ' H', N σ' H' -> ∃ m', m' < m /\ W (i + 1) m' σ' H') /\ ∀ x H', zxi.yld i H x H' -> g x σ H' fun σ2 H2 => tb { D with nx := N, ct := N, bk := D.nx } σ2 H2)
def ziA (fp : List Addr) (h : Heap) : List (Addr × Obj) := fp.filterMap fun b => (h.get? b).map fun o => (b, o)
theorem zdV {fp : List Addr} {h : Heap} {b : Addr} {o : Obj} (hb : b ∈ fp) (e : h.get? b = some o) : (b, o) ∈ ziA fp h := List.mem_filterMap.mpr ⟨b, hb, by rw [e]; rfl⟩
theorem zlO {fp : List Addr} {h : Heap} {p : Addr × Obj} (hp : p ∈ ziA fp h) : p.1 ∈ fp /\ h.get? p.1 = some p.2 := by
 obtain ⟨b, hb, e⟩ := List.mem_filterMap.mp hp
 cases q : h.get? b with
 | none => rw [q] at e; cases e
 | some o =>
  rw [q] at e
  have e' : (b, o) = p := Option.some.inj e
  subst e'
  exact ⟨hb, q⟩
theorem Inv.pinned {pins : List (Addr × Obj)} {σ : zxd} {H : zxg} {s : Shared} {fp : List Addr} (I : Inv X pins σ H s) (hf : ∀ b ∈ fp, zld X pins H b) (ho : ∀ b ∈ fp, ∃ o, s.heap.get? b = some o /\ ∀ v, o.data ≠ .cell v) : Inv X (pins ++ ziA fp s.heap) σ H s :=
 I.pins_of fun p hp => (List.mem_append.mp hp).elim (fun z => I.pin p (List.mem_append_right _ z)) fun z => by
  obtain ⟨hb, e⟩ := zlO z
  obtain ⟨f0, f1, f2, _⟩ := hf p.1 hb
  obtain ⟨o, e', d⟩ := ho p.1 hb
  rw [e] at e'; cases e'
  exact ⟨e, f0, f1, f2, d⟩
theorem Inv.unpinned {pins pl : List (Addr × Obj)} {σ : zxd} {H : zxg} {s : Shared} (I : Inv X (pins ++ pl) σ H s) : Inv X pins σ H s := I.pins_of fun p hp => I.pin p (List.mem_append_right _ (List.mem_append_left _ hp))
theorem zrd {iter : Expr} {body : List Stmt} {wi : zwz} {g : zwF} {tb : TS} {pos : Pos} (hp : PassesOwn (model X.prog X.w) X.A X.env X.xe) (hc : X.calm = true) (hi : zwC X tg iter wi) (hg : zwt X tg g) (hb : zvB X body tb)
  (hs : ∀ x, foldedSetIterable iter X.env x = pure x := by intro _; rfl) : zwG X (.For tg iter body [] pos) (ztE wi g tb) := by
 intro pins s σ H D I h
 refine wpAny_For (zt9 (hi pins s σ H _ I h) fun v s1 h1 => zt9 h1 fun itv s2 h2 => ?_) hs
 obtain ⟨zxf, fp, tn, zxi, H2, e, I2, T, st2, f2, W, ⟨m0, w0⟩, turn⟩ := h2
 subst e
 have stat : ∀ {H' : zxg}, (∀ b ∈ fp, H' b = none) -> ∀ b ∈ fp, zld X pins H' b := fun hn b hb => ⟨hn b hb, (f2 b hb).2⟩
 refine codeAny_forLoop_any (fun n s' => ∃ i σ' H', Inv X pins σ' H' s' /\ tn i s'.heap /\ (∀ b ∈ fp, H' b = none) /\ W i n σ' H') ?_ m0 ⟨0, σ, H2, I2, st2, fun b hb => (f2 b hb).1, w0⟩
 rintro n s3 ⟨i, σ3, H3, I3, st3, fr3, w3⟩
 rcases turn i n σ3 H3 w3 with ⟨stop, qn⟩ | ⟨go, N, hN, step⟩
 ·refine wpAny_passesOwn hp (zt9 (T.done X rfl rfl rfl hc i pins s3 σ3 H3 X.xe I3 (stat fr3) st3 stop) fun r s4 ⟨hr, I4⟩ => ?_)
  subst hr
  exact wpAny_execs_nil ⟨σ3, H3, I4, qn⟩
 ·refine wpAny_passesOwn hp (zt9 (T.item X rfl rfl rfl hc i pins s3 σ3 H3 X.xe I3 (stat fr3) st3 go) fun r s4 ⟨u, hr, h4⟩ => ?_)
  subst hr
  refine wpAny_passesOwn hp (zt9 h4 fun _ s5 ⟨x, H5, I5, r5, y5, st5, fr5⟩ => ?_)
  have I5' := I5.pinned (stat fr5) (T.obj _ _ st5)
  refine wpAny_passesOwn hp (zt9 (hg _ s5 σ3 H5 x u _ I5' r5 (step x H5 y5)) fun _ s6 ⟨σ6, H6, I6, q6⟩ => ?_)
  refine wpAny_passesOwn hp (zt9 (hb _ s6 σ6 H6 _ I6 q6) fun f s7 q7 => ?_)
  have again : ∀ {σ7 : zxd} {H7 : zxg}, Inv X (pins ++ ziA fp s5.heap) σ7 H7 s7 -> N σ7 H7 -> ∃ m, m < n /\ ∃ i σ' H', Inv X pins σ' H' s7 /\ tn i s7.heap /\ (∀ b ∈ fp, H' b = none) /\ W i m σ' H' := fun {σ7 H7} I7 n7 => by
   obtain ⟨m', hm, w7⟩ := hN σ7 H7 n7
   refine ⟨m', hm, i + 1, σ7, H7, I7.unpinned, T.keep _ _ _ st5 fun b hb o e => (I7.pin (b, o) (List.mem_append_right _ (List.mem_append_right _ (zdV hb e)))).1, fun b hb => ?_, w7⟩
   obtain ⟨o, e, d⟩ := T.obj _ _ st5 b hb
   exact (I7.pin (b, o) (List.mem_append_right _ (List.mem_append_right _ (zdV hb e)))).2.1
  cases f with
  | next => obtain ⟨σ7, H7, I7, n7⟩ := q7; exact again I7 n7
  | cont => obtain ⟨σ7, H7, I7, n7⟩ := q7; exact again I7 n7
  | brk => obtain ⟨σ7, H7, I7, q7⟩ := q7; exact ⟨σ7, H7, I7.unpinned, q7⟩
  | ret v => obtain ⟨x7, σ7, H7, I7, r7, q7⟩ := q7; exact ⟨x7, σ7, H7, I7.unpinned, r7, q7⟩
end
end L2
namespace L2
open PySem PySem.Spec PyProof.Rows
abbrev zwW := V -> V -> zxg -> zw3 -> Prop
def zvE (X : Cx) (f : Value -> Value -> Sem Value) (r : zwW) : Prop :=
 ∀ (pins : List (Addr × Obj)) (s : Shared) (σ : zxd) (H : zxg) (x y : V) (v u : Value) (Q : zw3), Inv X pins σ H s -> zb6 x v -> zb6 y u -> r x y H Q ->
  wpAny (model X.prog X.w) X.A (f v u) (zwP X pins σ Q) X.xe s
def zeZ (X : Cx) (f : Value) (r : List V -> zxg -> zw3 -> Prop) : Prop :=
 ∀ (pins : List (Addr × Obj)) (s : Shared) (σ : zxd) (H : zxg) (xs : List V) (us : List Value) (Q : zw3), Inv X pins σ H s -> zcb xs us -> r xs H Q ->
  wpAny (model X.prog X.w) X.A (call f us) (zwP X pins σ Q) X.xe s
def ztS (X : Cx) (r : V -> zxg -> (Bool -> zxg -> Prop) -> Prop) : Prop :=
 ∀ (pins : List (Addr × Obj)) (s : Shared) (σ : zxd) (H : zxg) (x : V) (v : Value) (Q : Bool -> zxg -> Prop), Inv X pins σ H s -> zb6 x v -> r x H Q ->
  wpAny (model X.prog X.w) X.A (truthy v) (zwc X pins σ Q) X.xe s
def zuc (r : zwW) (ta tb : zw8) : zw8 := fun σ H Q => ta σ H fun x H1 => tb σ H1 fun y H2 => r x y H2 Q
def zwk (C : Int -> Int -> Prop) (g : Int -> Int -> V) : zwW := fun x y H Q => ∃ i j, x = .int i /\ y = .int j /\ C i j /\ Q (g i j) H
def zuz (g : Int -> Int -> V) : zwW := fun x y H Q => ∃ i j, x = .int i /\ y = .int j /\ Q (g i j) H
section
variable {X : Cx} {a b c : Expr} {ta tb tc : zw8} {pos : Pos}
theorem zs5 (ha : zxb X a ta) (hb : zxb X b tb) {pins : List (Addr × Obj)} {s : Shared} {σ : zxd} {H : zxg} {R : V -> V -> zxg -> Prop} (I : Inv X pins σ H s)
  (h : ta σ H fun x H1 => tb σ H1 fun y H2 => R x y H2) {Q : Value -> Shared -> Prop} {f : Value -> Value -> Sem Value}
  (hf : ∀ v u s2 x y H2, Inv X pins σ H2 s2 -> zb6 x v -> zb6 y u -> R x y H2 -> wpAny (model X.prog X.w) X.A (f v u) Q X.xe s2) :
  wpAny (model X.prog X.w) X.A (eval a X.env) (fun v s₁ => wpAny (model X.prog X.w) X.A (eval b X.env) (fun u s₂ => wpAny (model X.prog X.w) X.A (f v u) Q X.xe s₂) X.xe s₁) X.xe s := by
 refine zt9 (ha pins s σ H _ I h) fun v s1 ⟨x, H1, I1, r1, q1⟩ => ?_
 refine zt9 (hb pins s1 σ H1 _ I1 q1) fun u s2 ⟨y, H2, I2, r2, q2⟩ => ?_
 exact hf v u s2 x y H2 I2 r1 r2 q2
theorem zsH {op : Operator} {r : zwW} (ho : zvE X (binaryOp op) r) (ha : zxb X a ta) (hb : zxb X b tb) : zxb X (.BinOp a op b pos) (zuc r ta tb) := by
 intro pins s σ H Q I h
 exact wpAny_BinOp (zs5 ha hb I h fun v u s2 x y H2 I2 rx ry q => ho pins s2 σ H2 x y v u Q I2 rx ry q)
theorem zuH {f : Value -> Value -> Sem Value} {C : Int -> Int -> Prop} {g : Int -> Int -> Int}
  (rule : ∀ (i j : Int) (t u : Tok) (s : Shared) (Q : Value -> Shared -> Prop) (E : Value -> Shared -> Prop), C i j -> Q (.int (g i j) s.toks) { s with toks := s.toks + 1 } -> wpAny (model X.prog X.w) X.A (f (.int i t) (.int j u)) Q E s) :
  zvE X f (zwk C fun i j => .int (g i j)) := by
 intro pins s σ H x y v u Q I rx ry h
 obtain ⟨i, j, rfl, rfl, hc, q⟩ := h
 obtain ⟨t, rfl⟩ := rx
 obtain ⟨t', rfl⟩ := ry
 exact rule i j t t' s _ _ hc ⟨.int (g i j), H, I.tok _, ⟨_, rfl⟩, q⟩
theorem ztm {f : Value -> Value -> Sem Value} {g : Int -> Int -> Int}
  (rule : ∀ (i j : Int) (t u : Tok) (s : Shared) (Q : Value -> Shared -> Prop) (E : Value -> Shared -> Prop), Q (.int (g i j) s.toks) { s with toks := s.toks + 1 } -> wpAny (model X.prog X.w) X.A (f (.int i t) (.int j u)) Q E s) :
  zvE X f (zuz fun i j => .int (g i j)) := by
 intro pins s σ H x y v u Q I rx ry h
 obtain ⟨i, j, rfl, rfl, q⟩ := h
 obtain ⟨t, rfl⟩ := rx
 obtain ⟨t', rfl⟩ := ry
 exact rule i j t t' s _ _ ⟨.int (g i j), H, I.tok _, ⟨_, rfl⟩, q⟩
theorem zsP {f : Value -> Value -> Sem Value} {g : Int -> Int -> Bool}
  (rule : ∀ (i j : Int) (t u : Tok) (s : Shared) (Q : Value -> Shared -> Prop) (E : Value -> Shared -> Prop), Q (.bool (g i j)) s -> wpAny (model X.prog X.w) X.A (f (.int i t) (.int j u)) Q E s) :
  zvE X f (zuz fun i j => .bl (g i j)) := by
 intro pins s σ H x y v u Q I rx ry h
 obtain ⟨i, j, rfl, rfl, q⟩ := h
 obtain ⟨t, rfl⟩ := rx
 obtain ⟨t', rfl⟩ := ry
 exact rule i j t t' s _ _ ⟨.bl (g i j), H, I, rfl, q⟩
def ztY (i j : Int) : Prop := 0 < j /\ j < 1073741824
def ztX (i j : Int) : Prop := 0 <= j /\ j <= 1000000 /\ i.natAbs < 2 ^ 64
def zsp (i j : Int) : Prop := (-(2 ^ 64) < i /\ i < 2 ^ 64) \/ (-(2 ^ 64) < j /\ j < 2 ^ 64)
theorem zsp.ok {i j : Int} (h : zsp i j) : IntMulOk i j := by
 rcases h with ⟨h1, h2⟩ | ⟨h1, h2⟩
 ·exact .of_left (intBits_le_64 h1 h2)
 ·exact .of_right (intBits_le_64 h1 h2)
theorem zrE : zvE X (binaryOp .Add) (zuz fun i j => .int (i + j)) := ztm fun _ _ _ _ _ _ _ q => add_int q
theorem zrw : zvE X (binaryOp .Sub) (zuz fun i j => .int (i - j)) := ztm fun _ _ _ _ _ _ _ q => sub_int q
theorem zrA : zvE X (binaryOp .Mult) (zwk zsp fun i j => .int (i * j)) := zuH fun _ _ _ _ _ _ _ hc q => mul_int q hc.ok
theorem zpM : zvE X (binaryOp .FloorDiv) (zwk ztY fun i j => .int (i / j)) := zuH fun i j _ _ _ _ _ hc q => by
 have h1 : (0 : Int) < j := hc.1
 have h2 : j < 1073741824 := hc.2
 exact floordiv_int (by omega) (by rw [Int.fdiv_eq_ediv_of_nonneg i (by omega)]; exact q) (.inl (PyProof.noPylong_small (by omega)))
theorem zrB : zvE X (binaryOp .Mod) (zwk (fun _ j => 0 < j) fun i j => .int (i % j)) := zuH fun i j _ _ _ _ _ hc q => by
 have h1 : (0 : Int) < j := hc
 exact mod_int' (by omega) (by rw [Int.fmod_eq_emod_of_nonneg i (by omega)]; exact q)
theorem zry : zvE X (binaryOp .Pow) (zwk ztX fun i j => .int (i ^ j.toNat)) := zuH fun _ _ _ _ _ _ _ hc q => pow_int_small hc.1 hc.2.1 hc.2.2 q
end
def zsB : V -> V -> Bool
 | .non, .non => true | .non, .int _ => true | .int _, .non => true | .non, .bl _ => true | .bl _, .non => true | .non, .str _ => true | .str _, .non => true
 | .int _, .int _ => true | .bl _, .bl _ => true | .str _, .str _ => true | .byt _, .byt _ => true
 | .int _, .str _ => true | .str _, .int _ => true | .bl _, .str _ => true | .str _, .bl _ => true
 | _, _ => false
def zuA : zwW := fun x y H Q => zsB x y = true /\ Q (.bl (decide (x = y))) H
def zux : zwW := fun x y H Q => zsB x y = true /\ Q (.bl (!decide (x = y))) H
theorem zmG {i j : Int} : decide (V.int i = V.int j) = (i == j) := by
 rw [Bool.eq_iff_iff]
 simp
theorem zoM {i j : Bool} : decide (V.bl i = V.bl j) = (i == j) := by
 rw [Bool.eq_iff_iff]
 simp
theorem zmF {i j : Str} : decide (V.str i = V.str j) = (i == j) := by
 rw [Bool.eq_iff_iff]
 simp
theorem zmH {i j : Array UInt8} : decide (V.byt i = V.byt j) = (i.toList == j.toList) := by
 rw [Bool.eq_iff_iff]
 cases i
 cases j
 simp
section
variable {X : Cx} {a b c : Expr} {ta tb tc : zw8} {pos : Pos}
theorem zbd {pins : List (Addr × Obj)} {σ : zxd} {H : zxg} {s : Shared} {Q : zw3} {k k' : Bool} (I : Inv X pins σ H s) (q : Q (.bl k) H) (e : k = k') : zwP X pins σ Q (.bool k') s := by
 subst e
 exact ⟨.bl k, H, I, rfl, q⟩
theorem zsO : zvE X (compareOp .Eq) zuA := by
 intro pins s σ H x y v u Q I rx ry h
 obtain ⟨hs, q⟩ := h
 cases x with
 | non =>
  cases rx
  cases y with
  | non => cases ry; exact PySem.EqNone.eq_none_none (zbd I q (by simp))
  | bl j => cases ry; exact PySem.EqNone.eq_none_bool (zbd I q (by simp))
  | int j => obtain ⟨t', rfl⟩ := ry; exact PySem.EqNone.eq_none_int (zbd I q (by simp))
  | str j => obtain ⟨t', rfl⟩ := ry; exact PySem.EqNone.eq_none_str (zbd I q (by simp))
  | _ => exact absurd (show false = true from hs) Bool.false_ne_true
 | bl i =>
  cases rx
  cases y with
  | non => cases ry; exact PySem.EqNone.eq_bool_none (zbd I q (by simp))
  | bl j => cases ry; exact eq_bool (zbd I q zoM)
  | str j => obtain ⟨t', rfl⟩ := ry; exact PySem.EqMixed.eq_bool_str (zbd I q (by simp))
  | _ => exact absurd (show false = true from hs) Bool.false_ne_true
 | int i =>
  obtain ⟨t, rfl⟩ := rx
  cases y with
  | non => cases ry; exact PySem.EqNone.eq_int_none (zbd I q (by simp))
  | int j => obtain ⟨t', rfl⟩ := ry; exact eq_int (zbd I q zmG)
  | str j => obtain ⟨t', rfl⟩ := ry; exact PySem.EqMixed.eq_int_str (zbd I q (by simp))
  | _ => exact absurd (show false = true from hs) Bool.false_ne_true
 | str i =>
  obtain ⟨t, rfl⟩ := rx
  cases y with
  | non => cases ry; exact PySem.EqNone.eq_str_none (zbd I q (by simp))
  | bl j => cases ry; exact PySem.EqMixed.eq_str_bool (zbd I q (by simp))
  | int j => obtain ⟨t', rfl⟩ := ry; exact PySem.EqMixed.eq_str_int (zbd I q (by simp))
  | str j => obtain ⟨t', rfl⟩ := ry; exact eq_str (zbd I q zmF)
  | _ => exact absurd (show false = true from hs) Bool.false_ne_true
 | byt i =>
  obtain ⟨t, rfl⟩ := rx
  cases y with
  | byt j => obtain ⟨t', rfl⟩ := ry; exact PySem.W.eq_bytes (zbd I q zmH)
  | _ => exact absurd (show false = true from hs) Bool.false_ne_true
 | _ => cases y <;> exact absurd (show false = true from hs) Bool.false_ne_true
theorem zsK : zvE X (compareOp .NotEq) zux := by
 intro pins s σ H x y v u Q I rx ry h
 obtain ⟨hs, q⟩ := h
 cases x with
 | non =>
  cases rx
  cases y with
  | non => cases ry; exact PySem.EqNone.ne_none_none (zbd I q (by simp))
  | bl j => cases ry; exact PySem.EqNone.ne_none_bool (zbd I q (by simp))
  | int j => obtain ⟨t', rfl⟩ := ry; exact PySem.EqNone.ne_none_int (zbd I q (by simp))
  | str j => obtain ⟨t', rfl⟩ := ry; exact PySem.EqNone.ne_none_str (zbd I q (by simp))
  | _ => exact absurd (show false = true from hs) Bool.false_ne_true
 | bl i =>
  cases rx
  cases y with
  | non => cases ry; exact PySem.EqNone.ne_bool_none (zbd I q (by simp))
  | bl j => cases ry; exact ne_bool (zbd I q (congrArg not zoM))
  | str j => obtain ⟨t', rfl⟩ := ry; exact PySem.EqMixed.ne_bool_str (zbd I q (by simp))
  | _ => exact absurd (show false = true from hs) Bool.false_ne_true
 | int i =>
  obtain ⟨t, rfl⟩ := rx
  cases y with
  | non => cases ry; exact PySem.EqNone.ne_int_none (zbd I q (by simp))
  | int j => obtain ⟨t', rfl⟩ := ry; exact ne_int (zbd I q (congrArg not zmG))
  | str j => obtain ⟨t', rfl⟩ := ry; exact PySem.EqMixed.ne_int_str (zbd I q (by simp))
  | _ => exact absurd (show false = true from hs) Bool.false_ne_true
 | str i =>
  obtain ⟨t, rfl⟩ := rx
  cases y with
  | non => cases ry; exact PySem.EqNone.ne_str_none (zbd I q (by simp))
  | bl j => cases ry; exact PySem.EqMixed.ne_str_bool (zbd I q (by simp))
  | int j => obtain ⟨t', rfl⟩ := ry; exact PySem.EqMixed.ne_str_int (zbd I q (by simp))
  | str j => obtain ⟨t', rfl⟩ := ry; exact ne_str (zbd I q (congrArg not zmF))
  | _ => exact absurd (show false = true from hs) Bool.false_ne_true
 | byt i =>
  obtain ⟨t, rfl⟩ := rx
  cases y with
  | byt j => obtain ⟨t', rfl⟩ := ry; exact PySem.W.ne_bytes (zbd I q (congrArg not zmH))
  | _ => exact absurd (show false = true from hs) Bool.false_ne_true
 | _ => cases y <;> exact absurd (show false = true from hs) Bool.false_ne_true
theorem zsL : zvE X (compareOp .Lt) (zuz fun i j => .bl (decide (i < j))) := zsP fun _ _ _ _ _ _ _ q => lt_int q
theorem zsM : zvE X (compareOp .LtE) (zuz fun i j => .bl (decide (i <= j))) := zsP fun _ _ _ _ _ _ _ q => le_int q
theorem zsN : zvE X (compareOp .Gt) (zuz fun i j => .bl (decide (j < i))) := zsP fun _ _ _ _ _ _ _ q => gt_int q
theorem zlM : zvE X (compareOp .Lt) (fun x y H Q => ∃ i j, x = .str i /\ y = .str j /\ Q (.bl (decide (i.cps.toList < j.cps.toList))) H) := by
 intro pins s σ H x y v u Q I rx ry h
 obtain ⟨i, j, rfl, rfl, q⟩ := h
 obtain ⟨t, rfl⟩ := rx
 obtain ⟨t', rfl⟩ := ry
 exact lt_str (zbd I q rfl)
theorem zpJ : zvE X (compareOp .IsNot) (fun x y H Q => y = .non /\ Q (.bl (!decide (x = .non))) H) := by
 intro pins s σ H x y v u Q I rx ry h
 obtain ⟨rfl, q⟩ := h
 cases ry
 refine isnot_none_gen (zbd I q ?_)
 cases x <;> first
  | (cases rx; rfl)
  | (obtain ⟨t, rfl⟩ := rx; rfl)
theorem zvE.or {f : Value -> Value -> Sem Value} {r r' : zwW} (h : zvE X f r) (h' : zvE X f r') : zvE X f (fun x y H Q => r x y H Q \/ r' x y H Q) := by
 intro pins s σ H x y v u Q I rx ry q
 rcases q with q | q
 ·exact h pins s σ H x y v u Q I rx ry q
 ·exact h' pins s σ H x y v u Q I rx ry q
theorem zby (b : Expr) {op : CmpOp} (h : op ≠ .In := by decide) (h2 : op ≠ .NotIn := by decide) : behindInMarks op b = false := by
 have e1 : (op == CmpOp.In) = false := by cases op <;> first | rfl | exact absurd rfl h
 have e2 : (op == CmpOp.NotIn) = false := by cases op <;> first | rfl | exact absurd rfl h2
 cases b <;> simp [behindInMarks, e1, e2]
theorem zpG {op : CmpOp} {r : zwW} (ho : zvE X (compareOp op) r) (ha : zxb X a ta) (hb : zxb X b tb) (hm : behindInMarks op b = false) : zxb X (.Compare a [op] [b] pos) (zuc r ta tb) := by
 intro pins s σ H Q I h
 exact wpAny_Compare1 (zs5 ha hb I h fun v u s2 x y H2 I2 rx ry q => ho pins s2 σ H2 x y v u Q I2 rx ry q) hm
def zqS (t : zw8) : zwT := fun σ H Q => t σ H fun x H' => ∃ k, x = .bl k /\ Q k H'
theorem zpr {op : CmpOp} {r : zwW} (ho : zvE X (compareOp op) r) (ha : zxb X a ta) (hb : zxb X b tb) (hm : behindInMarks op b = false) : zwK X (.Compare a [op] [b] pos) (zqS (zuc r ta tb)) := by
 intro pins s σ H Q I h
 refine wpAny_isTrue_Compare1 (zt9 (ha pins s σ H _ I h) fun v s1 ⟨x, H1, I1, r1, q1⟩ => zt9 (hb pins s1 σ H1 _ I1 q1) fun u s2 ⟨y, H2, I2, r2, q2⟩ =>
  zt9 (ho pins s2 σ H2 x y v u _ I2 r1 r2 q2) fun c s3 ⟨z, H3, I3, r3, k, e, q3⟩ => ?_) hm
 subst e
 cases r3
 exact wpAny_truthy_bool ⟨H3, I3, q3⟩
def zlo (r r' : zwW) (ta tb tc : zw8) : zw8 := fun σ H Q => ta σ H fun x H1 => tb σ H1 fun y H2 => r x y H2 fun z H3 => ∃ k, z = .bl k /\
 (if k = true then tc σ H3 fun w' H4 => r' y w' H4 Q else Q (.bl false) H3)
theorem znB {op op' : CmpOp} {r r' : zwW} (ho : zvE X (compareOp op) r) (ho' : zvE X (compareOp op') r') (ha : zxb X a ta) (hb : zxb X b tb) (hc : zxb X c tc)
  (hm : lastMarks [op, op'] [b, c] = false := by with_unfolding_all rfl) : zxb X (.Compare a [op, op'] [b, c] pos) (zlo r r' ta tb tc) := by
 intro pins s σ H Q I h
 refine Compare_chain (zt9 (ha pins s σ H _ I h) fun v s1 ⟨x, H1, I1, r1, q1⟩ => chain_link (zt9 (hb pins s1 σ H1 _ I1 q1) fun u s2 ⟨y, H2, I2, r2, q2⟩ =>
  zt9 (ho pins s2 σ H2 x y v u _ I2 r1 r2 q2) fun d s3 ⟨z, H3, I3, r3, k, e, q3⟩ => ?_)) hm
 subst e
 cases r3
 refine wpAny_truthy_bool ?_
 cases k with
 | false => exact ite_ff ⟨.bl false, H3, I3, rfl, q3⟩
 | true => exact ite_tt (chain_last (zt9 (hc pins s3 σ H3 _ I3 q3) fun w' s4 ⟨z', H4, I4, r4, q4⟩ => ho' pins s4 σ H4 y z' u w' Q I4 r2 r4 q4))
theorem znq {op op' : CmpOp} {r r' : zwW} (ho : zvE X (compareOp op) r) (ho' : zvE X (compareOp op') r') (ha : zxb X a ta) (hb : zxb X b tb) (hc : zxb X c tc)
  (hm : lastMarks [op, op'] [b, c] = false := by with_unfolding_all rfl) : zwK X (.Compare a [op, op'] [b, c] pos) (zqS (zlo r r' ta tb tc)) := by
 intro pins s σ H Q I h
 refine isTrue_chain (zt9 (ha pins s σ H _ I h) fun v s1 ⟨x, H1, I1, r1, q1⟩ => test_link (zt9 (hb pins s1 σ H1 _ I1 q1) fun u s2 ⟨y, H2, I2, r2, q2⟩ =>
  zt9 (ho pins s2 σ H2 x y v u _ I2 r1 r2 q2) fun d s3 ⟨z, H3, I3, r3, k, e, q3⟩ => ?_)) hm
 subst e
 cases r3
 refine wpAny_truthy_bool ?_
 cases k with
 | false =>
  obtain ⟨k', e', q'⟩ := q3
  cases e'
  exact ite_ff ⟨H3, I3, q'⟩
 | true =>
  refine ite_tt (test_last (zt9 (hc pins s3 σ H3 _ I3 q3) fun w' s4 ⟨z', H4, I4, r4, q4⟩ => zt9 (ho' pins s4 σ H4 y z' u w' _ I4 r2 r4 q4) fun d' s5 ⟨z2, H5, I5, r5, zwR, e2, q5⟩ => ?_))
  subst e2
  cases r5
  exact wpAny_truthy_bool ⟨H5, I5, q5⟩
def ztR (K : PySem.W.Frag) (x : V) (H : zxg) (k : Bool) : Prop :=
 match x with
 | .non => k = false
 | .bl b => k = b
 | .int i => k = (i != 0)
 | .str y => y.length <= sizeLine /\ k = ((y.length : Int) != 0)
 | .byt y => y.size <= sizeLine /\ k = ((y.size : Int) != 0)
 | .ref p => (∃ xs, zvy K H p xs /\ k = !xs.isEmpty) \/ (∃ xs, zvx K H p xs /\ k = !xs.isEmpty) \/ ∃ kvs, H p = some (.dK kvs) /\ k = !kvs.isEmpty
 | _ => False
theorem zkZ {κ : Type} {kvs : List (κ × V)} {vs : List (κ × Value)} (r : zwQ kvs vs) : (!vs.isEmpty) = !kvs.isEmpty := by
 cases r <;> rfl
theorem zho {xs : List V} {its : List Value} (r : zcb xs its) : (!its.toArray.isEmpty) = !xs.isEmpty := by
 cases r <;> simp
theorem ziF : (sizeLine : Nat) < 2 ^ 63 := by rw [sizeLine_eq]; decide
theorem ztf : ztS X (fun x H Q => ∃ k, ztR X.K x H k /\ Q k H) := by
 intro pins s σ H x v Q I rx h
 obtain ⟨k, e, q⟩ := h
 have hl := ziF
 have hs : sizeLine = 16777216 := sizeLine_eq
 cases x with
 | non =>
  cases rx
  have e' : k = false := e
  subst e'
  exact truthy_none ⟨H, I, q⟩
 | bl b =>
  cases rx
  have e' : k = b := e
  subst e'
  exact wpAny_truthy_bool ⟨H, I, q⟩
 | int i =>
  obtain ⟨t, rfl⟩ := rx
  have e' : k = (i != 0) := e
  subst e'
  exact PySem.P.truthy_int ⟨H, I, q⟩
 | str y =>
  obtain ⟨t, rfl⟩ := rx
  obtain ⟨hy, e'⟩ : y.length <= sizeLine /\ k = ((y.length : Int) != 0) := e
  subst e'
  exact PySem.P.truthy_str (by omega) ⟨H, I.tok _, q⟩
 | byt y =>
  obtain ⟨t, rfl⟩ := rx
  obtain ⟨hy, e'⟩ : y.size <= sizeLine /\ k = ((y.size : Int) != 0) := e
  subst e'
  exact PySem.W.truthy_bytes (by omega) ⟨H, I.tok _, q⟩
 | ref p =>
  cases rx
  have e' : (∃ xs, zvy X.K H p xs /\ k = !xs.isEmpty) \/ (∃ xs, zvx X.K H p xs /\ k = !xs.isEmpty) \/ ∃ kvs, H p = some (.dK kvs) /\ k = !kvs.isEmpty := e
  rcases e' with ⟨xs, hx, e'⟩ | ⟨xs, hx, e'⟩ | ⟨kvs, hx, e'⟩
  ·subst e'
   obtain ⟨its, r, pl, hz⟩ := I.list hx
   have hlen := r.length
   exact wpAny_truthy_list pl.isList (by simp only [List.size_toArray]; omega) ⟨H, I.tok _, by rw [zho r]; exact q⟩
  ·subst e'
   obtain ⟨its, r, pl, hz⟩ := I.tuple hx
   have hlen := r.length
   exact truthy_tuple pl (by simp only [List.size_toArray]; omega) ⟨H, I.tok _, by rw [zho r]; exact q⟩
  ·subst e'
   obtain ⟨hz, hS, vs, r, m⟩ : kvs.length <= sizeLine /\ (p == sysModules) = false /\ ∃ vs, zwQ kvs vs /\ s.heap.DictOf (zaW X.prog X.w) p vs := I.hok p _ hx
   have hlen : kvs.length = vs.length := Paired.length r
   exact wpAny_truthy_dict hS m (by omega) ⟨H, I.tok _, by rw [zkZ r]; exact q⟩
 | _ => exact (show False from e).elim
theorem zkP : zvE X (binaryOp .Add) (fun x y H Q => ∃ i j, x = .str i /\ y = .str j /\ i.length + j.length <= sizeLine /\ Q (.str (i ++ j)) H) := by
 intro pins s σ H x y v u Q I rx ry h
 obtain ⟨i, j, rfl, rfl, hz, q⟩ := h
 obtain ⟨t, rfl⟩ := rx
 obtain ⟨t', rfl⟩ := ry
 exact add_str (fun t' tk => ⟨.str (i ++ j), H, I.tok _, ⟨_, rfl⟩, q⟩) hz
theorem zfY {x : V} {us : List Value} (r : zcb [x] us) : ∃ u, us = [u] /\ zb6 x u := by
 cases r with
 | cons r1 r2 => cases r2; exact ⟨_, rfl, r1⟩
theorem zoX {x y : V} {us : List Value} (r : zcb [x, y] us) : ∃ u w', us = [u, w'] /\ zb6 x u /\ zb6 y w' := by
 cases r with
 | cons r1 r2 =>
  cases r2 with
  | cons r3 r4 => cases r4; exact ⟨_, _, rfl, r1, r3⟩
theorem zob : zeZ X (.builtin "abs") (fun xs H Q => ∃ i, xs = [.int i] /\ Q (.int (if i < 0 then -i else i)) H) := by
 intro pins s σ H xs us Q I r h
 obtain ⟨i, rfl, q⟩ := h
 obtain ⟨u, rfl, t, rfl⟩ := zfY r
 exact call_abs_int fun u tk => ⟨.int (if i < 0 then -i else i), H, I.tok _, ⟨_, rfl⟩, q⟩
theorem zmR (hc : X.calm = true) : zeZ X (.builtin "max") (fun xs H Q => ∃ i j, xs = [.int i, .int j] /\ Q (.int (if j > i then j else i)) H) := by
 intro pins s σ H xs us Q I r h
 obtain ⟨i, j, rfl, q⟩ := h
 obtain ⟨u, w', rfl, ⟨t, rfl⟩, ⟨t', rfl⟩⟩ := zoX r
 refine max_two_ints (I.ok.hd hc) fun h' tk k => ⟨_, H, I.kept k, ?_, q⟩
 by_cases hj : j > i
 ·rw [if_pos hj, if_pos hj]; exact ⟨_, rfl⟩
 ·rw [if_neg hj, if_neg hj]; exact ⟨_, rfl⟩
theorem zmQ (hc : X.calm = true) : zeZ X (.builtin "min") (fun xs H Q => ∃ i j, xs = [.int i, .int j] /\ Q (.int (if j < i then j else i)) H) := by
 intro pins s σ H xs us Q I r h
 obtain ⟨i, j, rfl, q⟩ := h
 obtain ⟨u, w', rfl, ⟨t, rfl⟩, ⟨t', rfl⟩⟩ := zoX r
 refine min_two_ints (I.ok.hd hc) fun h' tk k => ⟨_, H, I.kept k, ?_, q⟩
 by_cases hj : j < i
 ·rw [if_pos hj, if_pos hj]; exact ⟨_, rfl⟩
 ·rw [if_neg hj, if_neg hj]; exact ⟨_, rfl⟩
theorem zmS : zeZ X (.type "int") (fun xs H Q => (∃ i, xs = [.int i] /\ Q (.int i) H) \/ ∃ k, xs = [.bl k] /\ Q (.int (if k then 1 else 0)) H) := by
 intro pins s σ H xs us Q I r h
 rcases h with ⟨i, rfl, q⟩ | ⟨k, rfl, q⟩
 ·obtain ⟨u, rfl, t, rfl⟩ := zfY r
  exact call_int_int ⟨.int i, H, I, ⟨_, rfl⟩, q⟩
 ·obtain ⟨u, rfl, r1⟩ := zfY r
  cases r1
  exact call_int_bool ⟨.int (if k then 1 else 0), H, I.tok _, ⟨_, rfl⟩, q⟩
def ztV (K : PySem.W.Frag) (x : V) (H : zxg) (n : Nat) : Prop :=
 match x with
 | .str y => y.length <= sizeLine /\ n = y.length
 | .byt y => y.size <= sizeLine /\ n = y.size
 | .ref p => (∃ xs, zvy K H p xs /\ n = xs.length) \/ ∃ xs, zvx K H p xs /\ n = xs.length
 | _ => False
theorem zoa : zeZ X (.builtin "len") (fun xs H Q => ∃ x n, xs = [x] /\ ztV X.K x H n /\ Q (.int n) H) := by
 intro pins s σ H xs us Q I r h
 obtain ⟨x, n, rfl, e, q⟩ := h
 obtain ⟨u, rfl, rx⟩ := zfY r
 have hl := ziF
 have hs : sizeLine = 16777216 := sizeLine_eq
 cases x with
 | str y =>
  obtain ⟨t, rfl⟩ := rx
  obtain ⟨hy, e'⟩ : y.length <= sizeLine /\ n = y.length := e
  subst e'
  exact len_str (by omega) ⟨.int _, H, I.tok _, ⟨_, rfl⟩, q⟩
 | byt y =>
  obtain ⟨t, rfl⟩ := rx
  obtain ⟨hy, e'⟩ : y.size <= sizeLine /\ n = y.size := e
  subst e'
  exact PySem.W.len_bytes (by omega) ⟨.int _, H, I.tok _, ⟨_, rfl⟩, q⟩
 | ref p =>
  cases rx
  have e' : (∃ xs, zvy X.K H p xs /\ n = xs.length) \/ ∃ xs, zvx X.K H p xs /\ n = xs.length := e
  rcases e' with ⟨xs, hx, e'⟩ | ⟨xs, hx, e'⟩
  ·subst e'
   obtain ⟨its, r', pl, hz⟩ := I.list hx
   have hlen := r'.length
   exact Calls.call_len_list pl.isList (by simp only [List.size_toArray]; omega) ⟨.int xs.length, H, I.tok _, ⟨_, by simp only [List.size_toArray]; rw [hlen]⟩, q⟩
  ·subst e'
   obtain ⟨its, r', pl, hz⟩ := I.tuple hx
   have hlen := r'.length
   exact len_tuple pl (by simp only [List.size_toArray]; omega) ⟨.int xs.length, H, I.tok _, ⟨_, by simp only [List.size_toArray]; rw [hlen]⟩, q⟩
 | _ => exact (show False from e).elim
end
end L2
namespace L2
open PySem PySem.Spec PyProof.Rows
structure ObjM (h : Heap) (x dx C : Addr) (mA : Str -> Option Value) : Prop where
 obj : h.get? x = some (PySem.W.instObj C dx)
 ns : h.Ns1 dx mA
 ne : dx ≠ x
theorem zl1 {h : Heap} {dx : Addr} {mA : Str -> Option Value} (n : h.Ns1 dx mA) : ∃ od, h.get? dx = some od /\ ∀ name, PySem.W.lookIn name od = some (mA name) := by
 obtain ⟨o, es, ep, ho, hd, hk, _, hm⟩ := n
 refine ⟨o, ho, fun name => ?_⟩
 have e := hm name
 unfold nsFind findBy at e
 rw [← Array.find?_toList] at e
 unfold PySem.W.lookIn
 rw [hd]
 dsimp only
 split
 ·rename_i y q
  rw [q] at e
  exact congrArg some e
 ·rename_i q
  rw [q] at e
  have a : es.toList.any (·.refKey) = false := by
   rw [List.any_eq_false]
   intro y hy
   obtain ⟨z, t, hkey⟩ := hk y (Array.mem_toList_iff.mp hy)
   simp [DictEntry.refKey, hkey]
  have a' : ¬ es.toList.any (·.refKey) = true := by rw [a]; exact Bool.false_ne_true
  rw [if_neg a']
  exact congrArg some e
theorem ObjM.look {h : Heap} {x dx C : Addr} {mA : Str -> Option Value} (I : ObjM h x dx C mA) : ∃ od, PySem.W.InstAt h x (PySem.W.instObj C dx) C (some od) /\ ∀ name, PySem.W.lookIn name od = some (mA name) :=
 let ⟨od, ho, hl⟩ := zl1 I.ns
 ⟨od, ⟨I.obj, rfl, rfl, ho⟩, hl⟩
section
variable {prog : Program} {w : World} {A : Around} {E : Value -> Shared -> Prop} {s : Shared} {K : PySem.W.Frag} {x dx C f : Addr} {mA : Str -> Option Value} {name : Str} {v : Value}
theorem zqh {expr : Bool} {Q : Value -> Shared -> Prop} (X : K.In s.heap) (I : ObjM s.heap x dx C mA) (hg : PySem.W.plainGet K C name = true) (hh : PySem.W.hasDictIn K C = true)
  (ha : PySem.W.findIn K (.ref C) name = some none) (hv : mA name = some v) (hv' : PySem.W.handedIn v = true) (h : Q v { s with toks := s.toks + 1 }) :
  wpAny (model prog w) A (getAttr (.ref x) name expr) Q E s := by
 obtain ⟨od, zxi, hl⟩ := I.look
 exact PySem.W.get_value X zxi (PySem.W.plainGet_of hg).1 (PySem.W.findObj_own hh ha rfl (by rw [hl, hv])) hv' h
theorem znU {pl : Sem Bool} {Q : Value × List Value -> Shared -> Prop} (X : K.In s.heap) (I : ObjM s.heap x dx C mA) (hg : PySem.W.plainGet K C name = true)
  (hf : PySem.W.findIn K (.ref C) name = some (some (.ref f))) (ht : PySem.W.isFn K (.ref f) = true) (hv : mA name = none) (h : Q (.ref f, [.ref x]) s) :
  wpAny (model prog w) A (getMethod (.ref x) name pl) Q E s := by
 obtain ⟨od, zxi, hl⟩ := I.look
 exact PySem.W.method_fn X zxi (PySem.W.plainGet_of hg).1 (PySem.W.plainGet_of hg).2 hf (beq_iff_eq.mp ht) (by show (PySem.W.lookIn name od).map (·.isSome) = some false; rw [hl, hv]; rfl) h
theorem zpf {ns : List Str} {Q : Unit -> Shared -> Prop} (X : K.In s.heap) (I : ObjM s.heap x dx C mA)
  (hs : PySem.W.findIn K (.ref C) "__setattr__" = some (some (.builtin "object.__setattr__"))) (hp : PySem.W.plainOver K C = true) (ht : PySem.W.takerIn K C name = some none) (hh : PySem.W.hasDictIn K C = true)
  (hw : PySem.Within mA ns) (hsz : ns.length <= sizeLine)
  (h : ∀ h', ObjM h' x dx C (fun y => if y = name then some v else mA y) -> Heap.SameBut dx s.heap h' -> Q () { s with heap := h', toks := s.toks + 2 }) :
  wpAny (model prog w) A (setAttr (.ref x) name v) Q E s := by
 obtain ⟨od, zxi, hl⟩ := I.look
 refine PySem.W.set_plain X zxi hs (PySem.W.osa_open (s := { s with toks := s.toks + 1 }) (r := none) X zxi hp ht fun b => ?_)
 obtain ⟨cd, hc, hd'⟩ := PySem.W.any_some hh
 have hx : s.heap.get? x = some ⟨.ref C, some dx, .plain, #[]⟩ := I.obj
 refine wpAny_bind (wpAny_pure (wpAny_bind (wpAny_bind (wpAny_loadPart hx (wpAny_bind (PySem.W.Looks.here (s := { s with toks := s.toks + 1 }) (PySem.W.looks_clsIn X hc) ?_))))))
 rw [hd']
 refine wpAny_pure (a := some dx) (wpAny_bind (wpAny_pure (wpAny_bind ?_)))
 refine wpAny_nsSet1 (s := { s with toks := s.toks + 1 }) I.ns fun h' hn2 hs2 => ?_
 obtain ⟨oD, esD, epD, hoD, hdD, hcD⟩ := hn2.count (PySem.Within.cons name v hw)
 refine wpAny_bind (wpAny_lookBehind hoD (by rw [hdD]; exact pastItsLine_dict (Nat.le_trans hcD (by rw [List.length_cons]; omega))) ?_)
 exact wpAny_pure (h _ ⟨(hs2.2 _ (Ne.symm I.ne)).trans I.obj, hn2, I.ne⟩ hs2)
theorem znG {R : Result -> Shared -> Prop} {vs : List Value} {kw : List (Str × Value)} (X : K.In s.heap) (hm : PySem.W.makesIn K C = true)
  (hi : PySem.W.findIn K (.ref C) "__init__" = some (some (.ref f))) (hf : PySem.W.typeIn K (.ref f) = some (.type "function"))
  (h : codeAny (model prog w) (A.under (.builtin "type.__call__" ⟨.ref C :: vs, kw⟩)) (.call (.ref f) ⟨.ref (s.heap.objs.size + 1) :: vs, kw⟩) (PySem.W.InitBack (s.heap.objs.size + 1) R)
   { s with heap := (s.heap.push PySem.W.emptyDict).push (PySem.W.instObj C s.heap.objs.size) }) :
  codeAny (model prog w) A (.call (.ref C) ⟨vs, kw⟩) R s := by
 obtain ⟨hh, g, d, t, os⟩ := s
 exact PySem.W.make_core (PySem.W.makes_of X hm) (PySem.W.looks_findIn X hi) (fun self => PySem.W.bind_fn X self hf) (.inl rfl) h
end
def zif (f : Str) (v : V) : List (Str × V) -> List (Str × V)
 | [] => [(f, v)]
 | (g, x) :: r => if g = f then (g, v) :: r else (g, x) :: zif f v r
theorem zgm (f g : Str) (v : V) : ∀ fs : List (Str × V), (zif f v fs).lookup g = if g = f then some v else fs.lookup g
 | [] => by
  show List.lookup g [(f, v)] = _
  by_cases h : g = f
  ·have hb : (g == f) = true := beq_iff_eq.mpr h
   simp only [List.lookup, hb, if_pos h]
  ·have hb : (g == f) = false := beq_eq_false_iff_ne.mpr h
   simp only [List.lookup, hb, if_neg h]
 | (k, x) :: r => by
  have ih := zgm f g v r
  rw [show zif f v ((k, x) :: r) = (if k = f then (k, v) :: r else (k, x) :: zif f v r) from rfl]
  by_cases hk : k = f
  ·rw [if_pos hk]
   by_cases h : g = k
   ·have hb : (g == k) = true := beq_iff_eq.mpr h
    simp only [List.lookup, hb, if_pos (h.trans hk)]
   ·have hb : (g == k) = false := beq_eq_false_iff_ne.mpr h
    simp only [List.lookup, hb, if_neg (fun e : g = f => h (e.trans hk.symm))]
  ·rw [if_neg hk]
   by_cases h : g = k
   ·have hb : (g == k) = true := beq_iff_eq.mpr h
    simp only [List.lookup, hb, if_neg (fun e : g = f => hk (h.symm.trans e))]
   ·have hb : (g == k) = false := beq_eq_false_iff_ne.mpr h
    simp only [List.lookup, hb]
    exact ih
theorem zgr (f : Str) (v : V) : ∀ fs : List (Str × V), f ∈ (zif f v fs).map (·.1) /\ ∀ g, g ∈ fs.map (·.1) -> g ∈ (zif f v fs).map (·.1)
 | [] => ⟨by simp [zif], fun g h => by simp at h⟩
 | (k, x) :: r => by
  obtain ⟨i1, zwo⟩ := zgr f v r
  rw [show zif f v ((k, x) :: r) = (if k = f then (k, v) :: r else (k, x) :: zif f v r) from rfl]
  by_cases hk : k = f
  ·rw [if_pos hk]
   subst hk
   exact ⟨by simp, fun g h => by simpa using h⟩
  ·rw [if_neg hk]
   refine ⟨?_, fun g h => ?_⟩
   ·rw [List.map_cons]
    exact List.mem_cons_of_mem _ i1
   ·rw [List.map_cons] at h ⊢
    rcases List.mem_cons.mp h with e | e
    ·exact List.mem_cons.mpr (.inl e)
    ·exact List.mem_cons_of_mem _ (zwo g e)
theorem zgp (f : Str) (v : V) : ∀ fs : List (Str × V), (zif f v fs).length <= fs.length + 1
 | [] => by simp [zif]
 | (k, x) :: r => by
  have ih := zgp f v r
  rw [show zif f v ((k, x) :: r) = (if k = f then (k, v) :: r else (k, x) :: zif f v r) from rfl]
  by_cases hk : k = f
  ·rw [if_pos hk, List.length_cons, List.length_cons]; omega
  ·rw [if_neg hk, List.length_cons, List.length_cons]; omega
theorem zii.some_of {v : V} {o : Option Value} (r : zii (some v) o) : ∃ u, o = some u /\ zb6 v u := by
 cases o with
 | none => exact (show False from r).elim
 | some u => exact ⟨u, rfl, r⟩
theorem zii.none_of {o : Option Value} (r : zii none o) : o = none := by
 cases o with
 | none => rfl
 | some u => exact (show False from r).elim
theorem zmj {v : V} {u : Value} (r : zb6 v u) : PySem.W.handedIn u = true := by
 cases v with
 | non => cases (show u = Value.none from r); rfl
 | bl b => cases (show u = Value.bool b from r); rfl
 | int i => obtain ⟨t, e⟩ := (show ∃ t, u = Value.int i t from r); cases e; rfl
 | str x => obtain ⟨t, e⟩ := (show ∃ t, u = Value.str x t from r); cases e; rfl
 | byt b => obtain ⟨t, e⟩ := (show ∃ t, u = Value.bytes b t from r); cases e; rfl
 | flt b => obtain ⟨t, e⟩ := (show ∃ t, u = Value.float b t from r); cases e; rfl
 | ref a => cases (show u = Value.ref a from r); rfl
 | ty n => cases (show u = Value.type n from r); rfl
section
variable {P : Program} {w : World} {H H' : zxg} {h h' : Heap} {a C dx : Addr} {fs fs' : List (Str × V)}
theorem zhP (hok : zvT P w H h) (e : H a = some (.ins C dx fs)) : ∃ mA, ObjM h a dx C mA /\ (∀ f, zii (fs.lookup f) (mA f)) /\ PySem.Within mA (fs.map (·.1)) /\ fs.length <= 1000 /\ H dx = some (.own a) := by
 obtain ⟨d, z, ne, zw9, mA, n, r, q⟩ := (show zcF P w H h a (.ins C dx fs) from hok a _ e)
 exact ⟨mA, ⟨zw9, n, ne⟩, r, q, z, d⟩
end
structure Cls (K : PySem.W.Frag) (C : Addr) : Prop where
 pg : PySem.W.plainGet K C Str.empty = true
 hd : PySem.W.hasDictIn K C = true
 po : PySem.W.plainOver K C = true
 sa : PySem.W.findIn K (.ref C) "__setattr__" = some (some (.builtin "object.__setattr__"))
theorem Cls.get {K : PySem.W.Frag} {C : Addr} (c : Cls K C) (f : Str) : PySem.W.plainGet K C f = true := c.pg
def zfC (K : PySem.W.Frag) (C : Addr) (f : Str) : Prop := PySem.W.findIn K (.ref C) f = some none
theorem zfC.taker {K : PySem.W.Frag} {C : Addr} {f : Str} (n : zfC K C f) : PySem.W.takerIn K C f = some none := by
 unfold PySem.W.takerIn
 rw [show PySem.W.findIn K (.ref C) f = some none from n]
 rfl
structure Con (K : PySem.W.Frag) (C : Addr) (f : Str) (v : V) (u : Value) : Prop where
 at_ : PySem.W.findIn K (.ref C) f = some (some u)
 rel : zb6 v u
 get : PySem.W.specialIn K u "__get__" = some none
 cp : PySem.W.copiedNames.contains f = false
structure Meth (K : PySem.W.Frag) (C : Addr) (m : Str) (f : Addr) : Prop where
 at_ : PySem.W.findIn K (.ref C) m = some (some (.ref f))
 fn : PySem.W.isFn K (.ref f) = true
 kp : PySem.W.keepIn K (.ref f) = true
section
variable {X : Cx} {pins : List (Addr × Obj)} {σ : zxd} {H : zxg} {s : Shared} {a C dx : Addr} {fs : List (Str × V)} {f : Str} {v : V} {A : Around} {E : Value -> Shared -> Prop}
theorem zk0 {b : Bool} {Q : Value -> Shared -> Prop} (I : Inv X pins σ H s) (e : H a = some (.ins C dx fs)) (c : Cls X.K C) (n : zfC X.K C f) (l : fs.lookup f = some v)
  (h : ∀ u s', Inv X pins σ H s' -> zb6 v u -> Q u s') : wpAny (model X.prog X.w) A (getAttr (.ref a) f b) Q E s := by
 obtain ⟨mA, O, r, _, _, _⟩ := zhP I.hok e
 obtain ⟨u, hu, ru⟩ := zii.some_of (v := v) (o := mA f) (by rw [← l]; exact r f)
 exact zqh I.kIn O (c.get f) c.hd n hu (zmj ru) (h u _ (I.tok _) ru)
theorem zhq {m : Str} {g : Addr} {pl : Sem Bool} {Q : Value × List Value -> Shared -> Prop} (I : Inv X pins σ H s) (e : H a = some (.ins C dx fs)) (c : Cls X.K C) (k : Meth X.K C m g) (l : fs.lookup m = none)
  (h : Q (.ref g, [.ref a]) s) : wpAny (model X.prog X.w) A (getMethod (.ref a) m pl) Q E s := by
 obtain ⟨mA, O, r, _, _, _⟩ := zhP I.hok e
 have hn : mA m = none := zii.none_of (by rw [← l]; exact r m)
 exact znU I.kIn O (c.get m) k.at_ k.fn hn h
theorem zkF {y : V} {u : Value} {Q : Unit -> Shared -> Prop} (I : Inv X pins σ H s) (e : H a = some (.ins C dx fs)) (c : Cls X.K C) (n : zfC X.K C f) (hl : fs.length < 1000) (ry : zb6 y u)
  (h : ∀ s', Inv X pins σ (zt0 H a (.ins C dx (zif f y fs))) s' -> Q () s') : wpAny (model X.prog X.w) A (setAttr (.ref a) f u) Q E s := by
 obtain ⟨mA, O, r, wi, _, ho⟩ := zhP I.hok e
 have hz : (fs.map (·.1)).length <= sizeLine := by rw [List.length_map, sizeLine_eq]; omega
 refine zpf I.kIn O c.sa c.po n.taker c.hd wi hz fun h' O' sb => h _ ?_
 have hd : ∃ o, h'.get? dx = some o := let ⟨o, _, _, e', _⟩ := O'.ns; ⟨o, e'⟩
 refine I.write (x := a) (e := dx) (by rw [e]; exact True.intro) (.inr ho) (fun b q hb z => (sb.2 b hb).trans z) hd ?_
 refine ⟨by rw [zaz O.ne]; exact ho, ?_, O.ne, O'.obj, _, O'.ns, fun g => ?_, fun g hg => ?_⟩
 ·have := zgp f y fs; omega
 ·show zii ((zif f y fs).lookup g) (if g = f then some u else mA g)
  rw [zgm]
  by_cases q : g = f
  ·rw [if_pos q, if_pos q]; exact ry
  ·rw [if_neg q, if_neg q]; exact r g
 ·by_cases q : g = f
  ·rw [q]; exact (zgr f y fs).1
  ·refine (zgr f y fs).2 g (wi g fun z => hg ?_)
   show (if g = f then some u else mA g) = none
   rw [if_neg q]; exact z
theorem Inv.made (I : Inv X pins σ H s) : Inv X pins σ (zt0 (zt0 H s.heap.objs.size (.own (s.heap.objs.size + 1))) (s.heap.objs.size + 1) (.ins C s.heap.objs.size []))
  { s with heap := (s.heap.push PySem.W.emptyDict).push (PySem.W.instObj C s.heap.objs.size) } := by
 have e1 : (s.heap.push PySem.W.emptyDict).get? s.heap.objs.size = some PySem.W.emptyDict := Heap.get?_push_size s.heap rfl
 have e2 : ((s.heap.push PySem.W.emptyDict).push (PySem.W.instObj C s.heap.objs.size)).get? (s.heap.objs.size + 1) = some (PySem.W.instObj C s.heap.objs.size) := by
  have := Heap.get?_push_size (s.heap.push PySem.W.emptyDict) (o := PySem.W.instObj C s.heap.objs.size) rfl
  rwa [Heap.size_push] at this
 have e3 : (s.heap.push PySem.W.emptyDict).Ns s.heap.objs.size (fun _ => none) := ⟨PySem.W.emptyDict, #[], _, e1, rfl, (fun e he => absurd he (by simp)), fun _ => rfl⟩
 have I1 := I.laid (a := s.heap.objs.size) (o := .own (s.heap.objs.size + 1)) (h' := s.heap.push PySem.W.emptyDict) (t' := s.toks) (fun b u q => Heap.get?_push_of_some _ q) (Nat.le_refl _) ⟨_, e1⟩
 refine I1.laid (a := s.heap.objs.size + 1) (o := .ins C s.heap.objs.size []) (t' := s.toks) (fun b u q => Heap.get?_push_of_some _ q) (Nat.le_of_eq (Heap.size_push _ _)) ?_
 have ne : s.heap.objs.size ≠ s.heap.objs.size + 1 := Nat.ne_of_lt (Nat.lt_succ_self _)
 refine ⟨by rw [zaz ne, zaB], Nat.zero_le _, ne, e2, fun _ => none, (Heap.Ns1.of_empty e3).at fun o q => Heap.get?_push_of_some _ q, fun _ => True.intro, fun y hy => absurd rfl hy⟩
theorem zqB {prog : Program} {w : World} {env : Env} {e : Expr} {f : Str} {pos : Pos} {s : Shared} {Q : Value -> Shared -> Prop} (hb : attributeBase e f env (eval e env) = eval e env)
  (h : wpAny (model prog w) A (eval e env) (fun o s₁ => wpAny (model prog w) A (getAttr o f true) Q E s₁) E s) : wpAny (model prog w) A (eval (.Attribute e f pos) env) Q E s :=
 Attribute_any_ h (by rw [arm_eval_Attribute, hb])
end
def ztF (K : PySem.W.Frag) (ta : zw8) (f : Str) : zw8 := fun σ H Q => ta σ H fun x H1 => ∃ a C dx fs v, x = .ref a /\ H1 a = some (.ins C dx fs) /\ Cls K C /\ zfC K C f /\ fs.lookup f = some v /\ Q v H1
def ztH (K : PySem.W.Frag) (ta tv : zw8) (f : Str) : TS := fun D σ H => tv σ H fun y H1 => ta σ H1 fun x H2 => ∃ a C dx fs, x = .ref a /\ H2 a = some (.ins C dx fs) /\ Cls K C /\ zfC K C f /\ fs.length < 1000 /\
 D.nx σ (zt0 H2 a (.ins C dx (zif f y fs)))
section
variable {X : Cx} {o e value : Expr} {f : Str} {pos pos' tpos : Pos} {ta tv : zw8}
theorem zlH (he : zxb X e ta) (hb : attributeBase e f X.env (eval e X.env) = eval e X.env) : zxb X (.Attribute e f pos) (ztF X.K ta f) := by
 intro pins s σ H Q I h
 refine zqB hb (zt9 (he pins s σ H _ I h) fun u s1 ⟨x, H1, I1, rx, a, C, dx, fs, v, ex, ea, c, n, l, q⟩ => ?_)
 subst ex
 obtain rfl : u = Value.ref a := rx
 exact zk0 I1 ea c n l fun u' s2 I2 ru => ⟨v, H1, I2, ru, q⟩
theorem zoo (ha : zxb X o ta) (hv : zxb X value tv) (hs : swapsWith value (some (.Attribute o f pos')) pos.line X.env = pure false) : zwG X (.Assign [.Attribute o f pos'] value pos) (ztH X.K ta tv f) := by
 intro pins s σ H D I h
 refine plainObj_wpAny_Assign_Attribute (zt9 (hv pins s σ H _ I h) fun u s1 ⟨y, H1, I1, ry, q⟩ => zt9 (ha pins s1 σ H1 _ I1 q) fun ov s2 ⟨x, H2, I2, rx, a, C, dx, fs, ex, ea, c, n, l, q2⟩ => ?_) hs
 subst ex
 obtain rfl : ov = Value.ref a := rx
 exact zkF I2 ea c n l ry fun s3 I3 => ⟨σ, _, I3, q2⟩
theorem zpZ {pl : Sem Bool} {m : Str} {apos : Pos} {args : List Expr} {pins : List (Addr × Obj)} {s : Shared} {σ : zxd} {H : zxg} {Q : Value -> Shared -> Prop} {te : zw8} (he : zxb X e te) (I : Inv X pins σ H s)
  (h : te σ H fun x H1 => ∃ a C dx fs g, x = .ref a /\ H1 a = some (.ins C dx fs) /\ Cls X.K C /\ Meth X.K C m g /\ fs.lookup m = none /\
   ∀ s1, Inv X pins σ H1 s1 -> wpAny (model X.prog X.w) X.A (callWith pos (.ref g) [.ref a] (backTo pos (starEach args X.env)) (backToKw pos (keywordEach [] X.env))) Q X.xe s1)
  (ht : eval (.Call (.Attribute e m apos) args [] pos) X.env = (do
   let ov ← eval e X.env
   standAt apos.atName
   let (f, first) ← holding [ov] (getMethod ov m pl)
   callWith pos f first (backTo pos (starEach args X.env)) (backToKw pos (keywordEach [] X.env)))) :
  wpAny (model X.prog X.w) X.A (eval (.Call (.Attribute e m apos) args [] pos) X.env) Q X.xe s := by
 refine PySem.W.methodCall_KW (pl := pl) (zt9 (he pins s σ H _ I h) fun u s1 ⟨x, H1, I1, rx, a, C, dx, fs, g, ex, ea, c, k, l, q⟩ => ?_) ht
 subst ex
 obtain rfl : u = Value.ref a := rx
 exact zhq I1 ea c k l (q s1 I1)
end
section
variable {X : Cx} {pins : List (Addr × Obj)} {σ : zxd} {H : zxg} {s : Shared} {A : Around} {E : Value -> Shared -> Prop} {Q : Value -> Shared -> Prop} {c : Value} {b : Bool}
inductive TyOf (K : PySem.W.Frag) (H : zxg) : V -> Value -> Prop where
 | non : TyOf K H .non (.type "NoneType")
 | bl (x : Bool) : TyOf K H (.bl x) (.type "bool")
 | int (i : Int) : TyOf K H (.int i) (.type "int")
 | str (x : Str) : TyOf K H (.str x) (.type "str")
 | flt (x : UInt64) : TyOf K H (.flt x) (.type "float")
 | lst {a : Addr} {xs : List V} (e : H a = some (.lst xs)) : TyOf K H (.ref a) (.type "list")
 | frz {a : Addr} {o : Obj} {xs : List V} (e : H a = some (.frz o (.lst xs))) : TyOf K H (.ref a) (.type "list")
 | tup {a : Addr} {xs : List V} (e : H a = some (.tup xs)) : TyOf K H (.ref a) (.type "tuple")
 | dK {a : Addr} {kvs : List (zvK × V)} (e : H a = some (.dK kvs)) : TyOf K H (.ref a) (.type "dict")
 | dT {a : Addr} {kvs : List (List zvK × V)} (e : H a = some (.dT kvs)) : TyOf K H (.ref a) (.type "dict")
 | ins {a C dx : Addr} {fs : List (Str × V)} (e : H a = some (.ins C dx fs)) (cl : Cls K C) (ha : PySem.W.findIn K (.ref C) "__class__" = some (some (.builtin "object.__class__")))
   (hn : PySem.W.specialIn K (.builtin "object.__class__") "__get__" = some (some (.builtin "getset_descriptor.__get__"))) (htk : PySem.W.takesIn K (.builtin "object.__class__") = some true)
   (hm : PySem.W.mroIn K C (.type "object") = some true) : TyOf K H (.ref a) (.ref C)
theorem zme {x : V} {u t : Value} (I : Inv X pins σ H s) (rx : zb6 x u) (ty : TyOf X.K H x t) (e : PySem.W.kitOne X.K t c = some b) (h : ∀ tk, Q (.bool b) { s with toks := tk }) :
  wpAny (model X.prog X.w) A (call (.builtin "isinstance") [u, c]) Q E s := by
 cases ty with
 | non => cases (show u = Value.none from rx); exact PySem.W.kia_one PySem.W.kitx_none I.kIn True.intro e (fun z => nomatch z) h
 | bl y => cases (show u = Value.bool y from rx); exact PySem.W.kia_one PySem.W.kitx_bool I.kIn True.intro e (fun z => nomatch z) h
 | int i => obtain ⟨t, q⟩ := (show ∃ t, u = Value.int i t from rx); cases q; exact PySem.W.kia_one PySem.W.kitx_int I.kIn True.intro e (fun z => nomatch z) h
 | str y => obtain ⟨t, q⟩ := (show ∃ t, u = Value.str y t from rx); cases q; exact PySem.W.kia_one PySem.W.kitx_str I.kIn True.intro e (fun z => nomatch z) h
 | flt y => obtain ⟨t, q⟩ := (show ∃ t, u = Value.float y t from rx); cases q; exact PySem.W.kia_one PySem.W.kitx_float I.kIn True.intro e (fun z => nomatch z) h
 | @lst a xs ea =>
  cases (show u = Value.ref a from rx)
  obtain ⟨_, _, n, _, h1⟩ := (show zcF X.prog X.w H s.heap a (.lst xs) from I.hok a _ ea)
  exact PySem.W.kia_one PySem.W.kitx_list I.kIn ⟨_, h1, rfl⟩ e (fun z => nomatch z) h
 | @frz a zw9 xs ea =>
  cases (show u = Value.ref a from rx)
  obtain ⟨_, _, _, n, _, h1⟩ := (show zcF X.prog X.w H s.heap a (.frz zw9 (.lst xs)) from I.hok a _ ea)
  exact PySem.W.kia_one PySem.W.kitx_list I.kIn ⟨_, h1, rfl⟩ e (fun z => nomatch z) h
 | @tup a xs ea =>
  cases (show u = Value.ref a from rx)
  obtain ⟨_, _, _, p⟩ := (show zcF X.prog X.w H s.heap a (.tup xs) from I.hok a _ ea)
  obtain ⟨o, h1, h2, _⟩ := p
  exact PySem.W.kia_one PySem.W.kitx_tuple I.kIn ⟨o, h1, h2⟩ e (fun z => nomatch z) h
 | @dK a kvs ea =>
  cases (show u = Value.ref a from rx)
  obtain ⟨_, _, vs, _, p⟩ := (show zcF X.prog X.w H s.heap a (.dK kvs) from I.hok a _ ea)
  obtain ⟨o, es, ep, h1, h2, _⟩ := p
  exact PySem.W.kia_one PySem.W.kitx_dict I.kIn ⟨o, h1, h2.1⟩ e (fun z => nomatch z) h
 | @dT a kvs ea =>
  cases (show u = Value.ref a from rx)
  obtain ⟨_, _, xs, _, o, es, ep, h1, h2, _⟩ := (show zcF X.prog X.w H s.heap a (.dT kvs) from I.hok a _ ea)
  exact PySem.W.kia_one PySem.W.kitx_dict I.kIn ⟨o, h1, h2.1⟩ e (fun z => nomatch z) h
 | @ins a C dx fs ea cl ha hn htk hm =>
  cases (show u = Value.ref a from rx)
  obtain ⟨mA, O, _⟩ := zhP I.hok ea
  obtain ⟨od, zxi, _⟩ := O.look
  exact PySem.W.kia_one (PySem.W.kitx_own (cl.get _) cl.hd ha hn htk hm) I.kIn zxi e (fun z => nomatch z) h
end
end L2
namespace L2
open PySem PySem.Spec PyProof.Rows
structure Room (k : Nat) (A : Around) : Prop where
 hd : A.handled = none
 dp : A.depth + 3 * k + 5 < recursionLimit
 un : A.units + 16 * k + 200 < cLine
theorem Room.mono {j k : Nat} {A : Around} (r : Room k A) (h : j <= k) : Room j A := ⟨r.hd, by have := r.dp; omega, by have := r.un; omega⟩
theorem Room.deeper {k : Nat} {A : Around} (r : Room (k + 1) A) (env : Env) : Room k (A.deeper env) :=
 ⟨r.hd, by have := r.dp; show A.depth + 1 + 3 * k + 5 < _; omega, by have := r.un; show A.units + 3 + 16 * k + 200 < _; omega⟩
theorem zkS {A : Around} {C : Addr} {us : List Value} {kw : List (Str × Value)} : (A.under (.builtin "type.__call__" ⟨.ref C :: us, kw⟩)).depth = A.depth + 1 := by
 first | rfl | simp [Around.under, Code.weight, Code.isCreation, Code.isGuard, Code.isCaller, Code.frames, Code.isFrame, guardIds]
theorem zkR {A : Around} {C : Addr} {us : List Value} {kw : List (Str × Value)} : (A.under (.builtin "type.__call__" ⟨.ref C :: us, kw⟩)).units = A.units + 1 := by
 first | rfl | simp [Around.under, Code.cUnits, Code.frames, Code.isFrame]
theorem Room.make {k : Nat} {A : Around} (r : Room (k + 1) A) (C : Addr) (us : List Value) (kw : List (Str × Value)) : Room k (A.under (.builtin "type.__call__" ⟨.ref C :: us, kw⟩)) :=
 ⟨r.hd, by have := r.dp; rw [zkS]; omega, by have := r.un; rw [zkR]; omega⟩
theorem Room.depth {k : Nat} {A : Around} (r : Room k A) : A.depth < recursionLimit := by have := r.dp; omega
def ztB : zwS := fun _ H Q => Q [] H
def zsy (ta : zw8) (tr : zwS) : zwS := fun σ H Q => ta σ H fun x H1 => tr σ H1 fun xs H2 => Q (x :: xs) H2
section
variable {X : Cx} {e : Expr} {es : List Expr} {te : zw8} {t : zwS} {pos : Pos}
theorem zfx : zwN X [] ztB := fun _ _ _ _ H Q I h => Calls.spliced_nil ⟨[], H, I, .nil, h⟩
theorem zdK (ha : zxb X e te) (hr : zwN X es t) (hs : starEach (e :: es) X.env = (false, eval e X.env) :: starEach es X.env := by rfl) : zwN X (e :: es) (zsy te t) := by
 intro pos pins s σ H Q I h
 rw [hs]
 show wpAny _ _ (spliced ((false, eval e X.env) :: backTo pos (starEach es X.env))) _ _ s
 refine Calls.spliced_cons (zt9 (ha pins s σ H _ I h) fun u s1 ⟨x, H1, I1, r1, q1⟩ => ?_)
 exact zt9 (hr pos pins s1 σ H1 _ I1 q1) fun us s2 ⟨xs, H2, I2, r2, q2⟩ => ⟨x :: xs, H2, I2, .cons r1 r2, q2⟩
def ztx (t : zwS) : zw8 := fun σ H Q => t σ H fun xs H1 => xs.length <= sizeLine /\ ∀ p, H1 p = none -> Q (.ref p) (zt0 H1 p (.tup xs))
def ztC (t : zwS) : zw8 := fun σ H Q => t σ H fun xs H1 => xs.length <= sizeLine /\ ∀ p, H1 p = none -> Q (.ref p) (zt0 H1 p (.lst xs))
theorem zrj {x1} (h : zwN X es t) : zxb X (.Tuple es x1 pos) (ztx t) := by
 intro pins s σ H Q I hq
 refine wpAny_Tuple_spliced (zt9 (h pos pins s σ H _ I hq) fun us s1 ⟨xs, H1, I1, r, z, q⟩ => ⟨by rw [← r.length]; exact z, ?_⟩)
 have hf : H1 s1.heap.objs.size = none := I1.hok.fresh (Nat.le_refl _)
 refine ⟨.ref s1.heap.objs.size, zt0 H1 s1.heap.objs.size (.tup xs), I1.laid (t' := s1.toks) (fun b u e => Heap.get?_push_of_some _ e) (Nat.le_refl _) ?_, rfl, q _ hf⟩
 exact ⟨z, us, r, ⟨_, Heap.get?_push_size _ rfl, rfl, _, rfl⟩⟩
theorem zro (h : zwN X es t) : zxb X (.List es pos) (ztC t) := by
 intro pins s σ H Q I hq
 refine wpAny_List_spliced (zt9 (h pos pins s σ H _ I hq) fun us s1 ⟨xs, H1, I1, r, z, q⟩ => ⟨by rw [← r.length]; exact z, ?_⟩)
 have hf : H1 s1.heap.objs.size = none := I1.hok.fresh (Nat.le_refl _)
 refine ⟨.ref s1.heap.objs.size, zt0 H1 s1.heap.objs.size (.lst xs), I1.laid (t' := s1.toks) (fun b u e => Heap.get?_push_of_some _ e) (Nat.le_refl _) ?_, rfl, q _ hf⟩
 exact ⟨z, us, 0, r, Heap.get?_push_size _ rfl⟩
end
abbrev zwI := List V -> zxg -> zw3 -> zwV -> Prop
abbrev zvW := List Env -> zxg -> Shared -> zwV -> Value -> Shared -> Prop
structure Env0 (P : Program) (w : World) (K : PySem.W.Frag) (mg : Str -> Option Value) (base : Heap) (A : Around) (outer : List Env) (s : Shared) (H : zxg) : Prop where
 frames : A.frames = some outer
 mod : Mod K mg base
 bs : ∀ b o, base.get? b = some o -> s.heap.get? b = some o /\ H b = none
 bsz : base.objs.size <= s.heap.objs.size
 funs : s.heap.FunFrames base outer
 frf : ∀ b ∈ zu7 outer, H b = none
 hok : zvT P w H s.heap
 bare : AllBare s.gens
def zwa (outer : List Env) (P : Program) (w : World) (H : zxg) (s : Shared) (Q : zw3) (u : Value) (s' : Shared) : Prop :=
 ∃ v H', s'.os = s.os /\ AllBare s'.gens /\ Un (zu7 outer) [] H H' s.heap s'.heap /\ zvT P w H' s'.heap /\ zb6 v u /\ Q v H'
def zv2 (CX : zvW) (outer : List Env) (P : Program) (w : World) (H : zxg) (s : Shared) (Q : zw3) (E : zwV) (r : Result) (s' : Shared) : Prop :=
 match r with
 | .ok (.ret u) => zwa outer P w H s Q u s'
 | .ok _ => False
 | .error e => CX outer H s E e s'
structure FnOk (P : Program) (w : World) (K : PySem.W.Frag) (mg : Str -> Option Value) (base : Heap) (CX : zvW) (k : Nat) (f : Addr) (fd : FuncData) (ps : List Str) (sp : zwI) : Prop where
 len : ∀ vs H Q E, sp vs H Q E -> vs.length = ps.length
 run : ∀ (A : Around) (outer : List Env) (s : Shared) (H : zxg) (args : Args) (us : List Value) (vs : List V) (Q : zw3) (E : zwV), Room k A -> Env0 P w K mg base A outer s H -> BindsTo s fd args (ps.zip us) -> zcb vs us -> sp vs H Q E ->
  codeAny (model P w) A (.call (.ref f) args) (zv2 CX outer P w H s Q E) s
theorem FnOk.imp {P : Program} {w : World} {K : PySem.W.Frag} {mg : Str -> Option Value} {base : Heap} {CX : zvW} {k : Nat} {f : Addr} {fd : FuncData} {ps : List Str} {sp sp' : zwI} (F : FnOk P w K mg base CX k f fd ps sp)
  (h : ∀ vs H Q E, sp' vs H Q E -> sp vs H Q E) : FnOk P w K mg base CX k f fd ps sp' :=
 ⟨fun vs H Q E q => F.len vs H Q E (h _ _ _ _ q), fun A outer s H args us vs Q E hr he hb hv hs => F.run A outer s H args us vs Q E hr he hb hv (h _ _ _ _ hs)⟩
theorem Env0.make {P : Program} {w : World} {K : PySem.W.Frag} {mg : Str -> Option Value} {base : Heap} {A : Around} {outer : List Env} {s : Shared} {H : zxg} (e : Env0 P w K mg base A outer s H) (C : Addr) (us : List Value) (kw : List (Str × Value)) :
  Env0 P w K mg base (A.under (.builtin "type.__call__" ⟨.ref C :: us, kw⟩)) outer s H := ⟨by first | exact e.frames | (simpa [Around.under, Code.envs, Code.isFrame, pushEnvs] using e.frames), e.mod, e.bs, e.bsz, e.funs, e.frf, e.hok, e.bare⟩
section
variable {X : Cx} {pins : List (Addr × Obj)} {σ : zxd} {H : zxg} {s s' : Shared}
theorem Inv.env0 (I : Inv X pins σ H s) : Env0 X.prog X.w X.K X.mg X.base X.A X.stack s H :=
 ⟨I.ok.frames, I.ok.mod, I.bs, Nat.le_trans I.ok.bsz I.sz, I.stack, I.stkFree, I.hok, I.bare⟩
theorem Inv.after {Q : zw3} {u : Value} (I : Inv X pins σ H s) (h : zwa X.stack X.prog X.w H s Q u s') : zwP X pins σ Q u s' := by
 obtain ⟨v, H', os, bare, un, hok, r, q⟩ := h
 obtain ⟨hh, g, d, t, os'⟩ := s'
 obtain rfl : os' = s.os := os
 exact ⟨v, H', I.call (h' := hh) (g' := g) (d' := d) (t' := t) (ch := []) un hok bare (fun b z => absurd z (by simp)), r, q⟩
end
def zsz (sp : zwI) (dvs : List V) (E : zwV) (t : zwS) : zw8 := fun σ H Q => t σ H fun vs H1 => sp (vs ++ dvs) H1 Q E
def zsu (C : Addr) (m : Str) (sp : zwI) (dvs : List V) (E : zwV) (ta : zw8) (t : zwS) : zw8 := fun σ H Q => ta σ H fun x H1 => ∃ a dx fs, x = .ref a /\ H1 a = some (.ins C dx fs) /\ fs.lookup m = none /\
 t σ H1 fun vs H2 => sp (x :: (vs ++ dvs)) H2 Q E
def zsv (C : Addr) (sp : zwI) (dvs : List V) (E : zwV) (t : zwS) : zw8 := fun σ H Q => t σ H fun vs H1 => ∀ x dx, H1 x = none -> H1 dx = none -> dx ≠ x ->
 sp (.ref x :: (vs ++ dvs)) (zt0 (zt0 H1 dx (.own x)) x (.ins C dx [])) (fun v H2 => v = .non /\ Q (.ref x) H2) E
def zd4 (K : PySem.W.Frag) (fd : FuncData) (ps : List Str) (ds : List Value) : Prop :=
 ∀ (s : Shared) (us : List Value), K.In s.heap -> (us ++ ds).length = ps.length -> BindsTo s fd ⟨us, []⟩ (ps.zip (us ++ ds))
theorem zd4.all {K : PySem.W.Frag} {fd : FuncData} {ps : List Str} (h : ∀ us : List Value, us.length = ps.length -> bindArgs fd ⟨us, []⟩ = pure (ps.zip us)) : zd4 K fd ps [] := fun s us _ hl => by
 rw [List.append_nil] at hl ⊢
 exact .of_eq (h us hl)
def zhw (CX : zvW) (X : Cx) (E : zwV) : Prop := ∀ (pins : List (Addr × Obj)) (σ : zxd) (H : zxg) (s : Shared) (e : Value) (s' : Shared), Inv X pins σ H s -> CX X.stack H s E e s' -> X.xe e s'
section
variable {X : Cx} {CX : zvW} {k : Nat} {f C : Addr} {fd : FuncData} {ps : List Str} {sp : zwI} {dvs : List V} {ds : List Value} {E : zwV} {x m : Str} {p pos apos : Pos} {e o : Expr} {es : List Expr} {ta : zw8} {t : zwS}
theorem zom {pins : List (Addr × Obj)} {σ : zxd} {H : zxg} {s : Shared} {Q : zw3} {us : List Value} {vs : List V} (F : FnOk X.prog X.w X.K X.mg X.base CX k f fd ps sp) (hr : Room k X.A) (hb : zd4 X.K fd ps ds) (hd : zcb dvs ds) (hx : zhw CX X E)
  (I : Inv X pins σ H s) (r : zcb vs us) (h : sp (vs ++ dvs) H Q E) : wpAny (model X.prog X.w) X.A (call (.ref f) us) (zwP X pins σ Q) X.xe s := by
 have r2 : zcb (vs ++ dvs) (us ++ ds) := r.append hd
 have hl : (us ++ ds).length = ps.length := by rw [← r2.length]; exact F.len _ _ _ _ h
 refine wpAny_call (codeAny_mono (F.run X.A X.stack s H ⟨us, []⟩ (us ++ ds) (vs ++ dvs) Q E hr I.env0 (hb s us I.kIn hl) r2 h) fun r s' hq => ?_)
 cases r with
 | error e => exact hx pins σ H s e s' I hq
 | ok zxc =>
  cases zxc with
  | ret u => exact I.after hq
  | next => exact False.elim hq
  | brk => exact False.elim hq
  | cont => exact False.elim hq
theorem zjq (F : FnOk X.prog X.w X.K X.mg X.base CX k f fd ps sp) (hr : Room k X.A) (hg : zwU X x) (hm : X.mg x = some (.ref f)) (hk : PySem.W.keepIn X.K (.ref f) = true) (hb : zd4 X.K fd ps ds) (hd : zcb dvs ds) (hx : zhw CX X E)
  (ha : zwN X (e :: es) t) (hdb : (x == ("__debug__" : Str)) = false := by decide) (he : starEach (e :: es) X.env = (false, eval e X.env) :: starEach es X.env := by rfl) (hpl : (backTo pos (starEach es X.env)).any (·.1) = false := by rfl) :
  zxb X (.Call (.Name x p) (e :: es) [] pos) (zsz sp dvs E t) := by
 intro pins s σ H Q I h
 refine wpAny_Call_Name_kw (zjy I hg hm ?_ hdb)
 refine PySem.W.callWith_K (h₀ := X.base) I.ok.mod.kin hk (zt9 (ha pos pins s σ H _ I h) fun us s1 ⟨vs, H1, I1, r, q⟩ => ⟨I1.kIn, ?_⟩) he hpl
 exact zom F hr hb hd hx I1 r q
theorem zjp {pl : Sem Bool} (he : zxb X o ta) (c : Cls X.K C) (hm : Meth X.K C m f) (F : FnOk X.prog X.w X.K X.mg X.base CX k f fd ps sp) (hr : Room k X.A) (hb : zd4 X.K fd ps ds) (hd : zcb dvs ds) (hx : zhw CX X E) (ha : zwN X (e :: es) t)
  (hst : starEach (e :: es) X.env = (false, eval e X.env) :: starEach es X.env := by rfl) (hpl : (backTo pos (starEach es X.env)).any (·.1) = false := by rfl)
  (ht : eval (.Call (.Attribute o m apos) (e :: es) [] pos) X.env = (do
   let ov ← eval o X.env
   standAt apos.atName
   let (f, first) ← holding [ov] (getMethod ov m pl)
   callWith pos f first (backTo pos (starEach (e :: es) X.env)) (backToKw pos (keywordEach [] X.env))) := by rfl) :
  zxb X (.Call (.Attribute o m apos) (e :: es) [] pos) (zsu C m sp dvs E ta t) := by
 intro pins s σ H Q I h
 refine PySem.W.methodCall_KW (pl := pl) (zt9 (he pins s σ H _ I h) fun u s1 ⟨x, H1, I1, rx, a, dx, fs, ex, ea, l, q⟩ => ?_) ht
 subst ex
 obtain rfl : u = Value.ref a := rx
 refine zhq I1 ea c hm l ?_
 refine PySem.W.callWith_K (first := [.ref a]) (h₀ := X.base) I.ok.mod.kin hm.kp (zt9 (ha pos pins s1 σ H1 _ I1 q) fun us s2 ⟨vs, H2, I2, r, q2⟩ => ⟨I2.kIn, ?_⟩) hst hpl
 exact zom (us := .ref a :: us) (vs := .ref a :: vs) F hr hb hd hx I2 (.cons rfl r) q2
structure zwH (K : PySem.W.Frag) (C f : Addr) : Prop where
 makes : PySem.W.makesIn K C = true
 init : PySem.W.findIn K (.ref C) "__init__" = some (some (.ref f))
 fn : PySem.W.isFn K (.ref f) = true
 kp : PySem.W.keepIn K (.ref C) = true
theorem znm {pins : List (Addr × Obj)} {σ : zxd} {H : zxg} {s : Shared} {Q : zw3} {us : List Value} {vs : List V} (M : zwH X.K C f) (F : FnOk X.prog X.w X.K X.mg X.base CX k f fd ps sp) (hr : Room (k + 1) X.A) (hb : zd4 X.K fd ps ds) (hd : zcb dvs ds)
  (hx : zhw CX X E) (I : Inv X pins σ H s) (r : zcb vs us)
  (h : ∀ x dx, H x = none -> H dx = none -> dx ≠ x -> sp (.ref x :: (vs ++ dvs)) (zt0 (zt0 H dx (.own x)) x (.ins C dx [])) (fun v H2 => v = .non /\ Q (.ref x) H2) E) :
  wpAny (model X.prog X.w) X.A (call (.ref C) us) (zwP X pins σ Q) X.xe s := by
 have hq := h (s.heap.objs.size + 1) s.heap.objs.size (I.hok.fresh (Nat.le_succ _)) (I.hok.fresh (Nat.le_refl _)) (Nat.ne_of_lt (Nat.lt_succ_self _))
 have I2 := Inv.made (C := C) I
 have r2 : zcb (V.ref (s.heap.objs.size + 1) :: (vs ++ dvs)) (Value.ref (s.heap.objs.size + 1) :: (us ++ ds)) := .cons rfl (r.append hd)
 have hl : (Value.ref (s.heap.objs.size + 1) :: us ++ ds).length = ps.length := by
  have e := r2.length
  rw [F.len _ _ _ _ hq] at e
  exact e.symm
 refine wpAny_call (znG (f := f) I.kIn M.makes M.init (beq_iff_eq.mp M.fn) (codeAny_mono (F.run _ X.stack _ _ ⟨Value.ref (s.heap.objs.size + 1) :: us, []⟩ (Value.ref (s.heap.objs.size + 1) :: (us ++ ds)) _ _ E (hr.make C us [])
  (I2.env0.make C us []) (hb _ (Value.ref (s.heap.objs.size + 1) :: us) I2.kIn hl) r2 hq) fun r s' hq' => ?_))
 cases r with
 | error e => exact hx pins σ _ _ e s' I2 hq'
 | ok zxc =>
  cases zxc with
  | ret u =>
   obtain ⟨v, H', I3, rv, ev, q3⟩ := I2.after hq'
   subst ev
   exact ⟨rv, ⟨V.ref (s.heap.objs.size + 1), H', I3, rfl, q3⟩⟩
  | next => exact False.elim hq'
  | brk => exact False.elim hq'
  | cont => exact False.elim hq'
theorem zpD (M : zwH X.K C f) (F : FnOk X.prog X.w X.K X.mg X.base CX k f fd ps sp) (hr : Room (k + 1) X.A) (hg : zwU X x) (hm : X.mg x = some (.ref C)) (hb : zd4 X.K fd ps ds) (hd : zcb dvs ds) (hx : zhw CX X E)
  (ha : zwN X (e :: es) t) (hdb : (x == ("__debug__" : Str)) = false := by decide) (he : starEach (e :: es) X.env = (false, eval e X.env) :: starEach es X.env := by rfl) (hpl : (backTo pos (starEach es X.env)).any (·.1) = false := by rfl) :
  zxb X (.Call (.Name x p) (e :: es) [] pos) (zsv C sp dvs E t) := by
 intro pins s σ H Q I h
 refine wpAny_Call_Name_kw (zjy I hg hm ?_ hdb)
 refine PySem.W.callWith_K (h₀ := X.base) I.ok.mod.kin M.kp (zt9 (ha pos pins s σ H _ I h) fun us s1 ⟨vs, H1, I1, r, q⟩ => ⟨I1.kIn, ?_⟩) he hpl
 exact znm M F hr hb hd hx I1 r q
end
section
variable {X : Cx} {CX : zvW} {k : Nat} {f C : Addr} {fd : FuncData} {ps ks : List Str} {sp : zwI} {E : zwV} {x m : Str} {p pos apos kpos : Pos} {e o : Expr} {es : List Expr} {kws : List Keyword} {te ta : zw8} {t tk : zwS} {nm : Option Str}
structure KBinds (K : PySem.W.Frag) (fd : FuncData) (ps ks : List Str) (g : List Value -> List Value -> List Value) (gV : List V -> List V -> List V) : Prop where
 to : ∀ (s : Shared) (us ws : List Value), K.In s.heap -> (g us ws).length = ps.length -> BindsTo s fd ⟨us, ks.zip ws⟩ (ps.zip (g us ws))
 rel : ∀ {vs : List V} {us : List Value} {zs : List V} {ws : List Value}, zcb vs us -> zcb zs ws -> zcb (gV vs zs) (g us ws)
variable {g : List Value -> List Value -> List Value} {gV : List V -> List V -> List V}
end
structure FnScope (N P : List Str) (sc : Scope) : Prop where
 kind : sc.kind = .function
 co : sc.isCoroutine = false
 gen : sc.isGenerator = false
 nd : N.Nodup
 pre : N.take P.length = P
 par : ∀ x ∈ P, sc.names.lookup x = some .local \/ sc.names.lookup x = some .cell
 nofree : ∀ y ∈ sc.names, y.2 ≠ .free
theorem zi0 {kindOf : Str -> Option NameKind} {x : Str} : ∀ {binds : List (Str × Value)} {m : Str -> Option Value}, (∀ v, (x, v) ∉ binds) -> bindL kindOf binds m x = m x
 | [], _, _ => rfl
 | (n, v) :: r, m, h => by
  unfold bindL
  rw [zi0 fun w hw => h w (List.mem_cons_of_mem _ hw)]
  split
  ·have : x ≠ n := by rintro rfl; exact h v List.mem_cons_self
   simp [this]
  ·rfl
theorem zi2 {kindOf : Str -> Option NameKind} {x : Str} : ∀ {binds : List (Str × Value)} {m : Str -> Option Value}, (∀ v, (x, v) ∉ binds) -> bindC kindOf binds m x = m x
 | [], _, _ => rfl
 | (n, v) :: r, m, h => by
  unfold bindC
  rw [zi2 fun w hw => h w (List.mem_cons_of_mem _ hw)]
  split
  ·rfl
  ·have : x ≠ n := by rintro rfl; exact h v List.mem_cons_self
   simp [this]
theorem zi1 {kindOf : Str -> Option NameKind} {x : Str} {v : Value} : ∀ {P : List Str} {vs : List Value} {i : Nat} {m : Str -> Option Value}, P.Nodup -> P[i]? = some x -> vs[i]? = some v -> kindOf x = some .local ->
  bindL kindOf (P.zip vs) m x = some v
 | [], _, _, _, _, h, _, _ => by simp at h
 | _ :: _, [], _, _, _, _, h, _ => by simp at h
 | p :: P, w :: vs, 0, m, nd, h1, h2, hk => by
  simp at h1 h2; subst h1; subst h2
  show bindL kindOf ((p, w) :: P.zip vs) m p = _
  unfold bindL
  rw [zi0 fun v hv => (List.nodup_cons.mp nd).1 (List.of_mem_zip hv).1, if_pos hk]
  simp
 | p :: P, w :: vs, i + 1, m, nd, h1, h2, hk => by
  show bindL kindOf ((p, w) :: P.zip vs) m x = _
  unfold bindL
  exact zi1 (i := i) (List.nodup_cons.mp nd).2 (by simpa using h1) (by simpa using h2) hk
theorem zi3 {kindOf : Str -> Option NameKind} {x : Str} {v : Value} : ∀ {P : List Str} {vs : List Value} {i : Nat} {m : Str -> Option Value}, P.Nodup -> P[i]? = some x -> vs[i]? = some v -> kindOf x ≠ some .local ->
  bindC kindOf (P.zip vs) m x = some v
 | [], _, _, _, _, h, _, _ => by simp at h
 | _ :: _, [], _, _, _, _, h, _ => by simp at h
 | p :: P, w :: vs, 0, m, nd, h1, h2, hk => by
  simp at h1 h2; subst h1; subst h2
  show bindC kindOf ((p, w) :: P.zip vs) m p = _
  unfold bindC
  rw [zi2 fun v hv => (List.nodup_cons.mp nd).1 (List.of_mem_zip hv).1, if_neg hk]
  simp
 | p :: P, w :: vs, i + 1, m, nd, h1, h2, hk => by
  show bindC kindOf ((p, w) :: P.zip vs) m x = _
  unfold bindC
  exact zi3 (i := i) (List.nodup_cons.mp nd).2 (by simpa using h1) (by simpa using h2) hk
def zeI (N : List Str) (vs : List V) : zxd := vs.map some ++ List.replicate (N.length - vs.length) none
def zih (CX : zvW) (P : Program) (w : World) (K : PySem.W.Frag) (mg : Str -> Option Value) (base : Heap) (N : List Str) (qual : Str) (scope : Scope) (f : Addr) (cd : Value) (A : Around) (outer : List Env) (s : Shared) (H : zxg) (E : zwV) : Cx where
 prog := P
 w := w
 K := K
 mg := mg
 base := base
 A := A.deeper (envOfC qual scope s.heap.objs.size f cd)
 N := N
 s₀ := s
 H₀ := H
 env := envOfC qual scope s.heap.objs.size f cd
 outer := outer
 stack := envOfC qual scope s.heap.objs.size f cd :: outer
 ex := []
 calm := true
 fn := fun _ => true
 pn := []
 xe := fun e s' => wpAny (model P w) (A.deeper (envOfC qual scope s.heap.objs.size f cd)) (leaving (envOfC qual scope s.heap.objs.size f cd) e) (fun _ s'' => CX outer H s E e s'') (fun e' s'' => CX outer H s E e' s'') s'
theorem zkw {sc : Scope} {n : Nat} {x : Str} (h : sc.names.lookup x = some .cell) : ∃ c, (cellsFrom n sc.names []).lookup x = some c := by
 have q := PySem.W.cellsFrom_some sc.names n [] (.inl h)
 exact Option.isSome_iff_exists.mp q
theorem zmf {CX : zvW} {P : Program} {w : World} {K : PySem.W.Frag} {mg : Str -> Option Value} {base : Heap} {N ps : List Str} {qual : Str} {scope : Scope} {f : Addr} {cd : Value} {A : Around} {outer : List Env} {s s1 : Shared} {H : zxg} {E : zwV} {us : List Value} {vs : List V}
  (S : FnScope N ps scope) (hd : A.handled = none) (e0 : Env0 P w K mg base A outer s H) (hl : vs.length = ps.length) (r : zcb vs us)
  (x : InCallC s s.heap.objs.size (bindL (envOfC qual scope s.heap.objs.size f cd).kindOf (ps.zip us) fun _ => none) (cellsFrom (s.heap.objs.size + 1) scope.names []) (bindC (envOfC qual scope s.heap.objs.size f cd).kindOf (ps.zip us) fun _ => none) s1) :
  Inv (zih CX P w K mg base N qual scope f cd A outer s H E) [] (zeI N vs) H s1 := by
 have hpl : ps.length <= N.length := by have := congrArg List.length S.pre; rw [List.length_take] at this; omega
 obtain ⟨h1, tk, rfl, hk⟩ := x.done
 have noA : ∀ b : Addr, b ∉ (zih CX P w K mg base N qual scope f cd A outer s H E).ex := fun b z => absurd (show b ∈ ([] : List Addr) from z) (by simp)
 refine ⟨⟨e0.mod, S.kind, rfl, rfl, Nat.le_refl _, fun y z c h1 h2 => ?_, fun y hy => ?_, fun y c _ h => ?_, fun _ => hd, Around.frames_deeper e0.frames, .inr ⟨rfl, rfl⟩, fun b z => absurd z (noA b), e0.bs, e0.bsz, fun b _ _ => noA b, fun b z => absurd z (noA b), e0.funs, e0.frf⟩,
  rfl, e0.bare, Un.kept hk, ⟨_, x.toInCall.ns, fun i y v h1 h2 h3 => ?_⟩, fun y c h => ⟨_, x.cell y c h⟩, e0.hok.fresh (Nat.le_refl _), fun y c h => ?_, fun p hp => absurd (show p ∈ ([] : List (Addr × Obj)) from hp) (by simp), e0.hok.kept hk, ?_⟩
 ·exact name_of_addr x.apart (PySem.mem_of_lookup h1) (PySem.mem_of_lookup h2)
 ·have hy : scope.names.lookup y = some .cell \/ scope.names.lookup y = some .free := hy
  rcases hy with hy | hy
  ·exact zkw hy
  ·exact absurd rfl (S.nofree _ (PySem.mem_of_lookup hy))
 ·exact Nat.le_of_lt (x.above y c (PySem.mem_of_lookup h))
 ·have hi : i < vs.length := by
   unfold zeI at h2
   by_cases hi : i < vs.length
   ·exact hi
   ·rw [List.getElem?_append_right (by simpa using hi)] at h2
    rw [List.getElem?_replicate] at h2
    split at h2 <;> cases h2
  have ha : vs[i]? = some v := by
   unfold zeI at h2
   rw [List.getElem?_append_left (by simpa using hi), List.getElem?_map] at h2
   cases e : vs[i]? with
   | none => rw [e] at h2; cases h2
   | some a => rw [e] at h2; cases h2; rfl
  obtain ⟨u, hu, rv⟩ := r.get ha
  have hp : ps[i]? = some y := by
   rw [← S.pre, List.getElem?_take_of_lt (by omega)]; exact h1
  have ndP : ps.Nodup := by rw [← S.pre]; exact S.nd.sublist (List.take_sublist _ _)
  refine ⟨u, rv, ?_⟩
  rcases S.par y (List.mem_of_getElem? hp) with k | k
  ·exact .inl ⟨k, zi1 ndP hp hu k⟩
  ·obtain ⟨c, e⟩ := zkw (n := s.heap.objs.size + 1) k
   refine .inr ⟨.inl k, c, e, ?_⟩
   have q := x.cell y c e
   rw [zi3 ndP hp hu (by show scope.names.lookup y ≠ _; rw [k]; decide)] at q
   exact q
 ·exact e0.hok.fresh (Nat.le_of_lt (x.above y c (PySem.mem_of_lookup h)))
 ·unfold zeI
  show _ = N.length
  rw [List.length_append, List.length_map, List.length_replicate]
  omega
theorem zsW {CX : zvW} {P : Program} {w : World} {K : PySem.W.Frag} {mg : Str -> Option Value} {base : Heap} {k : Nat} {f : Addr} {name qual : Str} {params : Arguments} {body : List Stmt} {scope : Scope} {dV zw7 doc pm cdv ct oc : Value} {an od : Option Addr}
  {osl : Array (Option Value)} {N ps : List Str} {sp : zwI} (lk : K.lookup f = some ⟨oc, od, .func (PySem.W.fnOf name qual params body scope dV zw7 doc pm an cdv ct), osl⟩) (hcd : PySem.W.codeIn K cdv qual = true) (S : FnScope N ps scope)
  (len : ∀ vs H Q E, sp vs H Q E -> vs.length = ps.length)
  (hbody : ∀ (A : Around) (outer : List Env) (s : Shared) (H : zxg) (vs : List V) (Q : zw3) (E : zwV), Room k (A.deeper (envOfC qual scope s.heap.objs.size f cdv)) -> sp vs H Q E ->
   ∃ t, zvB (zih CX P w K mg base N qual scope f cdv A outer s H E) body t /\ t { nx := fun _ H' => Q .non H', rt := Q } (zeI N vs) H) :
  FnOk P w K mg base CX (k + 1) f (PySem.W.fnOf name qual params body scope dV zw7 doc pm an cdv ct) ps sp := by
 refine ⟨len, fun A outer s H args us vs Q E hr e0 hb r hsp => ?_⟩
 have hl := len _ _ _ _ hsp
 have KX : K.In s.heap := e0.mod.kin.keeps fun b o e => (e0.bs b o e).1
 have lim : s.heap.NoLimit := e0.mod.nolimit.keeps fun b o e => (e0.bs b o e).1
 have hkind : ∀ y ∈ ps.zip us, scope.names.lookup y.1 = some .local \/ (scope.names.lookup y.1 = some .cell /\ ((cellsFrom (s.heap.objs.size + 1) scope.names []).lookup y.1).isSome = true) := fun ⟨n, v⟩ hy => by
  rcases S.par n (List.of_mem_zip hy).1 with q | q
  ·exact .inl q
  ·exact .inr ⟨q, PySem.W.cellsFrom_some _ _ _ (.inl q)⟩
 refine codeAny_call_function hr.depth (KX _ _ lk) rfl S.co S.gen rfl (PySem.W.codeRec_of KX hcd) (hb _ _ _ _ ?_)
 refine wpAny_newFunctionEnv_cells S.kind hkind fun env he s1 x => ?_
 subst he
 refine ⟨lim.keeps x.toInCall.keep, codeAny_func ?_⟩
 obtain ⟨t, ht, hq⟩ := hbody A outer s H vs Q E (hr.deeper _) hsp
 have I : Inv (zih CX P w K mg base N qual scope f cdv A outer s H E) [] (zeI N vs) H s1 := zmf S hr.hd e0 hl r x
 refine wpAny_mono (ht [] s1 (zeI N vs) H _ I hq) (fun zxc s' hs => ?_) fun e s' hs => hs
 have fin : ∀ {σ' : zxd} {H' : zxg} {v : V} {u : Value}, Inv (zih CX P w K mg base N qual scope f cdv A outer s H E) [] σ' H' s' -> zb6 v u -> Q v H' -> zwa outer P w H s Q u s' :=
  fun {σ' H' v u} zxi rv q => ⟨v, H', zxi.os, zxi.bare, zxi.base, zxi.hok, rv, q⟩
 cases zxc with
 | ret u =>
  obtain ⟨v, σ', H', zxi, rv, q⟩ := hs
  exact fin zxi rv q
 | next =>
  obtain ⟨σ', H', zxi, q⟩ := hs
  exact fin (v := V.non) (u := Value.none) zxi rfl q
 | brk =>
  obtain ⟨_, _, _, q⟩ := hs
  exact False.elim q
 | cont =>
  obtain ⟨_, _, _, q⟩ := hs
  exact False.elim q
end L2
namespace L2
open PySem PySem.Spec PyProof.Rows
section
variable {X : Cx} {x : Str} {p pos : Pos} {e : Expr} {es : List Expr} {t : zwS} {id T : String} {r : List V -> zxg -> zw3 -> Prop}
def zue (r : List V -> zxg -> zw3 -> Prop) (t : zwS) : zw8 := fun σ H Q => t σ H fun vs H1 => r vs H1 Q
theorem zka (hc : zeZ X (.builtin id) r) (hg : zwU X x) (hm : X.mg x = none) (hv : bootBuiltins x = some (.builtin id)) (ha : zwN X (e :: es) t) (hn : x ≠ "__name__" := by decide) (hdb : (x == ("__debug__" : Str)) = false := by decide)
  (he : starEach (e :: es) X.env = (false, eval e X.env) :: starEach es X.env := by rfl) (hpl : (backTo pos (starEach es X.env)).any (·.1) = false := by rfl) : zxb X (.Call (.Name x p) (e :: es) [] pos) (zue r t) := by
 intro pins s σ H Q I h
 refine wpAny_Call_Name_kw (zhn I hg hm hv ?_ hn hdb)
 exact PyProof.Rows.callWith_builtin1 (zt9 (ha pos pins s σ H _ I h) fun us s1 ⟨vs, H1, I1, r1, q1⟩ => hc pins s1 σ H1 vs us Q I1 r1 q1) he hpl
theorem zgf (hc : zeZ X (.type T) r) (hg : zwU X x) (hm : X.mg x = none) (hv : bootBuiltins x = some (.type T)) (ha : zwN X (e :: es) t) (hn : x ≠ "__name__" := by decide) (hdb : (x == ("__debug__" : Str)) = false := by decide)
  (he : starEach (e :: es) X.env = (false, eval e X.env) :: starEach es X.env := by rfl) (hpl : (backTo pos (starEach es X.env)).any (·.1) = false := by rfl) : zxb X (.Call (.Name x p) (e :: es) [] pos) (zue r t) := by
 intro pins s σ H Q I h
 refine wpAny_Call_Name_kw (zhn I hg hm hv ?_ hn hdb)
 exact PyProof.Rows.callWith_type1 (zt9 (ha pos pins s σ H _ I h) fun us s1 ⟨vs, H1, I1, r1, q1⟩ => hc pins s1 σ H1 vs us Q I1 r1 q1) he hpl
end
end L2
end
section
namespace HT
open PySem PyProof.Rows
section
open PySem.SeqAt
open PySem.AutoSeq1 (wpAny_loadPart')
open PySem.MeetsSeq PySem.MeetsSeq2 PySem.MeetsSeq3
end
section
variable {prog : Program} {w : World} {A : Around} {E : Value -> Shared -> Prop} {s : Shared}
def sIx (n d : Nat) : Option Int -> Nat
 | none => d
 | some v => if v < 0 then (v + (n : Int)).toNat else min v.toNat n
theorem zq2 (n d : Nat) (hd : d <= n) (o : Option Int) : sIx n d o <= n := by
 cases o with
 | none => exact hd
 | some v =>
  show (if v < 0 then (v + (n : Int)).toNat else min v.toNat n) <= n
  by_cases hv : v < 0
  ·rw [if_pos hv]; omega
  ·rw [if_neg hv]; exact Nat.min_le_right _ _
theorem zmO (v : Int) (n d : Nat) : (if v < 0 then max (v + (n : Int)) 0 else min v (n : Int)) = ((sIx n d (some v) : Nat) : Int) := by
 show (if v < 0 then max (v + (n : Int)) 0 else min v (n : Int)) = (((if v < 0 then (v + (n : Int)).toNat else min v.toNat n) : Nat) : Int)
 by_cases hv : v < 0
 ·simp only [if_pos hv]; omega
 ·simp only [if_neg hv]; omega
theorem zlc (lo hi : Option Int) (n : Nat) : Builtin.Slice.sliceAdjust lo hi 1 (n : Int) = (((sIx n 0 lo : Nat) : Int), ((sIx n n hi : Nat) : Int)) := by
 have h1 : ¬ ((1 : Int) < 0) := by omega
 unfold Builtin.Slice.sliceAdjust
 simp only [h1, if_false]
 refine Prod.ext ?_ ?_
 ·cases lo with
  | none => rfl
  | some v => exact zmO v n 0
 ·cases hi with
  | none => rfl
  | some v => exact zmO v n n
theorem zkO (i j : Nat) : Builtin.Slice.slicePlaces (i : Int) (j : Int) 1 = j - i := by
 unfold Builtin.Slice.slicePlaces
 have h1 : (1 : Int) > 0 := by omega
 simp only [h1, if_true, Int.ediv_one]
 split <;> omega
theorem zhc {v : Value} {o : Option Int} {Q : Option Int -> Shared -> Prop} (p : IsPart v o) (h : Q o s) : wpAny (model prog w) A (Builtin.Slice.slicePartIndex v) Q E s := by
 cases p with
 | none => exact slicePart_none h
 | int i t => exact slicePart_int h
theorem zfK {sl : Addr} {vl vu : Value} {lo hi : Option Int} {n : Nat} {Q : Int × Int × Nat -> Shared -> Prop} (hs : s.heap.IsSliceOf sl vl vu .none) (pl : IsPart vl lo) (pu : IsPart vu hi)
  (h : Q (((sIx n 0 lo : Nat) : Int), 1, sIx n n hi - sIx n 0 lo) s) : wpAny (model prog w) A (Builtin.Slice.sliceApplied (.ref sl) (pure (n : Int))) Q E s := by
 obtain ⟨os, hos, hcs, hds⟩ := id hs
 unfold Builtin.Slice.sliceApplied Builtin.Slice.sliceFields
 refine wpAny_bind (wpAny_bind (wpAny_field hos hds (x := vl) rfl (wpAny_bind (wpAny_field hos hds (x := vu) rfl (wpAny_bind (wpAny_field hos hds (x := .none) rfl (wpAny_pure ?_)))))))
 refine wpAny_bind (slicePart_none ?_)
 show wpAny _ _ (if ((1 : Int) == 0) = true then _ else _) _ _ s
 rw [if_neg (by decide)]
 refine wpAny_bind (zhc pl (wpAny_bind (zhc pu (wpAny_bind (wpAny_pure ?_)))))
 show wpAny _ _ (match Builtin.Slice.sliceAdjust lo hi 1 (n : Int) with | (lo, hi) => pure (lo, (1 : Int), Builtin.Slice.slicePlaces lo hi 1)) _ _ s
 rw [zlc lo hi n]
 show wpAny _ _ (pure (((sIx n 0 lo : Nat) : Int), (1 : Int), Builtin.Slice.slicePlaces ((sIx n 0 lo : Nat) : Int) ((sIx n n hi : Nat) : Int) 1)) _ _ s
 rw [zkO]
 exact wpAny_pure h
theorem znv (xs : Array Value) (i k : Nat) : ((List.range k).filterMap fun (m : Nat) => xs[((i : Int) + (m : Int) * 1).toNat]?).toArray = ((xs.toList.drop i).take k).toArray := by
 have e : (fun (m : Nat) => xs[((i : Int) + (m : Int) * 1).toNat]?) = fun m => xs[i + m]? := by
  funext m
  have : ((i : Int) + (m : Int) * 1).toNat = i + m := by omega
  rw [this]
 rw [e]
 have := pick_run xs i k
 rw [List.filterMap_map] at this
 have e2 : ((fun x => xs[x]?) ∘ fun x => i + x) = fun m => xs[i + m]? := rfl
 rw [e2] at this
 rw [this]
theorem getItem_tuple_cut {t sl : Addr} {items : Array Value} {vl vu : Value} {lo hi : Option Int} {Q : Value -> Shared -> Prop} (ht : IsTup s.heap t items) (hs : s.heap.IsSliceOf sl vl vu .none) (pl : IsPart vl lo) (pu : IsPart vu hi)
  (hw : ¬ (sIx items.size 0 lo = 0 /\ sIx items.size items.size hi = items.size))
  (h : Q (.ref s.heap.objs.size) { s with heap := s.heap.push { cls := .type "tuple", data := .seq ((items.toList.drop (sIx items.size 0 lo)).take (sIx items.size items.size hi - sIx items.size 0 lo)).toArray } })
  (hsz : items.size <= sizeLine) : wpAny (model prog w) A (getItem (.ref t) (.ref sl)) Q E s := by
 have htake : sizeOk (.seq ((items.toList.drop (sIx items.size 0 lo)).take (sIx items.size items.size hi - sIx items.size 0 lo)).toArray) := by
  show ((items.toList.drop (sIx items.size 0 lo)).take (sIx items.size items.size hi - sIx items.size 0 lo)).toArray.size <= sizeLine
  rw [List.size_toArray, List.length_take, List.length_drop, Array.length_toList]
  omega
 have hj : sIx items.size items.size hi <= items.size := zq2 _ _ (Nat.le_refl _) hi
 obtain ⟨os, hos, hcs, hds⟩ := id hs
 have hTs : s.TypeIs (.ref sl) "slice" := ⟨os, hos, hcs⟩
 unfold getItem
 try with_reducible refine wpAny_holding ?_
 first | refine wpAny_bind (wpAny_pure ?_) | skip
 refine wpAny_bind (wpAny_sequenceKey ht.typeIs (by decide) ?_)
 refine wpAny_bind (wpAny_callSpecial?_slot (name := Str.ofString "__getitem__") ht.typeIs PyProof.Rows.slot_tuple_getitem
  (wpAny_call_entry PyProof.Rows.slot_tuple_getitem ht.typeIs entry_tuple_getitem ?_ (args_tuple_getitem _ _)))
 show wpAny _ _ (Builtin.Tuple.tupleItemsOf (.ref t) >>= _) _ _ s
 refine wpAny_bind (tupleItemsOf_ ht ?_)
 refine wpAny_bind (wpAny_typeOf hTs ?_)
 rw [if_pos (by decide)]
 refine wpAny_bind (zfK hs pl pu ?_)
 have hno : ¬ ((((sIx items.size 0 lo : Nat) : Int) == 0 && (1 : Int) == 1 && (sIx items.size items.size hi - sIx items.size 0 lo) == items.size) = true) := by
  intro q
  rw [Bool.and_eq_true, Bool.and_eq_true] at q
  have q1 : ((sIx items.size 0 lo : Nat) : Int) = 0 := eq_of_beq q.1.1
  have q2 : sIx items.size items.size hi - sIx items.size 0 lo = items.size := eq_of_beq q.2
  exact hw ⟨by omega, by omega⟩
 show wpAny _ _ (if (((sIx items.size 0 lo : Nat) : Int) == 0 && (1 : Int) == 1 && (sIx items.size items.size hi - sIx items.size 0 lo) == items.size) = true then _ else _) _ _ s
 rw [if_neg hno, znv]
 first
  | exact wpAny_bind (m := Builtin.Tuple.tupleExact _) (wpAny_newObj_type (wpAny_pure ⟨_, rfl, wpAny_pure h⟩) htake)
  | exact wpAny_bind (m := Builtin.Tuple.tupleExact _) (wpAny_newObj_type (wpAny_bind (wpAny_pure (wpAny_pure ⟨_, rfl, wpAny_pure h⟩))) htake)
  | exact wpAny_bind (wpAny_bind (m := Builtin.Tuple.tupleExact _) (wpAny_newObj_type (wpAny_pure (wpAny_pure ⟨_, rfl, wpAny_pure h⟩)) htake))
  | exact wpAny_bind (wpAny_bind (m := Builtin.Tuple.tupleExact _) (wpAny_newObj_type (wpAny_pure ⟨_, rfl, wpAny_pure h⟩) htake))
end
end HT
namespace L2
open PySem PySem.Spec PyProof.Rows
abbrev zwi := zxd -> zxg -> (Option Int -> zxg -> Prop) -> Prop
def zwd (X : Cx) (e : Option Expr) (t : zwi) : Prop :=
 ∀ (pins : List (Addr × Obj)) (s : Shared) (σ : zxd) (H : zxg) (Q : Option Int -> zxg -> Prop), Inv X pins σ H s -> t σ H Q ->
  wpAny (model X.prog X.w) X.A (evalPart e X.env) (fun u s' => ∃ o H', Inv X pins σ H' s' /\ IsPart u o /\ Q o H') X.xe s
def zo4 : zwi := fun _ H Q => Q none H
def zsr (t : zw8) : zwi := fun σ H Q => t σ H fun x H1 => ∃ i, x = .int i /\ Q (some i) H1
section
variable {X : Cx} {e : Expr} {te : zw8} {lo hi : Option Expr} {tl th : zwi} {pos p2 : Pos}
theorem zpx : zwd X none zo4 := by
 intro pins s σ H Q I h
 rw [evalPart_none]
 exact wpAny_pure ⟨none, H, I, .none, h⟩
theorem zpw (h : zxb X e te) : zwd X (some e) (zsr te) := by
 intro pins s σ H Q I hw
 rw [evalPart_some]
 refine zt9 (h pins s σ H _ I hw) fun u s1 ⟨x, H1, I1, r1, q1⟩ => ?_
 obtain ⟨i, rfl, q⟩ := q1
 obtain ⟨t, rfl⟩ := r1
 exact ⟨some i, H1, I1, .int i t, q⟩
def zvz (X : Cx) (r : V -> Option Int -> Option Int -> zxg -> zw3 -> Prop) : Prop :=
 ∀ (pins : List (Addr × Obj)) (s : Shared) (σ : zxd) (H : zxg) (x : V) (v vl vu : Value) (lo hi : Option Int) (sl : Addr) (Q : zw3), Inv X pins σ H s -> zb6 x v -> s.heap.IsSliceOf sl vl vu .none -> IsPart vl lo -> IsPart vu hi -> r x lo hi H Q ->
  ∃ T id, typeLookup (.type T) "__getitem__" = pure (some (.builtin id)) /\ s.TypeIs v T /\ wpAny (model X.prog X.w) X.A (getItem v (.ref sl)) (zwP X pins σ Q) X.xe s
theorem zvz.or {r r' : V -> Option Int -> Option Int -> zxg -> zw3 -> Prop} (h : zvz X r) (h' : zvz X r') : zvz X (fun x lo hi H Q => r x lo hi H Q \/ r' x lo hi H Q) := by
 intro pins s σ H x v vl vu lo hi sl Q I rx hs pl pu q
 rcases q with q | q
 ·exact h pins s σ H x v vl vu lo hi sl Q I rx hs pl pu q
 ·exact h' pins s σ H x v vl vu lo hi sl Q I rx hs pl pu q
def zua (r : V -> Option Int -> Option Int -> zxg -> zw3 -> Prop) (te : zw8) (tl th : zwi) : zw8 := fun σ H Q => te σ H fun x H1 => tl σ H1 fun l H2 => th σ H2 fun u H3 => r x l u H3 Q
theorem znx {r : V -> Option Int -> Option Int -> zxg -> zw3 -> Prop} (hr : zvz X r) (he : zxb X e te) (hl : zwd X lo tl) (hu : zwd X hi th) : zxb X (.Subscript e (.Slice lo hi none p2) pos) (zua r te tl th) := by
 intro pins s σ H Q I h
 refine Subscript_ (zt9 (he pins s σ H _ I h) fun v s1 ⟨x, H1, I1, r1, q1⟩ => ?_)
 refine wpAny_Slice (zt9 (hl pins s1 σ H1 _ I1 q1) fun vl s2 ⟨l, H2, I2, pl, q2⟩ => zt9 (hu pins s2 σ H2 _ I2 q2) fun vu s3 ⟨u, H3, I3, pu, q3⟩ => ?_)
 rw [evalPart_none]
 refine wpAny_pure ?_
 have I4 : Inv X pins σ H3 { s3 with heap := s3.heap.push { cls := .type "slice", data := .fields #[vl, vu, .none] } } := I3.kept (t' := s3.toks) fun b zw9 q => Heap.get?_push_of_some _ q
 obtain ⟨T, id, hT, ht, hg⟩ := hr pins { s3 with heap := s3.heap.push { cls := .type "slice", data := .fields #[vl, vu, .none] } } σ H3 x v vl vu l u s3.heap.objs.size Q I4 r1 (Heap.IsSliceOf.new ..) pl pu q3
 show wpAny (model X.prog X.w) X.A (subscriptTail e (.Slice lo hi none p2) v (.ref s3.heap.objs.size)) (zwP X pins σ Q) X.xe { s3 with heap := s3.heap.push { cls := .type "slice", data := .fields #[vl, vu, .none] } }
 exact tail_any (ops := [.ref s3.heap.objs.size, v]) ht hT hg (by with_unfolding_all rfl)
def zoO (xs : List V) (lo hi : Option Int) : List V := (xs.drop (HT.sIx xs.length 0 lo)).take (HT.sIx xs.length xs.length hi - HT.sIx xs.length 0 lo)
theorem zgD (xs : List V) (lo hi : Option Int) : (zoO xs lo hi).length <= xs.length := by
 unfold zoO
 rw [List.length_take, List.length_drop]
 omega
def ztI (K : PySem.W.Frag) : V -> Option Int -> Option Int -> zxg -> zw3 -> Prop := fun x lo hi H Q => ∃ a xs, x = .ref a /\ zvx K H a xs /\
 ¬ (HT.sIx xs.length 0 lo = 0 /\ HT.sIx xs.length xs.length hi = xs.length) /\ ∀ p, H p = none -> Q (.ref p) (zt0 H p (.tup (zoO xs lo hi)))
theorem zqY : zvz X (ztI X.K) := by
 intro pins s σ H x v vl vu lo hi sl Q I rx hs pl pu h
 obtain ⟨a, xs, rfl, hx, hw, q⟩ := h
 cases rx
 obtain ⟨its, r, ht, hz⟩ := I.tuple hx
 have hlen : its.toArray.size = xs.length := by rw [List.size_toArray]; exact r.length.symm
 refine ⟨"tuple", _, PyProof.Rows.slot_tuple_getitem.lookup, ht.typeIs, ?_⟩
 refine HT.getItem_tuple_cut ht hs pl pu (by rw [hlen]; exact hw) ?_ (by rw [hlen]; exact hz)
 rw [hlen]
 refine ⟨.ref s.heap.objs.size, _, I.laid (t' := s.toks) (o := .tup (zoO xs lo hi)) (fun b zw9 q => Heap.get?_push_of_some _ q) (Nat.le_refl _) ?_, rfl, q _ (I.hok.fresh (Nat.le_refl _))⟩
 exact ⟨Nat.le_trans (zgD xs lo hi) hz, _, (r.drop (HT.sIx xs.length 0 lo)).take (HT.sIx xs.length xs.length hi - HT.sIx xs.length 0 lo), IsTup.new _ _⟩
end
end L2
namespace L2
open PySem PySem.Spec PyProof.Rows
def zuY (n : Nat) (i : Int) : Option Nat := if 0 <= i then (if i < n then some i.toNat else none) else if -(n : Int) <= i then some (i + n).toNat else none
def atI {α : Type} (xs : List α) (i : Int) : Option α := (zuY xs.length i).bind fun j => xs[j]?
theorem zqb {n : Nat} {i : Int} {j : Nat} (h : zuY n i = some j) : seqIndex? i n = some j /\ j < n /\ -(n : Int) <= i /\ i < n := by
 unfold zuY at h
 by_cases h0 : 0 <= i
 ·rw [if_pos h0] at h
  by_cases h1 : i < n
  ·rw [if_pos h1] at h
   have e : i.toNat = j := Option.some.inj h
   exact ⟨by rw [seqIndex_of h0 h1, e], by omega, by omega, h1⟩
  ·rw [if_neg h1] at h; cases h
 ·rw [if_neg h0] at h
  by_cases h1 : -(n : Int) <= i
  ·rw [if_pos h1] at h
   have e : (i + n).toNat = j := Option.some.inj h
   exact ⟨by rw [seqIndex_neg (by omega) h1, e], by omega, h1, by omega⟩
  ·rw [if_neg h1] at h; cases h
theorem zjS {α : Type} {xs : List α} {i : Int} {v : α} (h : atI xs i = some v) : ∃ j, seqIndex? i xs.length = some j /\ xs[j]? = some v /\ j < xs.length /\ -(xs.length : Int) <= i /\ i < xs.length := by
 unfold atI at h
 cases e : zuY xs.length i with
 | none => rw [e] at h; cases h
 | some j =>
  rw [e] at h
  obtain ⟨h1, h2, h3, h4⟩ := zqb e
  exact ⟨j, h1, h, h2, h3, h4⟩
theorem zdP {α : Type} {xs : List α} {j : Nat} {v : α} (h : xs[j]? = some v) : atI xs (j : Int) = some v := by
 have hj : j < xs.length := (List.getElem?_eq_some_iff.mp h).1
 have e : zuY xs.length (j : Int) = some j := by
  unfold zuY
  rw [if_pos (by omega), if_pos (by omega)]; simp
 unfold atI; rw [e]; exact h
def zjU (b : Expr) : Prop := ∀ o i, subscripted b false o i = operate [o, i] (getItem o i)
def zvM (X : Cx) (r : zwW) : Prop :=
 ∀ (value slice : Expr) (pins : List (Addr × Obj)) (s : Shared) (σ : zxd) (H : zxg) (x y : V) (v u : Value) (Q : zw3), Inv X pins σ H s -> zb6 x v -> zb6 y u -> r x y H Q ->
  subscripted slice false v u = operate [v, u] (getItem v u) -> wpAny (model X.prog X.w) X.A (subscriptTail value slice v u) (zwP X pins σ Q) X.xe s
def zvG (X : Cx) (id : String) (r : V -> List V -> zxg -> zw3 -> Prop) : Prop :=
 ∀ (pins : List (Addr × Obj)) (s : Shared) (σ : zxd) (H : zxg) (x : V) (xs : List V) (v : Value) (us : List Value) (Q : zw3), Inv X pins σ H s -> zb6 x v -> zcb xs us -> r x xs H Q ->
  wpAny (model X.prog X.w) X.A (call (.builtin id) (v :: us)) (zwP X pins σ Q) X.xe s
section
variable {X : Cx} {a b : Expr} {ta tb : zw8} {pos : Pos}
theorem zvM.or {r r' : zwW} (h : zvM X r) (h' : zvM X r') : zvM X (fun x y H Q => r x y H Q \/ r' x y H Q) := by
 intro value slice pins s σ H x y v u Q I rx ry q hs
 rcases q with q | q
 ·exact h value slice pins s σ H x y v u Q I rx ry q hs
 ·exact h' value slice pins s σ H x y v u Q I rx ry q hs
theorem zrq {r : zwW} (hr : zvM X r) (ha : zxb X a ta) (hb : zxb X b tb) (hs : zjU b) : zxb X (.Subscript a b pos) (zuc r ta tb) := by
 intro pins s σ H Q I h
 exact Subscript_ (zs5 ha hb I h fun v u s2 x y H2 I2 rx ry q => hr a b pins s2 σ H2 x y v u Q I2 rx ry q (hs _ _))
def ztj (K : PySem.W.Frag) : zwW := fun x y H Q => ∃ p xs i v, x = .ref p /\ y = .int i /\ zvy K H p xs /\ atI xs i = some v /\ Q v H
def zth (K : PySem.W.Frag) : zwW := fun x y H Q => ∃ p xs i v, x = .ref p /\ y = .int i /\ zvx K H p xs /\ atI xs i = some v /\ Q v H
def zti : zwW := fun x y H Q => ∃ z i c, x = .str z /\ y = .int i /\ z.length <= sizeLine /\ atI z.cps.toList i = some c /\ Q (.str ⟨#[c]⟩) H
theorem zqa : zvM X (ztj X.K) := by
 intro value slice pins s σ H x y v u Q I rx ry h hs
 obtain ⟨p, xs, i, z, rfl, rfl, hq, he, q⟩ := h
 cases rx
 obtain ⟨t, rfl⟩ := ry
 obtain ⟨its, r, pl, hz⟩ := I.list hq
 obtain ⟨j, h1, h2, h3, h4, h5⟩ := zjS he
 obtain ⟨w, ew, rw'⟩ := r.get h2
 have hl := r.length
 have hn := ziF
 have fin : zwP X pins σ Q w s := ⟨z, H, I, rw', q⟩
 by_cases h0 : 0 <= i
 ·have hj : i.toNat = j := by
   rw [seqIndex_of h0 h5] at h1
   exact Option.some.inj h1
  exact item_listR pl.isList h0 (by omega) (by rw [hj]; simpa using ew) fin hs
 ·have hj : (i + (its.toArray.size : Int)).toNat = j := by
   rw [seqIndex_neg (by omega) h4] at h1
   rw [List.size_toArray, ← hl]
   exact Option.some.inj h1
  exact subscriptTail_builtinR (x := w) pl.isList.typeIs slot_list_getitem.lookup
   (wpAny_getItem_list_neg (Q := fun r s' => r = w /\ zwP X pins σ Q r s') pl.isList (by omega) (by rw [List.size_toArray] <;> omega) (by omega) (by rw [hj]; simpa using ew) ⟨rfl, fin⟩) hs
theorem zrM : zvM X (zth X.K) := by
 intro value slice pins s σ H x y v u Q I rx ry h hs
 obtain ⟨p, xs, i, z, rfl, rfl, hq, he, q⟩ := h
 cases rx
 obtain ⟨t, rfl⟩ := ry
 obtain ⟨its, r, pl, hz⟩ := I.tuple hq
 obtain ⟨j, h1, h2, h3, h4, h5⟩ := zjS he
 obtain ⟨w, ew, rw'⟩ := r.get h2
 have hl := r.length
 have hn := ziF
 have fin : zwP X pins σ Q w s := ⟨z, H, I, rw', q⟩
 exact subscriptTail_builtinR (x := w) pl.typeIs slot_tuple_getitem.lookup
  (getItem_tuple (j := j) (Q := fun r s' => r = w /\ zwP X pins σ Q r s') pl (by omega) (by omega) (by rw [List.size_toArray, ← hl]; exact h1) (by simpa using ew) ⟨rfl, fin⟩) hs
theorem zrN : zvM X zti := by
 intro value slice pins s σ H x y v u Q I rx ry h hs
 obtain ⟨z, i, c, rfl, rfl, hz, he, q⟩ := h
 obtain ⟨t, rfl⟩ := rx
 obtain ⟨t', rfl⟩ := ry
 obtain ⟨j, h1, h2, h3, h4, h5⟩ := zjS he
 have hl : z.cps.toList.length = z.length := by simp [Str.length]
 rw [hl] at h1 h4 h5
 have hn := ziF
 exact tail_any (typeIs_str s z t) slot_str_getitem.lookup (getItem_str (c := c) (by
  have e1 : decide (i < -(2 ^ 63 : Int)) = false := decide_eq_false (by omega)
  have e2 : decide (i ≥ 2 ^ 63) = false := decide_eq_false (by omega)
  rw [e1, e2, Bool.or_false]) (by rw [h1]; simpa using h2) ⟨.str ⟨#[c]⟩, H, I.tok _, ⟨_, rfl⟩, q⟩) hs
def zuy (K : PySem.W.Frag) : zwW := fun x y H Q => ztj K x y H Q \/ zth K x y H Q \/ zti x y H Q
theorem zoz : zvM X (zuy X.K) := zqa.or (zrM.or zrN)
theorem zim (lo hi : Option Int) (n : Nat) : (sliceBounds lo hi none n).1 = ((HT.sIx n 0 lo : Nat) : Int) /\ (sliceBounds lo hi none n).2.1 = ((HT.sIx n n hi : Nat) : Int) /\ (sliceBounds lo hi none n).2.2 = 1 := by
 refine ⟨?_, ?_, rfl⟩
 ·cases lo with
  | none => simp [sliceBounds, HT.sIx]
  | some i =>
   simp only [sliceBounds, HT.sIx, Option.getD_none, show (1 : Int) > 0 by decide, if_true]
   by_cases h : i < 0
   ·simp only [h, if_true] <;> omega
   ·simp only [h, if_false] <;> omega
 ·cases hi with
  | none => simp [sliceBounds, HT.sIx]
  | some i =>
   simp only [sliceBounds, HT.sIx, Option.getD_none, show (1 : Int) > 0 by decide, if_true]
   by_cases h : i < 0
   ·simp only [h, if_true] <;> omega
   ·simp only [h, if_false] <;> omega
theorem zhB (its : List Value) (lo hi : Option Int) : slicePick its.toArray lo hi none = ((its.drop (HT.sIx its.length 0 lo)).take (HT.sIx its.length its.length hi - HT.sIx its.length 0 lo)).toArray := by
 obtain ⟨h1, h2, h3⟩ := zim lo hi its.toArray.size
 unfold slicePick
 rw [h1, h2, h3]
 simp only [sliceRange_one, pick_run, List.size_toArray] <;> rfl
def ztJ (K : PySem.W.Frag) : V -> Option Int -> Option Int -> zxg -> zw3 -> Prop := fun x lo hi H Q => ∃ a xs, x = .ref a /\ zvy K H a xs /\ ∀ p, H p = none -> Q (.ref p) (zt0 H p (.lst (zoO xs lo hi)))
theorem zpb : zvz X (ztJ X.K) := by
 intro pins s σ H x v vl vu lo hi sl Q I rx hs pl pu h
 obtain ⟨a, xs, rfl, hx, q⟩ := h
 cases rx
 obtain ⟨its, r, ht, hz⟩ := I.list hx
 have hlen := r.length
 refine ⟨"list", _, slot_list_getitem.lookup, ht.isList.typeIs, ?_⟩
 refine wpAny_getItem_list_slice ht.isList hs pl pu .none (by simp) ?_ (by rw [List.size_toArray] <;> omega)
 rw [zhB, ← hlen]
 refine ⟨.ref s.heap.objs.size, _, I.laid (t' := s.toks) (o := .lst (zoO xs lo hi)) (fun b zw9 q => Heap.get?_push_of_some _ q) (Nat.le_refl _) ?_, rfl, q _ (I.hok.fresh (Nat.le_refl _))⟩
 exact ⟨Nat.le_trans (zgD xs lo hi) hz, _, 0, (r.drop (HT.sIx xs.length 0 lo)).take (HT.sIx xs.length xs.length hi - HT.sIx xs.length 0 lo), Heap.get?_push_size _ rfl⟩
theorem zeR : zeZ X (.type "tuple") (fun xs H Q => ∃ p ys, xs = [.ref p] /\ ((zvy X.K H p ys /\ ∀ l, H l = none -> Q (.ref l) (zt0 H l (.tup ys))) \/ (zvx X.K H p ys /\ Q (.ref p) H))) := by
 intro pins s σ H xs us Q I r h
 obtain ⟨p, ys, rfl, h⟩ := h
 obtain ⟨u, rfl, rx⟩ := zfY r
 cases rx
 rcases h with ⟨hq, q⟩ | ⟨hq, q⟩
 ·obtain ⟨its, r', pl, hz⟩ := I.list hq
  have hlen := r'.length
  refine call_tuple_list pl.isList (fun h' kp => ?_) (by simp only [List.size_toArray] <;> omega)
  have I1 : Inv X pins σ H { s with heap := h' } := I.kept (t' := s.toks) kp
  have I2 : Inv X pins σ (zt0 H h'.objs.size (.tup ys)) { s with heap := h'.push { cls := .type "tuple", data := .seq its.toArray } } :=
   I1.laid (t' := s.toks) (fun b o e => Heap.get?_push_of_some _ e) (Nat.le_refl _) (show zcF X.prog X.w _ _ _ (.tup ys) from ⟨hz, its, r', IsTup.new _ _⟩)
  exact ⟨.ref h'.objs.size, _, I2, rfl, q _ (I1.hok.fresh (Nat.le_refl _))⟩
 ·obtain ⟨its, r', pl, hz⟩ := I.tuple hq
  exact call_tuple_same pl ⟨.ref p, H, I, rfl, q⟩
def zt2 (K : PySem.W.Frag) (T : String) (x : V) (H : zxg) : Prop := match x with
 | .str _ => T = "str"
 | .int _ => T = "int"
 | .ref p => (T = "list" /\ ∃ xs, zvy K H p xs) \/ (T = "tuple" /\ ∃ o, K.lookup p = some o /\ o.cls = .type "tuple" /\ o.dict = none) \/
   (T = "dict" /\ ((∃ kvs, H p = some (.dK kvs)) \/ ∃ kvs, H p = some (.dT kvs))) \/ (T = "set" /\ ∃ S n, H p = some (.set S n))
 | _ => False
theorem zqQ {pins : List (Addr × Obj)} {σ : zxd} {H : zxg} {s : Shared} {T : String} {x : V} {v : Value} (I : Inv X pins σ H s) (r : zb6 x v) (ty : zt2 X.K T x H) :
  s.TypeIs v T /\ ∀ a, v = .ref a -> ∃ zw9, s.heap.get? a = some zw9 /\ zw9.dict = none := by
 cases x with
 | str z =>
  obtain ⟨t, rfl⟩ := r
  cases (show T = "str" from ty)
  exact ⟨typeIs_str s z t, fun _ e => nomatch e⟩
 | int i =>
  obtain ⟨t, rfl⟩ := r
  cases (show T = "int" from ty)
  exact ⟨typeIs_int s i t, fun _ e => nomatch e⟩
 | ref p =>
  cases r
  rcases ty with ⟨rfl, xs, hq⟩ | ⟨rfl, o, hk, hc, hd⟩ | ⟨rfl, hk⟩ | ⟨rfl, S, n, hk⟩
  ·obtain ⟨its, _, pl, _⟩ := I.list hq
   refine ⟨pl.isList.typeIs, fun a e => ?_⟩
   cases e
   obtain ⟨o, n, e, c, hd, _⟩ := pl
   exact ⟨o, e, hd⟩
  ·refine ⟨⟨o, I.kIn p o hk, hc⟩, fun a e => ?_⟩
   cases e
   exact ⟨o, I.kIn _ o hk, hd⟩
  ·have z : ∃ o, s.heap.get? p = some o /\ o.ExactDict := by
    rcases hk with ⟨kvs, hk⟩ | ⟨kvs, hk⟩
    ·obtain ⟨_, _, _, _, o, _, _, e, ex, _⟩ := I.hok p _ hk
     exact ⟨o, e, ex⟩
    ·obtain ⟨_, _, _, _, o, _, _, e, ex, _⟩ := I.hok p _ hk
     exact ⟨o, e, ex⟩
   obtain ⟨o, e, ex⟩ := z
   refine ⟨⟨o, e, ex.1⟩, fun a e2 => ?_⟩
   cases e2
   exact ⟨o, e, ex.2.1⟩
  ·obtain ⟨o, _, _, _, e, ex, _⟩ := I.hok p _ hk
   refine ⟨⟨o, e, ex.1⟩, fun a e2 => ?_⟩
   cases e2
   exact ⟨o, e, ex.2.1⟩
 | _ => exact False.elim ty
def zuf (K : PySem.W.Frag) (T : String) (r : V -> List V -> zxg -> zw3 -> Prop) (to : zw8) (t : zwS) : zw8 := fun σ H Q => to σ H fun x H1 => zt2 K T x H1 /\ t σ H1 fun xs H2 => r x xs H2 Q
variable {o e : Expr} {es : List Expr} {to : zw8} {t : zwS} {name : Str} {apos cpos : Pos} {T id : String} {r : V -> List V -> zxg -> zw3 -> Prop}
theorem zpH (pa : PlainAttrs T) (slot : Slot T name id) (hty : typeOf (.builtin id) = pure (.type "method_descriptor")) (hm : zvG X id r) (ho : zxb X o to) (ha : zwN X (e :: es) t)
  (hbase : attributeBase o name X.env (eval o X.env) = eval o X.env := by rfl)
  (hfew : ((backTo cpos (starEach (e :: es) X.env)).all (fun x => !x.1) && (backToKw cpos (keywordEach [] X.env)).all (fun x => x.1.isSome)
   && decide ((e :: es).length + ([] : List Keyword).length + (if ([] : List Keyword).isEmpty then 0 else 1) < 30)) = true := by rfl)
  (hline : (apos.endLine == cpos.line) = true := by rfl) (hs : starEach (e :: es) X.env = (false, eval e X.env) :: starEach es X.env := by rfl) (hplain : (backTo cpos (starEach es X.env)).any (·.1) = false := by rfl) :
  zxb X (.Call (.Attribute o name apos) (e :: es) [] cpos) (zuf X.K T r to t) := by
 intro pins s σ H Q I h
 refine wpAny_Call_method_late hbase hfew hline rfl (zt9 (ho pins s σ H _ I h) fun v s1 ⟨x, H1, I1, r1, ty, q1⟩ => ?_)
 obtain ⟨h1, h2⟩ := zqQ I1 r1 ty
 refine ⟨T, id, pa, slot, hty, h1, h2, ?_⟩
 have hA := ha cpos pins s1 σ H1 _ I1 q1
 rw [hs] at hA ⊢
 refine Calls.callWith_builtin (by show (false || (backTo cpos (starEach es X.env)).any (·.1)) = false; rw [hplain] <;> rfl) (Calls.evalArgs_plain ?_)
 exact zt9 hA fun us s2 ⟨vs, H2, I2, r2, q2⟩ => hm pins s2 σ H2 x vs v us Q I2 r1 r2 q2
end
end L2
namespace L2
open PySem PySem.Spec PyProof.Rows
def zvH (X : Cx) (id : String) (r : V -> List V -> zxg -> zw3 -> Prop) : Prop :=
 ∀ (pins : List (Addr × Obj)) (s : Shared) (σ : zxd) (H : zxg) (x : V) (xs : List V) (v : Value) (us : List Value) (Q : zw3), Inv X pins σ H s -> zb6 x v -> zcb xs us -> r x xs H Q ->
  wpAny (model X.prog X.w) X.A (call (.builtin id) (v :: us)) (zwP X pins σ Q) X.xe s
theorem zcb.one : ∀ {x : V} {us : List Value}, zcb [x] us -> ∃ u, us = [u] /\ zb6 x u
 | _, _, .cons r .nil => ⟨_, rfl, r⟩
theorem zcb.rep {xs : List V} {us : List Value} (h : zcb xs us) : ∀ k : Nat, zcb (List.replicate k xs).flatten (List.replicate k us).flatten
 | 0 => .nil
 | k + 1 => by
  rw [List.replicate_succ, List.replicate_succ, List.flatten_cons, List.flatten_cons]
  exact zcb.append h (zcb.rep h k)
theorem ziM (its : List Value) : ∀ (k : Nat) (acc : List Value),
  List.foldl (fun x1 x2 => x1 ++ x2) acc.toArray (List.replicate k its.toArray) = (acc ++ (List.replicate k its).flatten).toArray
 | 0, acc => by simp
 | k + 1, acc => by
  have e : acc.toArray ++ its.toArray = (acc ++ its).toArray := by simp
  have e2 : (acc ++ its) ++ (List.replicate k its).flatten = acc ++ (List.replicate (k + 1) its).flatten := by
   rw [List.replicate_succ, List.flatten_cons, List.append_assoc]
  rw [← e2, ← ziM its k (acc ++ its), ← e, List.replicate_succ, List.foldl_cons]
section
variable {X : Cx} {pins : List (Addr × Obj)} {σ : zxd} {H : zxg} {s : Shared} {l b : Addr} {xs ys zs : List V}
theorem Inv.lset {its its' : List Value} {n : Nat} {f : Array Value -> Array Value} {t' : Nat} (I : Inv X pins σ H s) (hH : H l = some (.lst xs))
  (e : s.heap.get? l = some { cls := .type "list", data := .seq its.toArray n }) (hf : f its.toArray = its'.toArray) (hv : zcb ys its') (hz : ys.length <= sizeLine) :
  Inv X pins σ (zt0 H l (.lst ys)) { s with heap := s.heap.update l (Obj.mapSeq f), toks := t' } := by
 have q := PySem.IsL.update e f
 rw [hf] at q
 refine I.write (x := l) (e := l) (by rw [hH]; exact trivial) (.inl rfl) (fun b' u hb hu => (Heap.get?_update_other s.heap (Obj.mapSeq f) (Ne.symm hb)).trans hu) ⟨_, q⟩ ?_
 exact ⟨hz, its', _, hv, q⟩
theorem Inv.lnew {its : List Value} {t' : Nat} (I : Inv X pins σ H s) (hv : zcb ys its) (hz : ys.length <= sizeLine) :
  Inv X pins σ (zt0 H s.heap.objs.size (.lst ys)) { s with heap := s.heap.push { cls := .type "list", data := .seq its.toArray }, toks := t' } :=
 I.laid (fun _ _ q => Heap.get?_push_of_some _ q) (Nat.le_refl _) ⟨hz, its, 0, hv, Heap.get?_push_size _ rfl⟩
theorem Inv.fresh (I : Inv X pins σ H s) : H s.heap.objs.size = none := I.hok.fresh (Nat.le_refl _)
theorem Inv.lstM (I : Inv X pins σ H s) (hH : H l = some (.lst xs)) : xs.length <= sizeLine /\ ∃ (its : List Value) (n : Nat), zcb xs its /\ xs.length = its.length /\ s.heap.get? l = some { cls := .type "list", data := .seq its.toArray n } := by
 obtain ⟨z, its, n, r, e⟩ := I.hok l _ hH
 exact ⟨z, its, n, r, r.length, e⟩
theorem zkd {n : Nat} (h : n <= sizeLine) : Builtin.List.listTooLong n = false := by
 unfold Builtin.List.listTooLong
 exact decide_eq_false (by omega)
end
section
variable {X : Cx}
def zpm : V -> List V -> zxg -> zw3 -> Prop := fun x vs H Q => ∃ l xs y, x = .ref l /\ vs = [y] /\ H l = some (.lst xs) /\ xs.length < sizeLine /\ Q .non (zt0 H l (.lst (xs ++ [y])))
theorem zgk : zvH X "list.append" zpm := by
 intro pins s σ H x vs v us Q I rx rv h
 obtain ⟨l, xs, y, rfl, rfl, hH, hz, q⟩ := h
 cases rx
 obtain ⟨u, rfl, ru⟩ := rv.one
 obtain ⟨z, its, n, r, hl, e⟩ := I.lstM hH
 refine call_meets F.slot_list_append ⟨_, e, rfl⟩ F.entry_list_append (F.args_list_append_2 _ _) (PySem.list_append l its.toArray n u (by rw [List.size_toArray]; omega)) ⟨e, ?_⟩
 refine ⟨.non, _, I.lset (its' := its ++ [u]) hH e (by simp) (r.append (.cons ru .nil)) ?_, rfl, q⟩
 rw [List.length_append, List.length_singleton]
 omega
def zpl : V -> List V -> zxg -> zw3 -> Prop := fun x vs H Q => ∃ l b xs zs, x = .ref l /\ vs = [.ref b] /\ H l = some (.lst xs) /\ H b = some (.lst zs) /\ xs.length + zs.length <= sizeLine /\ Q .non (zt0 H l (.lst (xs ++ zs)))
theorem zlT : zvH X "list.extend" zpl := by
 intro pins s σ H x vs v us Q I rx rv h
 obtain ⟨l, b, xs, zs, rfl, rfl, hH, hB, hz, q⟩ := h
 cases rx
 obtain ⟨u, rfl, ru⟩ := rv.one
 cases ru
 obtain ⟨z, its, n, r, hl, e⟩ := I.lstM hH
 obtain ⟨z2, its2, n2, r2, hl2, e2⟩ := I.lstM hB
 have hsz : its.toArray.size + its2.toArray.size <= sizeLine := by rw [List.size_toArray, List.size_toArray]; omega
 have hlong : ¬ (!its.toArray.isEmpty && Builtin.List.listTooLong (its.toArray.size + its2.toArray.size)) = true := by
  rw [zkd hsz, Bool.and_false]
  exact Bool.false_ne_true
 refine call_meets F.slot_list_extend ⟨_, e, rfl⟩ F.entry_list_extend (F.args_list_extend_2 _ _)
  (AutoSeq1.list_extend_list_list_0 l its.toArray n b its2.toArray n2 hlong (by rw [List.size_toArray]; omega) (by omega)) ⟨e, e2, ?_⟩
 refine ⟨.non, _, I.lset (its' := its ++ its2) hH e (by simp) (r.append r2) ?_, rfl, q⟩
 rw [List.length_append]
 omega
def zsD : zwW := fun x y H Q => ∃ l b xs zs, x = .ref l /\ y = .ref b /\ H l = some (.lst xs) /\ H b = some (.lst zs) /\ xs.length + zs.length <= sizeLine /\ ∀ p, H p = none -> Q (.ref p) (zt0 H p (.lst (xs ++ zs)))
theorem zrD : zvE X (binaryOp .Add) zsD := by
 intro pins s σ H x y v u Q I rx ry h
 obtain ⟨l, b, xs, zs, rfl, rfl, hH, hB, hz, q⟩ := h
 cases rx
 cases ry
 obtain ⟨z, its, n, r, hl, e⟩ := I.lstM hH
 obtain ⟨z2, its2, n2, r2, hl2, e2⟩ := I.lstM hB
 refine PySem.P.add_list e e2 ?_ (by rw [List.size_toArray, List.size_toArray]; omega)
 have ea : its.toArray ++ its2.toArray = (its ++ its2).toArray := by simp
 rw [ea]
 exact ⟨.ref _, _, I.lnew (t' := s.toks) (r.append r2) (by rw [List.length_append]; omega), rfl, q _ I.fresh⟩
def ztg : zwW := fun x y H Q => ∃ l k xs, x = .ref l /\ y = .int k /\ H l = some (.lst xs) /\ -(2 ^ 63) <= k /\ k < 2 ^ 63 /\ xs.length * k.toNat <= sizeLine /\
 ∀ p, H p = none -> Q (.ref p) (zt0 H p (.lst (List.replicate k.toNat xs).flatten))
theorem zl3 {α : Type} (xs : List α) (k : Nat) : (List.replicate k xs).flatten.length = k * xs.length := by
 induction k with
 | zero => simp
 | succ k ih => rw [List.replicate_succ, List.flatten_cons, List.length_append, ih, Nat.succ_mul, Nat.add_comm]
theorem zrx : zvE X (binaryOp .Mult) ztg := by
 intro pins s σ H x y v u Q I rx ry h
 obtain ⟨l, k, xs, rfl, rfl, hH, h1, h2, hz, q⟩ := h
 cases rx
 obtain ⟨t, rfl⟩ := ry
 obtain ⟨z, its, n, r, hl, e⟩ := I.lstM hH
 have hlen : its.toArray.size * k.toNat <= sizeLine := by rw [List.size_toArray, ← hl]; exact hz
 have hcap : ¬ its.toArray.size * k.toNat > (2 ^ 63 - 1) / 8 := by
  have : (sizeLine : Nat) <= (2 ^ 63 - 1) / 8 := by decide
  omega
 have hfit : ¬ (!Builtin.List.listFitsIndex k) = true := by
  rw [fitsIndex_both h1 h2]
  exact Bool.false_ne_true
 have hlong : ¬ Builtin.List.listTooLong (its.toArray.size * k.toNat) = true := by
  rw [zkd hlen]
  exact Bool.false_ne_true
 have hnew : List.foldl (fun x1 x2 => x1 ++ x2) #[] (List.replicate (if its.toArray.isEmpty = true then 0 else k.toNat) its.toArray) = (List.replicate k.toNat its).flatten.toArray := by
  have f0 : ∀ m : Nat, List.foldl (fun x1 x2 => x1 ++ x2) #[] (List.replicate m its.toArray) = (List.replicate m its).flatten.toArray := fun m => by
   have := ziM its m []
   rw [List.nil_append] at this
   exact this
  rw [f0]
  cases its with
  | nil => simp
  | cons a r' => rw [if_neg (by simp)]
 refine wpAny_binaryOp_repeat_ref (T := "list") (U := "int") (by decide) ⟨_, e, rfl⟩ (fun s' => typeIs_int s' k t) noFill_list_mul F.fills_int_mul F.slot_int_rmul repeat_list F.slot_int_index.lookup
  (call_meets F.slot_int_rmul (typeIs_int s k t) F.entry_int_rmul (F.args_int_rmul_2 _ _) (int___rmul___int_list k t l its.toArray n)
   ⟨e, rfl, ⟨_, e, rfl⟩, call_meets F.slot_list_mul ⟨_, e, rfl⟩ F.entry_list_mul (F.args_list_mul_2 _ _) (AutoListH.list___mul___list_int_3 l its.toArray n k t hfit hcap hlong) ⟨e, ?_⟩⟩)
 rw [hnew]
 exact ⟨.ref _, _, I.lnew (t' := s.toks) (r.rep k.toNat) (by rw [zl3, Nat.mul_comm]; exact hz), rfl, q _ I.fresh⟩
end
section
variable {prog : Program} {w : World} {A : Around} {E : Value -> Shared -> Prop} {s : Shared}
end
section
variable {X : Cx}
end
end L2
end
section
namespace L2
open PySem PySem.Spec PyProof.Rows
section
variable {κ : Type} [DecidableEq κ]
def zjY (kvs : List (κ × V)) (k : κ) : Option V := (kvs.find? fun kv => decide (kv.1 = k)).map (·.2)
def zhg (kvs : List (κ × V)) (k : κ) (v : V) : List (κ × V) :=
 if (kvs.any fun kv => decide (kv.1 = k)) = true then kvs.map (fun kv => if kv.1 = k then (kv.1, v) else kv) else kvs ++ [(k, v)]
theorem zfS {p : κ × V} {r : List (κ × V)} {k : κ} (e : p.1 = k) : zjY (p :: r) k = some p.2 := by simp [zjY, List.find?_cons, e]
theorem zfT {p : κ × V} {r : List (κ × V)} {k : κ} (e : ¬ p.1 = k) : zjY (p :: r) k = zjY r k := by simp [zjY, List.find?_cons, e]
theorem zjX (k : κ) : ∀ kvs : List (κ × V), (kvs.any fun kv => decide (kv.1 = k)) = (zjY kvs k).isSome
 | [] => rfl
 | p :: r => by
  rw [List.any_cons]
  by_cases e : p.1 = k
  ·simp only [zfS e, decide_eq_true e, Bool.true_or, Option.isSome_some]
  ·rw [zfT e, decide_eq_false e, Bool.false_or]; exact zjX k r
theorem zgo (kvs : List (κ × V)) (k : κ) (v : V) : (zhg kvs k v).length <= kvs.length + 1 := by
 unfold zhg
 split
 ·rw [List.length_map]; omega
 ·rw [List.length_append, List.length_cons, List.length_nil]; omega
theorem zii.isSome_eq {o : Option V} {u : Option Value} (r : zii o u) : o.isSome = u.isSome := by
 cases o with
 | none => cases u with
  | none => rfl
  | some _ => exact (show False from r).elim
 | some _ => cases u with
  | none => exact (show False from r).elim
  | some _ => rfl
theorem zii.getD {o : Option V} {u : Option Value} {d : V} {d' : Value} (r : zii o u) (rd : zb6 d d') : zb6 (o.getD d) (u.getD d') := by
 cases o with
 | none => cases u with
  | none => exact rd
  | some _ => exact (show False from r).elim
 | some _ => cases u with
  | none => exact (show False from r).elim
  | some _ => exact r
theorem zwQ.val {kvs : List (κ × V)} {vs : List (κ × Value)} (r : zwQ kvs vs) (k : κ) : zii (zjY kvs k) (valueAt vs k) := by
 unfold zwQ at r
 induction r with
 | nil => exact True.intro
 | @cons p q ps qs h t ih =>
  obtain ⟨h1, h2⟩ := h
  by_cases e : p.1 = k
  ·have e' : q.1 = k := h1.symm.trans e
   have b : valueAt (q :: qs) k = some q.2 := by simp [valueAt, List.find?_cons, e']
   rw [zfS e, b]; exact h2
  ·have e' : ¬ q.1 = k := fun z => e (h1.trans z)
   have b : valueAt (q :: qs) k = valueAt qs k := by simp [valueAt, List.find?_cons, e']
   rw [zfT e, b]; exact ih
theorem zwQ.any {kvs : List (κ × V)} {vs : List (κ × Value)} (r : zwQ kvs vs) (k : κ) : (kvs.any fun kv => decide (kv.1 = k)) = vs.any fun kv => decide (kv.1 = k) := by
 unfold zwQ at r
 induction r with
 | nil => rfl
 | cons h t ih => rw [List.any_cons, List.any_cons, ih, h.1]
theorem zwQ.repl {kvs : List (κ × V)} {vs : List (κ × Value)} (r : zwQ kvs vs) (k : κ) {y : V} {u : Value} (ry : zb6 y u) :
  zwQ (kvs.map fun kv => if kv.1 = k then (kv.1, y) else kv) (vs.map fun kv => if kv.1 = k then (kv.1, u) else kv) := by
 unfold zwQ at r ⊢
 induction r with
 | nil => exact .nil
 | @cons p q ps qs h t ih =>
  rw [List.map_cons, List.map_cons]
  refine .cons ?_ ih
  obtain ⟨h1, h2⟩ := h
  by_cases e : p.1 = k
  ·rw [if_pos e, if_pos (h1.symm.trans e)]; exact ⟨h1, ry⟩
  ·rw [if_neg e, if_neg (fun z => e (h1.trans z))]; exact ⟨h1, h2⟩
theorem zwQ.put {kvs : List (κ × V)} {vs : List (κ × Value)} (r : zwQ kvs vs) (k : κ) {y : V} {u : Value} (ry : zb6 y u) : zwQ (zhg kvs k y) (stored vs k u) := by
 unfold zhg stored
 rw [r.any k]
 by_cases e : (vs.any fun kv => decide (kv.1 = k)) = true
 ·rw [if_pos e, if_pos e]; exact r.repl k ry
 ·rw [if_neg e, if_neg e]; exact Paired.snoc r ⟨rfl, ry⟩
theorem zwQ.length {kvs : List (κ × V)} {vs : List (κ × Value)} (r : zwQ kvs vs) : kvs.length = vs.length := Paired.length r
end
theorem zjA {P : Program} {w : World} {k : zvK} {u : Value} (r : zb6 (zw7 k) u) : (zaW P w).is k u = true := by
 cases k with
 | inl i => obtain ⟨t, e⟩ := (show ∃ t, u = Value.int i t from r); subst e; exact zjv P w i t
 | inr x => obtain ⟨t, e⟩ := (show ∃ t, u = Value.str x t from r); subst e; exact zju P w x t
theorem ziH {P : Program} {w : World} : ∀ {ks : List zvK} {us : List Value}, zcb (ks.map zw7) us -> ItemsAre (zaW P w) ks us
 | [], _, r => by rw [List.map_nil] at r; cases r; exact .nil
 | k :: ks, _, r => by
  rw [List.map_cons] at r
  cases r with
  | cons h t => exact .cons (zjA h) (ziH t)
abbrev zwJ (H : zxg) : List (List zvK × V) -> List (List zvK × Addr × Value) -> Prop := Paired fun p q => p.1 = q.1 /\ H q.2.1 = some (.tup (p.1.map zw7)) /\ zb6 p.2 q.2.2
theorem zwJ.val {H : zxg} {kvs : List (List zvK × V)} {xs : List (List zvK × Addr × Value)} (r : zwJ H kvs xs) (k : List zvK) : zii (zjY kvs k) ((atKey xs k).map (·.2)) := by
 induction r with
 | nil => exact True.intro
 | @cons p q ps qs h t ih =>
  obtain ⟨h1, _, h2⟩ := h
  by_cases e : p.1 = k
  ·have e' : q.1 = k := h1.symm.trans e
   have b : atKey (q :: qs) k = some q.2 := by simp [atKey, List.find?_cons, e']
   rw [zfS e, b]; exact h2
  ·have e' : ¬ q.1 = k := fun z => e (h1.trans z)
   have b : atKey (q :: qs) k = atKey qs k := by simp [atKey, List.find?_cons, e']
   rw [zfT e, b]; exact ih
theorem zwJ.repl {H : zxg} {kvs : List (List zvK × V)} {xs : List (List zvK × Addr × Value)} (r : zwJ H kvs xs) (k : List zvK) {y : V} {u : Value} (ry : zb6 y u) :
  zwJ H (kvs.map fun kv => if kv.1 = k then (kv.1, y) else kv) (xs.map (putAt k u)) := by
 induction r with
 | nil => exact .nil
 | @cons p q ps qs h t ih =>
  rw [List.map_cons, List.map_cons]
  refine .cons ?_ ih
  obtain ⟨h1, h2, h3⟩ := h
  unfold putAt
  by_cases e : p.1 = k
  ·rw [if_pos e, if_pos (h1.symm.trans e)]; exact ⟨h1, h2, ry⟩
  ·rw [if_neg e, if_neg (fun z => e (h1.trans z))]; exact ⟨h1, h2, h3⟩
theorem zwJ.put {H : zxg} {kvs : List (List zvK × V)} {xs : List (List zvK × Addr × Value)} (r : zwJ H kvs xs) (k : List zvK) {b : Addr} {y : V} {u : Value} (hb : H b = some (.tup (k.map zw7))) (ry : zb6 y u) :
  zwJ H (zhg kvs k y) (storedH xs k b u) := by
 have e : (kvs.any fun kv => decide (kv.1 = k)) = (atKey xs k).isSome := by
  rw [zjX, (r.val k).isSome_eq, Option.isSome_map]
 unfold zhg storedH
 rw [e]
 by_cases q : (atKey xs k).isSome = true
 ·rw [if_pos q, if_pos q]; exact r.repl k ry
 ·rw [if_neg q, if_neg q]; exact Paired.snoc r ⟨rfl, hb, ry⟩
theorem zwJ.keeps {H H' : zxg} {kvs : List (List zvK × V)} {xs : List (List zvK × Addr × Value)} (r : zwJ H kvs xs) (ht : ∀ b ys, H b = some (.tup ys) -> H' b = some (.tup ys)) : zwJ H' kvs xs :=
 Paired.mapP r fun _ _ z => ⟨z.1, ht _ _ z.2.1, z.2.2⟩
section
variable {P : Program} {w : World} {H : zxg} {h : Heap} {a : Addr}
theorem zq3 {u : HO} (ok : zvT P w H h) (e : zwy H a u) : zcF P w H h a u := e.ok ok
theorem zk2 {kvs : List (zvK × V)} (ok : zvT P w H h) (e : zwy H a (.dK kvs)) : kvs.length <= sizeLine /\ (a == sysModules) = false /\ ∃ vs, zwQ kvs vs /\ h.DictOf (zaW P w) a vs :=
 show zcF P w H h a (.dK kvs) from zq3 ok e
theorem zsZ {kvs : List (zvK × V)} (ok : zvT P w H h) (e : H a = some (.dK kvs)) : kvs.length <= sizeLine /\ (a == sysModules) = false /\ ∃ vs, zwQ kvs vs /\ h.DictOf (zaW P w) a vs := zk2 ok (.inl e)
theorem zgs {ks : List zvK} (ok : zvT P w H h) (e : H a = some (.tup (ks.map zw7))) : (tupleKind (zaW P w)).is h ks a := by
 obtain ⟨_, its, r, o, h1, h2, n, h3⟩ := (show zcF P w H h a (.tup (ks.map zw7)) from ok a _ e)
 exact ⟨o, its.toArray, n, h1, h2, h3, by simpa using ziH r⟩
theorem zk1 {kvs : List (List zvK × V)} (ok : zvT P w H h) (e : zwy H a (.dT kvs)) : kvs.length <= sizeLine /\ (a == sysModules) = false /\
  ∃ xs, zwJ H kvs xs /\ h.DictOfH (tupleKind (zaW P w)) a xs := by
 obtain ⟨z, y, xs, r, o, es, ep, h1, h2, h3, h4, h5⟩ := (show zcF P w H h a (.dT kvs) from zq3 ok e)
 refine ⟨z, y, xs, r, o, es, ep, h1, h2, h3, h4, fun x hx => ?_, h5⟩
 have all : ∀ {l : List (List zvK × V)} {m : List (List zvK × Addr × Value)}, zwJ H l m -> ∀ x ∈ m, (tupleKind (zaW P w)).is h x.1 x.2.1 := by
  intro l m q
  induction q with
  | nil => intro x hx; exact nomatch hx
  | @cons p q ps qs hq t ih =>
   intro x hx
   rcases List.mem_cons.mp hx with e | hx
   ·subst e
    exact zgs ok (by rw [← hq.1]; exact hq.2.1)
   ·exact ih x hx
 exact all r x hx
theorem zsX {kvs : List (List zvK × V)} (ok : zvT P w H h) (e : H a = some (.dT kvs)) : kvs.length <= sizeLine /\ (a == sysModules) = false /\
  ∃ xs, zwJ H kvs xs /\ h.DictOfH (tupleKind (zaW P w)) a xs := zk1 ok (.inl e)
end
def zkC (H : zxg) (a : Addr) (y : V) (r : Option V) : Prop :=
 (∃ kvs k, zwy H a (.dK kvs) /\ y = zw7 k /\ r = zjY kvs k) \/ ∃ kvs k b, zwy H a (.dT kvs) /\ y = .ref b /\ H b = some (.tup (k.map zw7)) /\ r = zjY kvs k
def zsg (H : zxg) (a : Addr) (y v : V) (H' : zxg) : Prop :=
 (∃ kvs k, H a = some (.dK kvs) /\ y = zw7 k /\ kvs.length < sizeLine /\ H' = zt0 H a (.dK (zhg kvs k v))) \/
 ∃ kvs k b, H a = some (.dT kvs) /\ y = .ref b /\ H b = some (.tup (k.map zw7)) /\ kvs.length < sizeLine /\ H' = zt0 H a (.dT (zhg kvs k v))
theorem zkC.k {H : zxg} {a : Addr} {kvs : List (zvK × V)} {k : zvK} (e : H a = some (.dK kvs)) : zkC H a (zw7 k) (zjY kvs k) := .inl ⟨kvs, k, .inl e, rfl, rfl⟩
theorem zkC.t {H : zxg} {a b : Addr} {kvs : List (List zvK × V)} {k : List zvK} (e : H a = some (.dT kvs)) (eb : H b = some (.tup (k.map zw7))) : zkC H a (.ref b) (zjY kvs k) := .inr ⟨kvs, k, b, .inl e, rfl, eb, rfl⟩
theorem zsg.k {H : zxg} {a : Addr} {kvs : List (zvK × V)} {k : zvK} {v : V} (e : H a = some (.dK kvs)) (hl : kvs.length < sizeLine) : zsg H a (zw7 k) v (zt0 H a (.dK (zhg kvs k v))) := .inl ⟨kvs, k, e, rfl, hl, rfl⟩
section
variable {X : Cx} {pins : List (Addr × Obj)} {σ : zxd} {H : zxg} {s : Shared} {a : Addr} {y v : V} {u r : Value} {o : Option V} {A : Around} {E : Value -> Shared -> Prop}
theorem Inv.big (I : Inv X pins σ H s) : sysModules < s.heap.objs.size := by
 have h : mainGlobals < s.heap.objs.size := (I.mod.glob.keeps I.bk).lt
 exact Nat.lt_trans (by decide) h
theorem zmM {Q : Value -> Shared -> Prop} (hu : A.units + 1 < cLine) (I : Inv X pins σ H s) (g : zkC H a y (some v)) (ry : zb6 y u) (h : ∀ w' s', Inv X pins σ H s' -> zb6 v w' -> Q w' s') :
  wpAny (model X.prog X.w) A (getItem (.ref a) u) Q E s := by
 rcases g with ⟨kvs, k, e, ey, l⟩ | ⟨kvs, k, b, e, ey, eb, l⟩
 ·subst ey
  obtain ⟨z, hd, vs, rel, dd⟩ := zk2 I.hok e
  obtain ⟨w', hw, rw'⟩ := zii.some_of (v := v) (o := valueAt vs k) (by rw [l]; exact rel.val k)
  exact wpAny_getItem_of (zjA ry) dd.mapOf hw (h w' _ (I.tok _) rw')
 ·subst ey
  cases (show u = Value.ref b from ry)
  obtain ⟨z, hd, xs, rel, dd⟩ := zk1 I.hok e
  obtain ⟨w', hw, rw'⟩ := zii.some_of (v := v) (o := (atKey xs k).map (·.2)) (by rw [l]; exact rel.val k)
  obtain ⟨p, hp, hp2⟩ := oMd hw
  refine wpAny_getItem_heap (tupleKind_room_in1 hu) (zgs I.hok eb) dd hp ?_
  rw [hp2]
  exact h w' _ (I.tok _) rw'
theorem zmK {h' : Heap} {t' : Nat} {zw9 : HO} (I : Inv X pins σ H s) (mu : zvF (H a)) (hs : Heap.SameBut a s.heap h') (he : ∃ q, h'.get? a = some q) (new : zcF X.prog X.w (zt0 H a zw9) h' a zw9) :
  Inv X pins σ (zt0 H a zw9) { s with heap := h', toks := t' } :=
 I.write (x := a) (e := a) mu (.inl rfl) (fun b q hb z => (hs.2 b hb).trans z) he new
theorem zr1 {P : Program} {w : World} {H' : zxg} {h' : Heap} {kvs : List (zvK × V)} {vs : List (zvK × Value)} (z : kvs.length <= sizeLine) (hd : (a == sysModules) = false) (rel : zwQ kvs vs) (dd : h'.DictOf (zaW P w) a vs) :
  zcF P w H' h' a (.dK kvs) := ⟨z, hd, vs, rel, dd⟩
theorem zmL {H' : zxg} {Q : Unit -> Shared -> Prop} (hu : A.units + 1 < cLine) (I : Inv X pins σ H s) (g : zsg H a y v H') (ry : zb6 y u) (rv : zb6 v r) (h : ∀ s', Inv X pins σ H' s' -> Q () s') :
  wpAny (model X.prog X.w) A (setItem (.ref a) u r) Q E s := by
 rcases g with ⟨kvs, k, e, ey, l, eH⟩ | ⟨kvs, k, b, e, ey, eb, l, eH⟩
 ·subst ey eH
  obtain ⟨z, hd, vs, rel, dd⟩ := zsZ I.hok e
  have hz : vs.length <= sizeLine := by rw [← rel.length]; exact z
  have hl : (zhg kvs k v).length <= sizeLine := by have := zgo kvs k v; omega
  refine wpAny_setItem_pairs (hsz := hz) (zjA ry) dd fun h' dd' hs => h _ ?_
  have he : ∃ q, h'.get? a = some q := let ⟨q, _, _, hq, _⟩ := dd'; ⟨q, hq⟩
  exact zmK I (by rw [e]; exact True.intro) hs he (zr1 hl hd (rel.put k rv) dd')
 ·subst ey eH
  cases (show u = Value.ref b from ry)
  obtain ⟨z, hd, xs, rel, dd⟩ := zsX I.hok e
  have hz : xs.length <= sizeLine := by rw [← Paired.length rel]; exact z
  have hl : (zhg kvs k v).length <= sizeLine := by have := zgo kvs k v; omega
  refine wpAny_setItem_heap (hsz := hz) (tupleKind_room_in1 hu) (zgs I.hok eb) dd fun h' dd' hs => h _ ?_
  obtain ⟨q, es, ep, hq, h2, h3, h4, _, h5⟩ := dd'
  refine zmK I (by rw [e]; exact True.intro) hs ⟨q, hq⟩ ⟨hl, hd, _, (rel.put k eb rv).keeps fun c ys ec => ?_, q, es, ep, hq, h2, h3, h4, h5⟩
  rw [zaz (znE ec e (fun z => nomatch z))]
  exact ec
end
section
variable {X : Cx} {pins : List (Addr × Obj)} {σ : zxd} {H : zxg} {s : Shared} {a : Addr} {kvs : List (zvK × V)} {k : zvK} {u : Value} {A : Around} {E : Value -> Shared -> Prop}
end
def zta (i : Expr) : Prop := ∀ ov iv, subscripted i false ov iv = operate [ov, iv] (getItem ov iv)
theorem zo5 {prog : Program} {w : World} {A : Around} {E : Value -> Shared -> Prop} {s : Shared} {env : Env} {value slice : Expr} {pos : Pos} {T id : String} {Q : Value -> Shared -> Prop}
  (hl : typeLookup (.type T) "__getitem__" = pure (some (.builtin id))) (hs : zta slice)
  (h : wpAny (model prog w) A (eval value env) (fun o s₁ => wpAny (model prog w) A (eval slice env) (fun i s₂ => s₂.TypeIs o T /\ wpAny (model prog w) A (getItem o i) Q E s₂) E s₁) E s) :
  wpAny (model prog w) A (eval (.Subscript value slice pos) env) Q E s := by
 refine Subscript_ (wpAny_mono h (fun o s₁ h₁ => wpAny_mono h₁ (fun i s₂ h₂ => ?_) fun _ _ x => x) fun _ _ x => x)
 obtain ⟨hT, h₂⟩ := h₂
 unfold subscriptTail
 refine wpAny_bind ?_
 rw [getitemInPython_of_ne hT.not_modules]
 refine wpAny_bind (wpAny_specialOf hT hl ?_)
 have fin : wpAny (model prog w) A (subscripted slice false o i) (fun r s₃ => wpAny (model prog w) A (letTemporaryGo value o r >>= fun _ => pure r) Q E s₃) E s₂ := by
  rw [hs o i]
  exact wpAny_operating (wpAny_mono h₂ (fun r s₃ h₃ => wpAny_bind (wpAny_letTemporaryGo (wpAny_pure h₃))) fun _ _ x => x)
 first
  | exact wpAny_pure (wpAny_bind fin)
  | exact wpAny_bind (wpAny_pure (wpAny_bind fin))
  | exact wpAny_bind fin
theorem zjG {X : Cx} {pins : List (Addr × Obj)} {σ : zxd} {H : zxg} {s : Shared} {a : Addr} {y : V} {o : Option V} (I : Inv X pins σ H s) (g : zkC H a y o) : s.TypeIs (.ref a) "dict" := by
 rcases g with ⟨kvs, k, e, _, _⟩ | ⟨kvs, k, b, e, _, _, _⟩
 ·obtain ⟨_, _, vs, _, dd⟩ := zk2 I.hok e
  exact dd.typeIs
 ·obtain ⟨_, _, xs, _, dd⟩ := zk1 I.hok e
  exact dd.typeIs
def zsx (td ty : zw8) : zw8 := fun σ H Q => td σ H fun x H1 => ty σ H1 fun y H2 => ∃ a v, x = .ref a /\ zkC H2 a y (some v) /\ Q v H2
def zsC (td ty tv : zw8) : TS := fun D σ H => tv σ H fun v H1 => td σ H1 fun x H2 => ty σ H2 fun y H3 => ∃ a H4, x = .ref a /\ zsg H3 a y v H4 /\ D.nx σ H4
section
variable {X : Cx} {o i e value : Expr} {pos pos' tpos : Pos} {td ty tv : zw8}
theorem zpF (hu : X.A.units + 1 < cLine) (ho : zxb X o td) (hi : zxb X i ty) (hs : zta i) : zxb X (.Subscript o i pos) (zsx td ty) := by
 intro pins s σ H Q I h
 refine zo5 PySem.F.slot_dict_getitem.lookup hs (zt9 (ho pins s σ H _ I h) fun u s1 ⟨x, H1, I1, rx, q1⟩ => zt9 (hi pins s1 σ H1 _ I1 q1) fun iv s2 ⟨y, H2, I2, ry, a, v, ex, g, q2⟩ => ?_)
 subst ex
 obtain rfl : u = Value.ref a := rx
 exact ⟨zjG I2 g, zmM hu I2 g ry fun w' s3 I3 rw' => ⟨v, H2, I3, rw', q2⟩⟩
theorem zpu (hu : X.A.units + 1 < cLine) (ho : zxb X o td) (hi : zxb X i ty) (hv : zxb X value tv) (hs : swapsWith value (some (.Subscript o i pos')) pos.line X.env = pure false) :
  zwG X (.Assign [.Subscript o i pos'] value pos) (zsC td ty tv) := by
 intro pins s σ H D I h
 refine wpAny_Assign_Subscript (zt9 (hv pins s σ H _ I h) fun r s1 ⟨v, H1, I1, rv, q1⟩ => zt9 (ho pins s1 σ H1 _ I1 q1) fun u s2 ⟨x, H2, I2, rx, q2⟩ => zt9 (hi pins s2 σ H2 _ I2 q2) fun iv s3 ⟨y, H3, I3, ry, a, H4, ex, g, q3⟩ => ?_) hs
 subst ex
 obtain rfl : u = Value.ref a := rx
 exact zmL hu I3 g ry rv fun s4 I4 => ⟨σ, H4, I4, q3⟩
end
theorem zn2 {P : Program} {w : World} {H : zxg} (h : Heap) (hb : sysModules < h.objs.size) : zcF P w H (h.push { cls := .type "dict", data := .dict #[] }) h.objs.size (.dK []) :=
 ⟨Nat.zero_le _, beq_eq_false_iff_ne.mpr (Ne.symm (Nat.ne_of_lt hb)), [], .nil, Heap.DictOf.new h⟩
def zqT : zw8 := fun _ H Q => ∀ p, H p = none -> Q (.ref p) (zt0 H p (.dK []))
section
variable {X : Cx} {pos : Pos}
theorem zny : zxb X (.Dict [] [] pos) zqT := fun pins s σ H Q I h =>
 wpAny_Dict_empty ⟨.ref s.heap.objs.size, _, I.laid (a := s.heap.objs.size) (o := .dK []) (t' := s.toks) (fun _ _ q => Heap.get?_push_of_some _ q) (Nat.le_refl _) (zn2 s.heap I.big), rfl, h _ (I.hok.fresh (Nat.le_refl _))⟩
end
structure M1 (X : Cx) (o : Expr) (m : Str) (apos : Pos) (e : Expr) (cpos : Pos) : Prop where
 base : attributeBase o m X.env (eval o X.env) = eval o X.env
 few : ((backTo cpos (starEach [e] X.env)).all (fun x => !x.1) && (backToKw cpos (keywordEach [] X.env)).all (fun x => x.1.isSome)
  && decide (([e] : List Expr).length + ([] : List Keyword).length + (if ([] : List Keyword).isEmpty then 0 else 1) < 30)) = true
 line : (apos.endLine == cpos.line) = true
 trees : backTo cpos (starEach [e] X.env) = [(false, eval e X.env)]
structure M2 (X : Cx) (o : Expr) (m : Str) (apos : Pos) (e f : Expr) (cpos : Pos) : Prop where
 base : attributeBase o m X.env (eval o X.env) = eval o X.env
 few : ((backTo cpos (starEach [e, f] X.env)).all (fun x => !x.1) && (backToKw cpos (keywordEach [] X.env)).all (fun x => x.1.isSome)
  && decide (([e, f] : List Expr).length + ([] : List Keyword).length + (if ([] : List Keyword).isEmpty then 0 else 1) < 30)) = true
 line : (apos.endLine == cpos.line) = true
 trees : backTo cpos (starEach [e, f] X.env) = [(false, eval e X.env), (false, eval f X.env)]
def zvS (H : zxg) (a : Addr) : Prop := (∃ kvs, zwy H a (.dK kvs)) \/ ∃ kvs, zwy H a (.dT kvs)
theorem zoC {X : Cx} {pins : List (Addr × Obj)} {σ : zxd} {H : zxg} {s : Shared} {a : Addr} (I : Inv X pins σ H s) (d : zvS H a) :
  s.TypeIs (.ref a) "dict" /\ (∀ b, Value.ref a = .ref b -> ∃ zw9, s.heap.get? b = some zw9 /\ zw9.dict = none) /\ (a == sysModules) = false := by
 rcases d with ⟨kvs, e⟩ | ⟨kvs, e⟩
 ·obtain ⟨_, hd, vs, _, dd⟩ := zk2 I.hok e
  refine ⟨dd.typeIs, fun b q => ?_, hd⟩
  cases q
  obtain ⟨zw9, _, _, h1, h2, _⟩ := dd
  exact ⟨zw9, h1, h2.2.1⟩
 ·obtain ⟨_, hd, xs, _, dd⟩ := zk1 I.hok e
  refine ⟨dd.typeIs, fun b q => ?_, hd⟩
  cases q
  obtain ⟨zw9, _, _, h1, h2, _⟩ := dd
  exact ⟨zw9, h1, h2.2.1⟩
section
variable {X : Cx} {pins : List (Addr × Obj)} {σ : zxd} {H : zxg} {s : Shared} {a : Addr} {y d : V} {u r : Value} {o : Option V} {A : Around} {E : Value -> Shared -> Prop}
theorem zr5 {Q : Value -> Shared -> Prop} (hu : A.units + 1 < cLine) (I : Inv X pins σ H s) (g : zkC H a y o) (ry : zb6 y u) (h : ∀ w' s', Inv X pins σ H s' -> zb6 (o.getD .non) w' -> Q w' s') :
  wpAny (model X.prog X.w) A (call (.builtin "dict.get") [.ref a, u]) Q E s := by
 rcases g with ⟨kvs, k, e, ey, l⟩ | ⟨kvs, k, b, e, ey, eb, l⟩
 ·subst ey
  obtain ⟨z, hd, vs, rel, dd⟩ := zk2 I.hok e
  refine call_meetsIn PySem.F.slot_dict_get dd.typeIs PySem.F.entry_dict_get (PySem.F.args_dict_get_2 _ _) (meets_dict_get (zaW X.prog X.w) a (zjA ry) hd) ⟨_, dd.mapOf, h _ _ (I.tok _) ?_⟩
  rw [l]
  exact (rel.val k).getD rfl
 ·subst ey
  cases (show u = Value.ref b from ry)
  obtain ⟨z, hd, xs, rel, dd⟩ := zk1 I.hok e
  refine call_meetsIn PySem.F.slot_dict_get dd.typeIs PySem.F.entry_dict_get (PySem.F.args_dict_get_2 _ _) (meetsH_dict_get (tupleKind (zaW X.prog X.w)) a b hd) ⟨tupleKind_room_in1 hu, k, xs, zgs I.hok eb, dd, h _ _ (I.tok _) ?_⟩
  rw [l]
  exact (rel.val k).getD rfl
theorem zr4 {Q : Value -> Shared -> Prop} (hu : A.units + 1 < cLine) (I : Inv X pins σ H s) (g : zkC H a y o) (ry : zb6 y u) (rd : zb6 d r) (h : ∀ w' s', Inv X pins σ H s' -> zb6 (o.getD d) w' -> Q w' s') :
  wpAny (model X.prog X.w) A (call (.builtin "dict.get") [.ref a, u, r]) Q E s := by
 rcases g with ⟨kvs, k, e, ey, l⟩ | ⟨kvs, k, b, e, ey, eb, l⟩
 ·subst ey
  obtain ⟨z, hd, vs, rel, dd⟩ := zk2 I.hok e
  refine call_meetsIn PySem.F.slot_dict_get dd.typeIs PySem.F.entry_dict_get (PySem.F.args_dict_get_3 _ _ _) (meets_dict_get_default (zaW X.prog X.w) a (zjA ry) hd r) ⟨_, dd.mapOf, h _ _ (I.tok _) ?_⟩
  rw [l]
  exact (rel.val k).getD rd
 ·subst ey
  cases (show u = Value.ref b from ry)
  obtain ⟨z, hd, xs, rel, dd⟩ := zk1 I.hok e
  refine call_meetsIn PySem.F.slot_dict_get dd.typeIs PySem.F.entry_dict_get (PySem.F.args_dict_get_3 _ _ _) (meetsH_dict_get_default (tupleKind (zaW X.prog X.w)) a b hd r) ⟨tupleKind_room_in1 hu, k, xs, zgs I.hok eb, dd, h _ _ (I.tok _) ?_⟩
  rw [l]
  exact (rel.val k).getD rd
end
def zqV (td ty : zw8) : zw8 := fun σ H Q => td σ H fun x H1 => ∃ a, x = .ref a /\ zvS H1 a /\ ty σ H1 fun y H2 => ∃ o, zkC H2 a y o /\ Q (o.getD .non) H2
def zqU (td ty tx : zw8) : zw8 := fun σ H Q => td σ H fun x H1 => ∃ a, x = .ref a /\ zvS H1 a /\ ty σ H1 fun y H2 => tx σ H2 fun z H3 => ∃ o, zkC H3 a y o /\ Q (o.getD z) H3
section
variable {X : Cx} {o e f : Expr} {apos cpos : Pos} {td ty tx : zw8}
theorem znA (hu : X.A.units + 1 < cLine) (ho : zxb X o td) (he : zxb X e ty) (m : M1 X o "get" apos e cpos) : zxb X (.Call (.Attribute o "get" apos) [e] [] cpos) (zqV td ty) := by
 intro pins s σ H Q I h
 refine wpAny_Call_method m.base m.few m.line PySem.F.plainAttrs_dict PySem.F.slot_dict_get PySem.F.type_dict_get (zt9 (ho pins s σ H _ I h) fun u s1 ⟨x, H1, I1, rx, a, ex, d, q1⟩ => ?_)
 subst ex
 obtain rfl : u = Value.ref a := rx
 obtain ⟨t1, t2, _⟩ := zoC I1 d
 refine ⟨t1, t2, ?_⟩
 rw [m.trees]
 refine Calls.callWith_builtin rfl (Calls.evalArgs_plain (Calls.spliced_cons (zt9 (he pins s1 σ H1 _ I1 q1) fun iv s2 ⟨y, H2, I2, ry, ov, g, q2⟩ => Calls.spliced_nil ?_)))
 exact zr5 hu I2 g ry fun w' s3 I3 rw' => ⟨_, H2, I3, rw', q2⟩
theorem znz (hu : X.A.units + 1 < cLine) (ho : zxb X o td) (he : zxb X e ty) (hf : zxb X f tx) (m : M2 X o "get" apos e f cpos) : zxb X (.Call (.Attribute o "get" apos) [e, f] [] cpos) (zqU td ty tx) := by
 intro pins s σ H Q I h
 refine wpAny_Call_method m.base m.few m.line PySem.F.plainAttrs_dict PySem.F.slot_dict_get PySem.F.type_dict_get (zt9 (ho pins s σ H _ I h) fun u s1 ⟨x, H1, I1, rx, a, ex, d, q1⟩ => ?_)
 subst ex
 obtain rfl : u = Value.ref a := rx
 obtain ⟨t1, t2, _⟩ := zoC I1 d
 refine ⟨t1, t2, ?_⟩
 rw [m.trees]
 refine Calls.callWith_builtin rfl (Calls.evalArgs_plain (Calls.spliced_cons (zt9 (he pins s1 σ H1 _ I1 q1) fun iv s2 ⟨y, H2, I2, ry, q2⟩ =>
  Calls.spliced_cons (zt9 (hf pins s2 σ H2 _ I2 q2) fun fv s3 ⟨z, H3, I3, rz, ov, g, q3⟩ => Calls.spliced_nil ?_))))
 exact zr4 hu I3 g ry rz fun w' s4 I4 rw' => ⟨_, H3, I4, rw', q3⟩
end
section
variable {X : Cx} {pins : List (Addr × Obj)} {σ : zxd} {H : zxg} {s : Shared} {a : Addr} {kvs : List (zvK × V)} {A : Around} {E : Value -> Shared -> Prop}
end
section
variable {X : Cx} {pins : List (Addr × Obj)} {σ : zxd} {H : zxg} {s : Shared} {a : Addr} {y : V} {u : Value} {A : Around} {E : Value -> Shared -> Prop}
end
end L2
end
section
namespace Att
open PySem PySem.W PySem.Calls PyProof.Rows
theorem zgu {P : Params} {h : Heap} : ∀ (ns : List Int) (vs : List Value), WellAll P h vs (ns.map WData.int) -> IntsAre vs ns := by
 intro ns
 induction ns with
 | nil =>
  intro vs w
  rw [List.map_nil] at w
  cases w
  exact .nil
 | cons n ns ih =>
  intro vs w
  rw [List.map_cons] at w
  cases w with
  | cons a b =>
   cases a
   exact .cons _ _ (ih _ b)
theorem zio {l : OpenLaw} {n : Nat} (hn : l.most = some n) {P : Params} {h : Heap} {args : List WData} {vals : List Value}
  (hpre : l.row.toRowW.claim.pre args = true) (hwl : WellAll P h vals args) :
  ∃ a vs ns, vals = [Value.ref a] /\ args = [WData.list (ns.map WData.int)] /\ h.get? a = some { cls := .type "list", data := .seq vs.toArray } /\ IntsAre vs ns /\ ns.length <= n := by
 have hsh : WShape.hasAll [] args [.list .int] = true := (pre_splitW hpre).1
 have hc : l.pre.holds [] { args := args } = true := (pre_splitW hpre).2
 obtain ⟨d, r, rfl, h1, h2⟩ := hasAllW_cons hsh
 obtain rfl := hasAllW_nil h2
 obtain ⟨xs, rfl, h3⟩ := hasW_list h1
 obtain ⟨ns, rfl⟩ := items_int h3
 have hlen : ns.length <= n := by
  unfold OpenLaw.pre at hc
  have h4 : (WTm.not (.lt (.lit (.int (n : Int))) (.len (.arg 0)))).holds [] { args := [.list (ns.map .int)] } = true := by
   have h4 := (holds_andW hc).1
   rw [hn] at h4
   exact h4
  have h5 := condW_of h4 (w_not (w_lt w_lit (w_len_list (w_arg rfl))))
  rw [List.length_map] at h5
  refine Nat.le_of_not_lt fun q => ?_
  have q' : (n : Int) < ((ns.length : Nat) : Int) := by omega
  first
   | (rw [decide_eq_true q'] at h5; exact absurd h5 (by decide))
   | (simp at h5; omega)
 cases hwl with
 | cons w1 w2 =>
  cases w2
  cases w1 with
  | list ho hall => exact ⟨_, _, ns, rfl, rfl, ho, zgu ns _ hall, hlen⟩
theorem ziz (l : OpenLaw) (args : List WData) : l.row.toRowW.claim.post args (.bool true) args = true :=
 postW_of (r := l.row.toRowW) (X := (true == true))
  (show WShape.has [] (.bool true) .bool = true by first | rfl | decide | simp [WShape.has, WShape.arms, WShape.armsAll])
  (show (WTm.eq .res (.lit (.bool true))).value [] { args := args, res := some (.bool true), after := args } = some (.bool (true == true)) from w_eq_bool (w_res rfl) w_lit) rfl
theorem zts {l : OpenLaw} {n : Nat} {q : Program} {loose : List Str} {XP : (Str -> Option Value) -> Heap -> Prop} {YP : World -> Heap -> Prop} {d : DefRec} {x : Str}
  (hn : l.most = some n) (hdf : d.params.defaults = [])
  (hbind : ∀ pm cd doc v : Value, bindArgs (docDef d.name d.params d.body d.scope pm cd doc) ⟨[v], []⟩ = pure [(x, v)])
  (hx : d.scope.names.lookup x = some .local \/ d.scope.names.lookup x = some .cell)
  (hk : d.scope.kind = .function) (hco : d.scope.isCoroutine = false) (hgen : d.scope.isGenerator = false)
  (body : ∀ (w : World) (s₀ s₁ s : Shared) (mg mb : Str -> Option Value) (fa : Addr) (o : Obj) (pm cd doc : Value) (a : Addr) (vs : List Value) (ns : List Int),
   Ground q loose [] XP w s₀ mg mb s₁.heap -> YP w s₁.heap ->
   s₁.heap.get? fa = some o -> o.data = .func (docDef d.name d.params d.body d.scope pm cd doc) -> s₁.heap.CodeRec cd d.name -> mg d.name = some (.ref fa) ->
   s₁.heap.get? a = some { cls := .type "list", data := .seq vs.toArray } -> IntsAre vs ns -> ns.length <= n ->
   s.gens = #[] -> s.os = s₁.os ->
   Fr s₁.heap s₁.heap.objs.size s.heap (bindL (envOfC d.name d.scope s₁.heap.objs.size fa cd).kindOf [(x, .ref a)] fun _ => none) ->
   Cl s₁.heap.objs.size (cellsFrom (s₁.heap.objs.size + 1) d.scope.names []) s.heap (bindC (envOfC d.name d.scope s₁.heap.objs.size fa cd).kindOf [(x, .ref a)] fun _ => none) ->
   wpAny (model l.prog w) (callerA.deeper (envOfC d.name d.scope s₁.heap.objs.size fa cd)) (execs d.body (envOfC d.name d.scope s₁.heap.objs.size fa cd))
    (fun f s' => f = .ret (.bool true) /\ OldK s₁.heap s'.heap /\ s'.os = s₁.os /\ AllBare s'.gens) (fun _ _ => False) s) :
  WalkO q loose XP YP l.row.toRowW d [] (fun f vs => PySem.call f vs) := by
 intro w s₀ s₁ mg mb G Y fa o pm cd doc dV zw7 ho hd hcd hD hmg hg args vals as hpre hlay hrd hwl hlo
 obtain rfl : dV = .none := Dflts.none hD hdf
 obtain rfl : zw7 = .none := Dflts.noKw hD
 obtain ⟨a, vs, ns, rfl, rfl, hobj, hints, hlen⟩ := zio hn hpre hwl
 refine enter_call ?_
 refine call_cells_ret (o := o) (by rw [depth_caller]; decide) ho (fd_plain hd) G.T.nolimit hcd (hbind pm cd doc (.ref a)) (fun y hy => ?_) (fun h₁ tk F X => ?_) hco hgen hk
 ·obtain rfl : y = (x, Value.ref a) := List.mem_singleton.mp hy
  rcases hx with e | e
  ·exact .inl e
  ·exact .inr ⟨e, cellsFrom_some _ _ _ (.inl e)⟩
 ·refine wpAny_mono (body w s₀ s₁ { s₁ with heap := h₁, toks := tk } mg mb fa o pm cd doc a vs ns G Y ho (fd_plain hd) hcd hmg hobj hints hlen hg rfl F X) (fun f s' hq => ?_) (fun _ _ hq => hq)
  obtain ⟨rfl, h2, h3, h4⟩ := hq
  exact ⟨.inl ⟨.bool true, .bool true, [], rfl, fun _ => rfl, .bool true, ziz l _, fun _ => ⟨List.Pairwise.nil, fun _ hm => (nomatch hm)⟩⟩, h2, h3, h4⟩
theorem attach_call {l : OpenLaw} {n : Nat} {q : Program} {loose : List Str} {XP : (Str -> Option Value) -> Heap -> Prop} {YP : World -> Heap -> Prop} {d : DefRec}
  (hn : l.most = some n) (hdf : d.params.defaults = [])
  (call : ∀ (w : World) (s₀ s₁ : Shared) (mg mb : Str -> Option Value) (fa : Addr) (o : Obj) (pm cd doc : Value) (a : Addr) (vs : List Value) (ns : List Int),
   Ground q loose [] XP w s₀ mg mb s₁.heap -> YP w s₁.heap ->
   s₁.heap.get? fa = some o -> o.data = .func (docDef d.name d.params d.body d.scope pm cd doc) -> s₁.heap.CodeRec cd d.name -> mg d.name = some (.ref fa) ->
   s₁.heap.get? a = some { cls := .type "list", data := .seq vs.toArray } -> IntsAre vs ns -> ns.length <= n -> s₁.gens = #[] ->
   codeAny (model l.prog w) callerA (.call (.ref fa) ⟨[.ref a], []⟩) (fun r s' => r = .ok (.ret (.bool true)) /\ OldK s₁.heap s'.heap /\ s'.os = s₁.os /\ AllBare s'.gens) s₁) :
  WalkO q loose XP YP l.row.toRowW d [] (fun f vs => PySem.call f vs) := by
 intro w s₀ s₁ mg mb G Y fa o pm cd doc dV zw7 ho hd hcd hD hmg hg args vals as hpre hlay hrd hwl hlo
 obtain rfl : dV = .none := Dflts.none hD hdf
 obtain rfl : zw7 = .none := Dflts.noKw hD
 obtain ⟨a, vs, ns, rfl, rfl, hobj, hints, hlen⟩ := zio hn hpre hwl
 refine enter_call (codeAny_mono (call w s₀ s₁ mg mb fa o pm cd doc a vs ns G Y ho (fd_plain hd) hcd hmg hobj hints hlen hg) fun r s' hq => ?_)
 obtain ⟨rfl, h2, h3, h4⟩ := hq
 exact ⟨.inl ⟨.bool true, .bool true, [], rfl, fun _ => rfl, .bool true, ziz l _, fun _ => ⟨List.Pairwise.nil, fun _ hm => (nomatch hm)⟩⟩, h2, h3, h4⟩
section
variable {prog : Program} {w : World} {A : Around} {E : Value -> Shared -> Prop} {s : Shared} {K : Frag}
def ztn (h : Heap) (L d : Addr) : List (Addr × Obj) := (List.range h.objs.size).filterMap fun a => if a = L \/ a = d then none else (h.get? a).map fun o => (a, o)
end
end Att
namespace L2
open PySem PySem.Spec PyProof.Rows
theorem zij : ∀ {vs : List Value} {ns : List Int}, IntsAre vs ns -> zcb (ns.map V.int) vs
 | _, _, .nil => .nil
 | _, _, .cons n t h => .cons ⟨t, rfl⟩ (zij h)
def zs9 (H : zxg) : Prop := ∀ b, H b = none \/ ∃ o xs, H b = some (.frz o (.lst xs))
theorem znN {P : Program} {w : World} {K : PySem.W.Frag} {mg mb : Str -> Option Value} {CX : zvW} {k : Nat} {fa a : Addr} {fd : FuncData} {x : Str} {sp : zwI} {s₁ : Shared} {vs : List Value} {ns : List Int}
  (KX : K.In s₁.heap) (hns : s₁.heap.Ns mainGlobals mg) (hb : s₁.heap.Ns builtinsNs mb) (hbb : ∀ x : Str, x ≠ "__name__" -> mb x = bootBuiltins x) (hlim : s₁.heap.NoLimit) (hg : s₁.gens = #[])
  (ha : s₁.heap.get? a = some { cls := .type "list", data := .seq vs.toArray }) (hi : IntsAre vs ns) (hl : ns.length <= sizeLine) (hr : Room k callerA)
  (F : ∀ base : Heap, K.In base -> base.Ns mainGlobals mg -> FnOk P w K mg base CX k fa fd [x] sp) (hbind : ∀ (s : Shared) (u : Value), BindsTo s fd ⟨[u], []⟩ [(x, u)])
  (hsp : ∀ H : zxg, zs9 H -> zvy K H a (ns.map V.int) -> sp [.ref a] H (fun v _ => v = .bl true) fun _ _ _ => False)
  (hCX : ∀ H e s', CX [] H s₁ (fun _ _ _ => False) e s' -> False) :
  codeAny (model P w) callerA (.call (.ref fa) ⟨[.ref a], []⟩) (fun r s' => r = .ok (.ret (.bool true)) /\ OldK s₁.heap s'.heap /\ s'.os = s₁.os /\ AllBare s'.gens) s₁ := by
 have rv := zij hi
 have lenV := hi.length
 have core : ∀ H : zxg, zs9 H -> zvy K H a (ns.map V.int) -> zvT P w H s₁.heap -> (∀ b, H b ≠ none -> b = a) -> (H a ≠ none -> K.lookup a = none) ->
   codeAny (model P w) callerA (.call (.ref fa) ⟨[.ref a], []⟩) (fun r s' => r = .ok (.ret (.bool true)) /\ OldK s₁.heap s'.heap /\ s'.os = s₁.os /\ AllBare s'.gens) s₁ := by
  intro H hO hS hok hA hK
  have base_of : ∀ {b : Addr} {o : Obj}, s₁.heap.get? b = some o -> H b = none -> (znT s₁.heap H).get? b = some o := fun e n => znS e n
  have noA : ∀ {b : Addr} {o : Obj} {es : Array DictEntry} {ep : Nat}, s₁.heap.get? b = some o -> o.data = .dict es ep -> H b = none := fun {b o es ep} e d => by
   cases q : H b with
   | none => rfl
   | some u =>
    have e' : b = a := hA b (by rw [q]; simp)
    subst e'
    rw [ha] at e; cases e
    have d' : Data.seq vs.toArray _ = Data.dict es ep := d
    cases d'
  have nsK : ∀ {b : Addr} {m : Str -> Option Value}, s₁.heap.Ns b m -> (znT s₁.heap H).Ns b m := fun {b m} ⟨o, es, ep, e, d, r⟩ => ⟨o, es, ep, base_of e (noA e d), d, r⟩
  have hKb : K.In (znT s₁.heap H) := fun b o e => base_of (KX b o e) (by
   cases q : H b with
   | none => rfl
   | some u =>
    have e' : b = a := hA b (by rw [q]; simp)
    subst e'
    rw [hK (by rw [q]; simp)] at e; cases e)
  have hM : Mod K mg (znT s₁.heap H) := ⟨hKb, nsK hns, ⟨mb, nsK hb, hbb⟩, let ⟨mc, h1, h2⟩ := hlim; ⟨mc, nsK h1, h2⟩⟩
  have e0 : Env0 P w K mg (znT s₁.heap H) callerA [] s₁ H := ⟨rfl, hM, fun b o e => zpO e, Nat.le_of_eq (zmi _ _), trivial, fun b hb => absurd (show b ∈ ([] : List Addr) from hb) (by simp), hok, .of_eq hg⟩
  refine codeAny_mono ((F _ hKb (nsK hns)).run callerA [] s₁ H ⟨[.ref a], []⟩ [.ref a] [.ref a] _ _ hr e0 (hbind s₁ (.ref a)) (.cons rfl .nil) (hsp H hO hS)) fun r s' h => ?_
  cases r with
  | error e => exact (hCX H e s' h).elim
  | ok zxc =>
   cases zxc with
   | next => exact False.elim h
   | brk => exact False.elim h
   | cont => exact False.elim h
   | ret u =>
    obtain ⟨v, H', os, bare, un, hok', r', q⟩ := h
    have q' : v = .bl true := q
    subst q'
    obtain rfl : u = Value.bool true := r'
    refine ⟨rfl, OldK.of_keep fun b o e => ?_, os, bare⟩
    cases q : H b with
    | none => exact un.keep b o e q (by intro z; exact absurd (show b ∈ ([] : List Addr) from z) (by simp)) (by simp)
    | some u =>
     rcases hO b with z | ⟨zw9, xs, z⟩
     ·rw [q] at z; cases z
     ·have z2 := un.frzs b zw9 _ z
      obtain ⟨e1, _⟩ := hok b _ z
      obtain ⟨e2, _⟩ := hok' b _ z2
      rw [e] at e1; cases e1
      exact e2
 cases hk : K.lookup a with
 | some o =>
  have e := KX a o hk
  rw [ha] at e
  cases e
  refine core (fun _ => none) (fun _ => .inl rfl) (.inr ⟨_, vs.toArray, _, hk, rfl, rfl, rfl, by rw [List.size_toArray, lenV]; exact hl, by simpa using rv⟩) (fun b u z => by have z' : (none : Option HO) = some u := z; cases z') (fun b z => absurd rfl z) fun z => absurd rfl z
 | none =>
  refine core (fun b => if b = a then some (.frz { cls := .type "list", data := .seq vs.toArray } (.lst (ns.map V.int))) else none) (fun b => ?_) (.inl (.inr ⟨{ cls := .type "list", data := .seq vs.toArray }, if_pos rfl⟩)) (fun b u z => ?_) (fun b z => ?_) fun _ => hk
  ·by_cases hb : b = a
   ·exact .inr ⟨_, _, if_pos hb⟩
   ·exact .inl (if_neg hb)
  ·by_cases hb : b = a
   ·have z' := (if_pos hb).symm.trans z
    cases z'
    subst hb
    exact ⟨ha, by rw [List.length_map]; exact hl, vs, _, rv, ha⟩
   ·have z' := (if_neg hb).symm.trans z
    cases z'
  ·by_cases hb : b = a
   ·exact hb
   ·exact absurd (if_neg hb) z
end L2
namespace L2
open PySem PySem.Spec PyProof.Rows
abbrev zvL {K : PySem.W.Frag} {h : Heap} (_ : K.In h) : PySem.W.Frag := K
theorem walk_of {l : PySem.W.OpenLaw} {n k : Nat} {q : Program} {loose : List Str} {XP : (Str -> Option Value) -> Heap -> Prop} {YP : World -> Heap -> Prop} {d : DefRec} {K : Params -> PySem.W.Frag} {CX : World -> zvW} {sp : World -> zwI} {x : Str}
  (hn : l.most = some n) (hn2 : n <= sizeLine) (hdf : d.params.defaults = []) (hr : Room k callerA)
  (hY : ∀ (w : World) (h : Heap), YP w h -> (K w.params).In h)
  (F : ∀ (w : World) (mg : Str -> Option Value) (fa : Addr) (h : Heap), (K w.params).In h -> h.Ns mainGlobals mg -> mg d.name = some (.ref fa) ->
   ∃ fd : FuncData, (∀ (s : Shared) (u : Value), BindsTo s fd ⟨[u], []⟩ [(x, u)]) /\
    ∀ base : Heap, (K w.params).In base -> base.Ns mainGlobals mg -> FnOk l.prog w (K w.params) mg base (CX w) k fa fd [x] (sp w))
  (hsp : ∀ (w : World) (H : zxg) (a : Addr) (ns : List Int), ns.length <= n -> zs9 H -> zvy (K w.params) H a (ns.map V.int) -> sp w [.ref a] H (fun v _ => v = .bl true) fun _ _ _ => False)
  (hCX : ∀ (w : World) (H : zxg) (s : Shared) (e : Value) (s' : Shared), CX w [] H s (fun _ _ _ => False) e s' -> False) :
  PySem.W.WalkO q loose XP YP l.row.toRowW d [] (fun f vs => PySem.call f vs) := by
 refine Att.attach_call hn hdf fun w s₀ s₁ mg mb fa o pm cd doc a vs ns G Y ho hd hcd hmg hobj hints hlen hg => ?_
 have KX := hY w _ Y
 obtain ⟨fd, hb, hF⟩ := F w mg fa _ KX G.T.g hmg
 exact znN KX G.T.g G.T.b G.T.builtins G.T.nolimit hg hobj hints (Nat.le_trans hlen hn2) hr hF hb (fun H hO hS => hsp w H a ns hlen hO hS) fun H e s' => hCX w H s₁ e s'
end L2
namespace L2
open PySem PySem.Spec PyProof.Rows
def zfd (s : Stmt) (j : Nat) : Stmt := match s with
 | .ClassDef _ _ _ body _ _ _ _ _ _ _ => body.getD j (.Pass ⟨0, 0, 0, 0⟩)
 | _ => .Pass ⟨0, 0, 0, 0⟩
def zbN (s : Stmt) : Arguments := match s with
 | .FunctionDef _ a _ _ _ _ _ _ _ _ => a
 | _ => { posonlyargs := [], args := [], vararg := none, kwonlyargs := [], kw_defaults := [], kwarg := none, defaults := [] }
def zaX (s : Stmt) : List Stmt := match s with
 | .FunctionDef _ _ b _ _ _ _ _ _ _ => b
 | _ => []
def zag (s : Stmt) : Scope := match s with
 | .FunctionDef _ _ _ _ _ _ sc _ _ _ => sc
 | _ => { kind := .function, names := [], isGenerator := false, isCoroutine := false }
abbrev zvX : zvW := fun _ _ _ _ _ _ => False
abbrev zwm : zwV := fun _ _ _ => False
theorem zjr {X : Cx} : zhw zvX X zwm := fun _ _ _ _ _ _ _ h => h.elim
structure Fun (K : PySem.W.Frag) (x qual : Str) (st : Stmt) (f : Addr) (fd : FuncData) : Prop where
 ex : ∃ (oc : Value) (od : Option Addr) (zw7 doc pm : Value) (an : Option Addr) (cdv ct : Value) (osl : Array (Option Value)),
  fd = PySem.W.fnOf x qual (zbN st) (zaX st) (zag st) .none zw7 doc pm an cdv ct /\ K.lookup f = some ⟨oc, od, .func fd, osl⟩ /\ PySem.W.codeIn K cdv qual = true
 kp : PySem.W.keepIn K (.ref f) = true
section
variable {P : Program} {w : World} {K : PySem.W.Frag} {mg : Str -> Option Value} {base : Heap}
theorem Fun.ok {x qual : Str} {st : Stmt} {f : Addr} {fd : FuncData} {N ps : List Str} {k : Nat} {sp : zwI} (F : Fun K x qual st f fd) (S : FnScope N ps (zag st)) (len : ∀ vs H Q E, sp vs H Q E -> vs.length = ps.length)
  (hbody : ∀ (cdv : Value) (A : Around) (outer : List Env) (s : Shared) (H : zxg) (vs : List V) (Q : zw3) (E : zwV), Room k (A.deeper (envOfC qual (zag st) s.heap.objs.size f cdv)) -> sp vs H Q E ->
   ∃ t, zvB (zih zvX P w K mg base N qual (zag st) f cdv A outer s H E).nox (zaX st) t /\ t { nx := fun _ H' => Q .non H', rt := Q } (zeI N vs) H) : FnOk P w K mg base zvX (k + 1) f fd ps sp := by
 obtain ⟨oc, od, zw7, doc, pm, an, cdv, ct, osl, rfl, lk, hcd⟩ := F.ex
 refine zsW lk hcd S len fun A outer s H vs Q E hr hsp => ?_
 obtain ⟨t, h, q⟩ := hbody cdv A outer s H vs Q E hr hsp
 exact ⟨t, h.nox, q⟩
theorem Fun.binds {x qual : Str} {st : Stmt} {f : Addr} {fd : FuncData} {ps : List Str} (F : Fun K x qual st f fd)
  (h : ∀ (zw7 doc pm : Value) (an : Option Addr) (cdv ct : Value) (us : List Value), us.length = ps.length -> bindArgs (PySem.W.fnOf x qual (zbN st) (zaX st) (zag st) .none zw7 doc pm an cdv ct) ⟨us, []⟩ = pure (ps.zip us)) : zd4 K fd ps [] := by
 obtain ⟨oc, od, zw7, doc, pm, an, cdv, ct, osl, rfl, lk, hcd⟩ := F.ex
 exact .all (h zw7 doc pm an cdv ct)
theorem zmm {x qual : Str} {st : Stmt} {f : Addr} {oc : Value} {od an : Option Addr} {osl : Array (Option Value)} {zw7 doc pm cdv ct : Value} (l : K.lookup f = some ⟨oc, od, .func (PySem.W.fnOf x qual (zbN st) (zaX st) (zag st) .none zw7 doc pm an cdv ct), osl⟩)
  (c : PySem.W.codeIn K cdv qual = true) (k : PySem.W.keepIn K (.ref f) = true) : Fun K x qual st f (PySem.W.fnOf x qual (zbN st) (zaX st) (zag st) .none zw7 doc pm an cdv ct) := ⟨⟨oc, od, zw7, doc, pm, an, cdv, ct, osl, rfl, l, c⟩, k⟩
end
section
variable {X : Cx}
end
theorem zqd {A B : Prop} (h : B) : if false = true then A else B := by
 rw [if_neg Bool.false_ne_true]
 exact h
theorem zqc {A B : Prop} (h : A) : if true = true then A else B := by
 rw [if_pos rfl]
 exact h
def zb5 (H H' : zxg) : Prop := ∀ b o, H b = some o -> H' b = some o
theorem zb5.refl (H : zxg) : zb5 H H := fun _ _ h => h
theorem zb5.trans {H H1 H2 : zxg} (a : zb5 H H1) (b : zb5 H1 H2) : zb5 H H2 := fun c o h => b c o (a c o h)
theorem zb5.free {H H' : zxg} (e : zb5 H H') {l : Addr} (h : H' l = Option.none) : H l = Option.none := by
 cases q : H l with
 | none => rfl
 | some o =>
  rw [e l o q] at h
  cases h
theorem zb5.seq {K : PySem.W.Frag} {H H' : zxg} {a : Addr} {xs : List V} (e : zb5 H H') (h : zvy K H a xs) : zvy K H' a xs := by
 rcases h with (h | ⟨o, h⟩) | h
 ·exact .inl (.inl (e _ _ h))
 ·exact .inl (.inr ⟨o, e _ _ h⟩)
 ·exact .inr h
section
variable {κ : Type} [DecidableEq κ]
end
end L2
end
section
namespace L2
open PySem PySem.Spec PyProof.Rows
theorem zd1 {prog : Program} {w : World} {A : Around} {R : Result -> Shared -> Prop} {s : Shared} {elt target iter : Expr} {ifs : List Expr} {scope : Scope} {pos : Pos} {zxf acc : Value} {env : Env} (I : Nat -> Shared -> Prop)
  (turn : ∀ n s, I n s -> wpAny (model prog w) A (pyNext zxf) (fun r s₁ => match r with
   | none => R (.ok .next) s₁
   | some v => wpAny (model prog w) A (letOwnedTupleGo target zxf v) (fun _ s₁' => wpAny (model prog w) A (assign target env v) (fun _ s₂ =>
     wpAny (model prog w) A (forIn ifs true fun c r => if r = true then do let ok ← isTrue c env (eval c env); pure (ForInStep.yield ok) else pure (ForInStep.yield r)) (fun ok s₃ =>
      if ok = true then wpAny (model prog w) A (eval elt env) (fun x s₄ =>
       wpAny (model prog w) A (call (.builtin "list.append") [acc, x]) (fun _ s₅ => ∃ m, m < n /\ I m s₅) (fun _ _ => False) s₄) (fun _ _ => False) s₃
      else ∃ m, m < n /\ I m s₃) (fun _ _ => False) s₂) (fun _ _ => False) s₁') (fun _ _ => False) s₁) (fun _ _ => False) s)
  (n : Nat) (h : I n s) :
  codeAny (model prog w) A (.compLoop (.ListComp elt [⟨target, iter, ifs, 0⟩] scope pos) 0 zxf acc env) R s := by
 refine codeAny_loop rfl I (fun n s hI => ?_) n h
 show wpAny _ A ((compTurn (.ListComp elt [⟨target, iter, ifs, 0⟩] scope pos) 0 zxf acc env).onRaise (fun x => do noteFrame x env; theTreesLotGoes x)) _ _ s
 refine wpAny_noted ?_
 rw [compTurn_list]
 refine wpAny_bind (wpAny_standAt (wpAny_bind (wpAny_mono (turn n s hI) (fun r s₁ h₁ => ?_) fun _ _ h' => h'.elim)))
 cases r with
 | none => exact wpAny_pure h₁
 | some v =>
  refine wpAny_bind (wpAny_mono h₁ (fun _ s₁' h₁' => ?_) fun _ _ h' => h'.elim)
  refine wpAny_bind (wpAny_mono h₁' (fun _ s₂ h₂ => wpAny_bind (wpAny_mono h₂ (fun ok s₃ h₃ => ?_) fun _ _ h' => h'.elim)) fun _ _ h' => h'.elim)
  cases ok with
  | false => exact wpAny_pure ⟨rfl, h₃⟩
  | true =>
   exact wpAny_bind (wpAny_bind (wpAny_mono h₃ (fun x s₄ h₄ => wpAny_bind (wpAny_mono h₄ (fun _ s₅ h₅ => wpAny_pure (wpAny_pure ⟨rfl, h₅⟩)) fun _ _ h' => h'.elim)) fun _ _ h' => h'.elim))
def zc0 (X : Cx) (N' : List Str) (scope : Scope) (cl : List (Str × Addr)) (C : Addr) (s₀ : Shared) (H₀ : zxg) (fp : List Addr) : Cx :=
 { X with N := N', s₀ := s₀, H₀ := H₀, env := compEnvC scope cl C X.env, outer := X.stack, stack := X.stack, ex := fp, fn := fun _ => false, pn := [], xe := fun _ _ => False }
def zdB (env : Env) : List (Str × NameKind) -> List (Str × Addr) -> List (Str × Addr)
 | [], acc => acc
 | (n, k) :: r, acc => zdB env r (if k == .free then (match env.cells.lookup n with | some c => (n, c) :: acc | none => acc) else acc)
theorem zhZ {env : Env} {scope : Scope} (h : ∀ y ∈ scope.names, y.2 = .free -> ∃ c, env.cells.lookup y.1 = some c) : closureFor scope env = pure (zdB env scope.names []) := by
 have all : ∀ (l : List (Str × NameKind)) (acc : List (Str × Addr)), (∀ y ∈ l, y.2 = .free -> ∃ c, env.cells.lookup y.1 = some c) ->
   (forIn l acc fun x r => match x with
    | (name, kind) => if kind == .free then do let c ← cellOf env name; pure (ForInStep.yield ((name, c) :: r)) else pure (ForInStep.yield r) : Sem (List (Str × Addr))) = pure (zdB env l acc) := by
  intro l
  induction l with
  | nil => intro acc _; rfl
  | cons y r ih =>
   intro acc hl
   obtain ⟨n, k⟩ := y
   rw [List.forIn_cons]
   have hr : ∀ y ∈ r, y.2 = .free -> ∃ c, env.cells.lookup y.1 = some c := fun y hy => hl y (List.mem_cons_of_mem _ hy)
   unfold zdB
   cases hk : (k == NameKind.free) with
   | false =>
    simp only [hk, Bool.false_eq_true, if_false, pure_bind]
    exact ih acc hr
   | true =>
    obtain ⟨c, hc⟩ := hl (n, k) List.mem_cons_self (by simpa using hk)
    have hc' : env.cells.lookup n = some c := hc
    simp only [hk, if_true, cellOf, hc', pure_bind]
    exact ih _ hr
 have e := all scope.names [] h
 exact Eq.trans (bind_pure _) e
theorem zgE {env : Env} : ∀ (l : List (Str × NameKind)) (acc : List (Str × Addr)), (∀ x c, acc.lookup x = some c -> env.cells.lookup x = some c) -> ∀ x c, (zdB env l acc).lookup x = some c -> env.cells.lookup x = some c
 | [], _, h => h
 | (n, k) :: r, acc, h => by
  unfold zdB
  refine zgE r _ ?_
  split
  ·split
   ·rename_i c hc
    intro x d hx
    rw [List.lookup_cons] at hx
    cases e : x == n with
    | true =>
     rw [e] at hx
     have e' : x = n := by simpa using e
     have e2 : c = d := Option.some.inj hx
     rw [e', ← e2]; exact hc
    | false => rw [e] at hx; exact h x d hx
   ·exact h
  ·exact h
theorem zhu {env : Env} : ∀ (l : List (Str × NameKind)) (acc : List (Str × Addr)) (x : Str), (acc.lookup x).isSome = true -> ((zdB env l acc).lookup x).isSome = true
 | [], _, _, h => h
 | (n, k) :: r, acc, x, h => by
  unfold zdB
  refine zhu r _ x ?_
  split
  ·split
   ·rw [List.lookup_cons]
    split
    ·rfl
    ·exact h
   ·exact h
  ·exact h
theorem zgF {env : Env} : ∀ (l : List (Str × NameKind)) (acc : List (Str × Addr)) (x : Str) (c : Addr), (x, NameKind.free) ∈ l -> env.cells.lookup x = some c -> ((zdB env l acc).lookup x).isSome = true
 | [], _, _, _, h, _ => nomatch h
 | (n, k) :: r, acc, x, c, h, hc => by
  unfold zdB
  rcases List.mem_cons.mp h with e | h
  ·injection e with e1 e2
   subst e1; subst e2
   refine zhu r _ _ ?_
   rw [if_pos (by rfl), hc]
   simp
  ·exact zgF r _ x c h hc
theorem zcB {env : Env} : ∀ (names : List (Str × NameKind)) (x : Str) (k' : NameKind),
  (names.map fun (n, k) => if (k == NameKind.free && env.scope.kind == .function && env.kindOf n == some .cell) then (n, NameKind.cell) else (n, k)).lookup x = some k' ->
  names.lookup x = some k' \/ (k' = .cell /\ names.lookup x = some .free)
 | [], _, _, h => by simp at h
 | (n, k) :: r, x, k', h => by
  have ih := @zcB env r x k'
  have h' : List.lookup x ((if (k == NameKind.free && env.scope.kind == .function && env.kindOf n == some .cell) = true then (n, NameKind.cell) else (n, k)) :: (r.map fun (n, k) => if (k == NameKind.free && env.scope.kind == .function && env.kindOf n == some .cell) then (n, NameKind.cell) else (n, k))) = some k' := h
  cases hx : x == n with
  | true =>
   by_cases hc : (k == NameKind.free && env.scope.kind == .function && env.kindOf n == some .cell) = true
   ·rw [if_pos hc] at h'
    simp only [List.lookup_cons, hx] at h' ⊢
    have hk : k = .free := by
     simp only [Bool.and_eq_true, beq_iff_eq] at hc
     exact hc.1.1
    right
    exact ⟨(Option.some.inj h').symm, by rw [hk]⟩
   ·rw [if_neg hc] at h'
    simp only [List.lookup_cons, hx] at h' ⊢
    exact .inl h'
  | false =>
   have h2 : List.lookup x (r.map fun (n, k) => if (k == NameKind.free && env.scope.kind == .function && env.kindOf n == some .cell) then (n, NameKind.cell) else (n, k)) = some k' := by
    by_cases hc : (k == NameKind.free && env.scope.kind == .function && env.kindOf n == some .cell) = true
    ·rw [if_pos hc] at h'
     simpa only [List.lookup_cons, hx] using h'
    ·rw [if_neg hc] at h'
     simpa only [List.lookup_cons, hx] using h'
   simp only [List.lookup_cons, hx]
   exact ih h2
structure CompScope (X : Cx) (scope : Scope) : Prop where
 kind : scope.kind = .function
 nocell : ∀ y ∈ scope.names, y.2 ≠ .cell
 names : ∀ y ∈ scope.names, y.2 = .local -> scope.names.lookup y.1 = some .local
 free : ∀ y ∈ scope.names, y.2 = .free -> X.env.kindOf y.1 = some .cell \/ X.env.kindOf y.1 = some .free
def zml (fv : List (Option Nat)) (σ : zxd) : zxd := fv.map fun o => o.bind fun j => (σ[j]?).join
section
variable {X : Cx} {pins : List (Addr × Obj)} {σ : zxd} {H : zxg} {s : Shared}
theorem zfA (I : Inv X pins σ H s) {scope : Scope} (S : CompScope X scope) : closureFor scope X.env = pure (zdB X.env scope.names []) :=
 zhZ fun y hy hf => I.ok.has y.1 (S.free y hy hf)
theorem zqu (I : Inv X pins σ H s) {N' : List Str} {scope : Scope} (S : CompScope X scope) {fp : List Addr} (hf : ∀ b ∈ fp, zld X pins H b) (hlt : ∀ b ∈ fp, b < s.heap.objs.size) {C : Addr} (hC : s.heap.objs.size <= C) :
  (zc0 X N' scope (zdB X.env scope.names []) C s H fp).Ok := by
 have sub := zgE (env := X.env) scope.names [] (fun x c h => by simp at h)
 refine ⟨I.ok.mod, S.kind, I.ok.glob, I.ok.blt, hC, fun x y c h1 h2 => I.ok.inj x y c (sub x c h1) (sub y c h2), fun x hx => ?_, fun x c h _ => by simp [zc0] at h, I.ok.hd, I.ok.frames, .inl rfl, fun b hb => ⟨?_, fun x c e => ?_⟩, I.bs, Nat.le_trans I.ok.bsz I.sz,
  fun b o e hb => ?_, fun b hb => ?_, I.stack, I.stkFree⟩
 ·have hx' : ((relabel scope X.env).names.lookup x = some .cell \/ (relabel scope X.env).names.lookup x = some .free) := hx
  have hfr : scope.names.lookup x = some .free := by
   rcases hx' with h | h
   ·rcases zcB _ _ _ h with h | ⟨_, h⟩
    ·exact absurd rfl (S.nocell _ (PySem.mem_of_lookup h))
    ·exact h
   ·rcases zcB _ _ _ h with h | ⟨h, _⟩
    ·exact h
    ·cases h
  have hm := PySem.mem_of_lookup hfr
  obtain ⟨c, hc⟩ := I.ok.has x (S.free _ hm rfl)
  exact Option.isSome_iff_exists.mp (zgF _ _ x c hm hc)
 ·exact Nat.ne_of_lt (Nat.lt_of_lt_of_le (hlt b hb) hC)
 ·exact (hf b hb).2.2.2.2.1 x c (sub x c e)
 ·rcases (hf b hb).2.2.2.1 with z | z
  ·exact I.ok.noex b o e z
  ·exact absurd (Nat.lt_of_lt_of_le (Heap.lt_size e) I.ok.bsz) (Nat.not_lt.mpr z)
 ·intro z
  rcases List.mem_cons.mp (I.stkSub b z) with e | e
  ·exact (hf b hb).2.1 e
  ·exact (hf b hb).2.2.1 e
theorem zk4 (I : Inv X pins σ H s) {N' : List Str} {scope : Scope} (S : CompScope X scope) {fp : List Addr} (hf : ∀ b ∈ fp, zld X pins H b) (hlt : ∀ b ∈ fp, b < s.heap.objs.size) {C : Addr} (hC : C = s.heap.objs.size) {fv : List (Option Nat)} (hlen : fv.length = N'.length)
  (hfv : ∀ (i j : Nat) x, N'[i]? = some x -> fv[i]? = some (some j) -> X.N[j]? = some x /\ (X.env.kindOf x = some .cell \/ X.env.kindOf x = some .free) /\ scope.names.lookup x = some .free) {h' : Heap} {t' : Nat} {m : Str -> Option Value} (hn : h'.Ns C m) (hk : ∀ b o, s.heap.get? b = some o -> h'.get? b = some o) :
  Inv (zc0 X N' scope (zdB X.env scope.names []) C s H fp) [] (zml fv σ) H { s with heap := h', toks := t' } := by
 have ok := zqu (N' := N') I S hf hlt (C := C) (Nat.le_of_eq hC.symm)
 have sub := zgE (env := X.env) scope.names [] (fun x c h => by simp at h)
 refine ⟨ok, rfl, I.bare, Un.kept hk, ⟨m, hn, fun i x v e1 e2 e3 => ?_⟩, fun x c e => ?_, ?_, fun x c e => I.freeC x c (sub x c e), fun p hp => ?_, I.hok.kept hk, ?_⟩
 ·have e1' : N'[i]? = some x := e1
  have e2' : (zml fv σ)[i]? = some (some v) := e2
  unfold zml at e2'
  rw [List.getElem?_map] at e2'
  cases q : fv[i]? with
  | none => rw [q] at e2'; cases e2'
  | some o =>
   rw [q] at e2'
   cases o with
   | none => cases e2'
   | some j =>
    have e2'' : (σ[j]?).join = some v := by simpa using e2'
    obtain ⟨hN, hkk, hfree⟩ := hfv i j x e1' q
    have hσ : σ[j]? = some (some v) := by
     cases z : σ[j]? with
     | none => rw [z] at e2''; cases e2''
     | some w => rw [z] at e2''; cases w with
      | none => cases e2''
      | some w' => simp at e2''; rw [e2'']
    obtain ⟨m0, hn0, hl⟩ := I.loc
    obtain ⟨u, r, l⟩ := hl j x v hN hσ (.inr hkk)
    refine ⟨u, r, .inr ⟨?_, ?_⟩⟩
    ·rcases e3 with z | z | z
     ·have z' : (relabel scope X.env).names.lookup x = some .local := z
      rcases zcB _ _ _ z' with y | ⟨y, _⟩
      ·rw [hfree] at y; cases y
      ·cases y
     ·exact .inl z
     ·exact .inr z
    ·rcases l with ⟨k, _⟩ | ⟨_, c, hc, hcell⟩
     ·rcases hkk with y | y
      ·rw [k] at y; cases y
      ·rw [k] at y; cases y
     ·obtain ⟨c', hc'⟩ := Option.isSome_iff_exists.mp (zgF scope.names [] x c (PySem.mem_of_lookup hfree) hc)
      have e := sub x c' hc'
      rw [hc] at e
      cases e
      obtain ⟨oc, ho, hd⟩ := hcell
      exact ⟨c, hc', oc, hk _ _ ho, hd⟩
 ·obtain ⟨v, oc, ho, hd⟩ := I.cell x c (sub x c e)
  exact ⟨v, oc, hk _ _ ho, hd⟩
 ·exact I.hok.fresh (Nat.le_of_eq hC.symm)
 ·exact absurd (show p ∈ ([] : List (Addr × Obj)) from hp) (by simp)
 ·show (zml fv σ).length = N'.length
  unfold zml
  rw [List.length_map, hlen]
theorem zn7 (I : Inv X pins σ H s) {N' : List Str} {scope : Scope} {cl : List (Str × Addr)} {fp : List Addr} (hf : ∀ b ∈ fp, zld X pins H b) {C : Addr} (hC : s.heap.objs.size <= C) {σ' : zxd} {H' : zxg} {s' : Shared} {pl : List (Addr × Obj)}
  (zxi : Inv (zc0 X N' scope cl C s H fp) pl σ' H' s') {h' : Heap} (hs : Heap.SameBut C s'.heap h') : Inv X pins σ H' { s' with heap := h' } := by
 have hCn : H' C = none := zxi.free
 refine I.call' (ch := fp) (s' := { s' with heap := h' }) zxi.os ?_ ?_ zxi.bare fun b hb => ⟨(hf b hb).2.2.2.1, (hf b hb).2.1, (hf b hb).2.2.2.2.1, (hf b hb).2.2.2.2.2⟩
 ·have U : Un (zu7 X.stack) fp H H' s.heap s'.heap := zxi.base
  have neC : ∀ b o, s.heap.get? b = some o -> b ≠ C := fun b o e => Nat.ne_of_lt (Nat.lt_of_lt_of_le (Heap.lt_size e) hC)
  refine ⟨fun b o e n h1 h2 => ?_, fun b o e n h1 h2 => ?_, U.free, fun b o e h2 => ?_, U.tups, U.frzs, U.tbls⟩
  ·exact (hs.2 b (neC b o e)).trans (U.keep b o e n h1 h2)
  ·obtain ⟨sl, q⟩ := U.slot b o e n h1 h2
   exact ⟨sl, (hs.2 b (neC b o e)).trans q⟩
  ·obtain ⟨o', q⟩ := U.there b o e h2
   exact ⟨o', (hs.2 b (neC b o e)).trans q⟩
 ·intro b u e
  refine (zxi.hok b u e).stay (fun c v hc q => (hs.2 c ?_).trans q) (fun _ q => q) fun _ _ q => q
  rintro rfl
  rcases hc with z | z
  ·rw [← z, hCn] at e; cases e
  ·rw [hCn] at z; cases z
end
end L2
end
section
namespace L2
open PySem PySem.Spec PyProof.Rows
def zvA (X : Cx) (es : List Expr) (t : zwT) : Prop :=
 ∀ (pins : List (Addr × Obj)) (s : Shared) (σ : zxd) (H : zxg) (Q : Bool -> zxg -> Prop), Inv X pins σ H s -> t σ H Q ->
  wpAny (model X.prog X.w) X.A (forIn es true fun c r => if r = true then do let ok ← isTrue c X.env (eval c X.env); pure (ForInStep.yield ok) else pure (ForInStep.yield r)) (zwc X pins σ Q) X.xe s
def zsq : zwT := fun _ H Q => Q true H
theorem zpp {X : Cx} : zvA X [] zsq := fun _ _ _ H _ I h => wpAny_tests_nil ⟨H, I, h⟩
theorem zpo {X : Cx} {c : Expr} {t : zwT} (hc : zwK X c t) : zvA X [c] t := fun pins s σ H Q I h => wpAny_tests_one (hc pins s σ H Q I h)
def zvJ (zxi : It) (g : zwF) (tc : zwT) (te : zw8) (acc : Addr) (Q : V -> zxg -> Prop) (σ0 : zxd) (H1 : zxg) : Prop :=
 ∃ W : Nat -> Nat -> List V -> zxd -> zxg -> Prop, (∃ m, W 0 m [] σ0 (zt0 H1 acc (.lst []))) /\ ∀ i m ys σ' H', W i m ys σ' H' -> H' acc = some (.lst ys) /\
  ((zxi.stop i H' /\ Q (.ref acc) H') \/ (zxi.go i H' /\ ∀ x H2, zxi.yld i H' x H2 -> g x σ' H2 fun σ2 H3 => tc σ2 H3 fun b H4 =>
   if b = true then te σ2 H4 fun v H5 => H5 acc = some (.lst ys) /\ ys.length < sizeLine /\ ∃ m', m' < m /\ W (i + 1) m' (ys ++ [v]) σ2 (zt0 H5 acc (.lst (ys ++ [v])))
   else ∃ m', m' < m /\ W (i + 1) m' ys σ2 H4))
def zud (wi : zwz) (g : zwF) (tc : zwT) (te : zw8) (fv : List (Option Nat)) : zw8 := fun σ H Q => wi σ H fun zxi H1 => ∀ acc, H1 acc = none -> zvJ zxi g tc te acc Q (zml fv σ) H1
def zwe (X : Cx) (N' : List Str) (scope : Scope) (tg : Expr) (ifs : List Expr) (elt : Expr) (g : zwF) (tc : zwT) (te : zw8) : Prop :=
 ∀ (cl : List (Str × Addr)) (C : Addr) (s₀ : Shared) (H₀ : zxg) (fp : List Addr), zwt (zc0 X N' scope cl C s₀ H₀ fp) tg g /\ zvA (zc0 X N' scope cl C s₀ H₀ fp) ifs tc /\ zxb (zc0 X N' scope cl C s₀ H₀ fp) elt te
structure FvOk (X : Cx) (N' : List Str) (scope : Scope) (fv : List (Option Nat)) : Prop where
 len : fv.length = N'.length
 at' : ∀ (i j : Nat) x, N'[i]? = some x -> fv[i]? = some (some j) -> X.N[j]? = some x /\ (X.env.kindOf x = some .cell \/ X.env.kindOf x = some .free) /\ scope.names.lookup x = some .free
section
variable {X : Cx} {elt tg iter : Expr} {ifs : List Expr} {scope : Scope} {pos : Pos} {N' : List Str} {fv : List (Option Nat)} {g : zwF} {tc : zwT} {te : zw8}
theorem zkv {pins : List (Addr × Obj)} {σ : zxd} {H1 : zxg} {s2 : Shared} {zxf : Addr} {fp : List Addr} {tn : Nat -> Heap -> Prop} {zxi : It} {Q : zw3} {RR : Value -> Addr -> Result -> Shared -> Prop} (hc : X.calm = true) (S : CompScope X scope) (F : FvOk X N' scope fv) (hb : zwe X N' scope tg ifs elt g tc te)
  (I2 : Inv X pins σ H1 s2) (T : Turn X.prog X.w X.K tg zxi fp zxf tn) (st2 : tn 0 s2.heap) (f2 : ∀ b ∈ fp, zld X pins H1 b) (q : ∀ acc, H1 acc = none -> zvJ zxi g tc te acc Q (zml fv σ) H1)
  (hRR : ∀ (a C : Addr) (H' : zxg) (s' : Shared) (m : Str -> Option Value), s'.heap.Ns C m -> (∀ h', Heap.SameBut C s'.heap h' -> Inv X pins σ H' { s' with heap := h' }) -> zld X pins H' C -> Q (.ref a) H' -> RR (.ref a) C (.ok .next) s') :
  wpAny (model X.prog X.w) X.A (newList []) (fun acc s₃ => wpAny (model X.prog X.w) X.A (newFunctionEnv scope X.env.globals (zdB X.env scope.names []) [] X.env.qual none .none (some X.env)) (fun cenv s₄ =>
   codeAny (model X.prog X.w) X.A (.compStart (.ListComp elt [⟨tg, iter, ifs, 0⟩] scope pos) 0 (.ref zxf) acc { cenv with scope := relabel scope X.env }) (RR acc cenv.locals) s₄) X.xe s₃) X.xe s2 := by
 refine wpAny_newObj_type ?_
 have hacc : H1 s2.heap.objs.size = none := I2.fresh
 have I3 : Inv X pins σ (zt0 H1 s2.heap.objs.size (.lst [])) { s2 with heap := s2.heap.push { cls := .type "list", data := .seq ([] : List Value).toArray } } := I2.lnew (t' := s2.toks) .nil (Nat.zero_le _)
 generalize hs3 : ({ s2 with heap := s2.heap.push { cls := .type "list", data := .seq ([] : List Value).toArray } } : Shared) = s3 at I3 ⊢
 have up : ∀ b o, s2.heap.get? b = some o -> s3.heap.get? b = some o := fun b o e => by rw [← hs3]; exact Heap.get?_push_of_some _ e
 have lt2 : ∀ b ∈ fp, b < s2.heap.objs.size := fun b hb => by
  obtain ⟨o, e, _⟩ := T.obj 0 _ st2 b hb
  exact Heap.lt_size e
 have zum : s2.heap.objs.size < s3.heap.objs.size := by rw [← hs3]; show _ < (s2.heap.push _).objs.size; rw [Heap.size_push]; exact Nat.lt_succ_self _
 have lt3 : ∀ b ∈ fp, b < s3.heap.objs.size := fun b hb => Nat.lt_trans (lt2 b hb) zum
 have f3 : ∀ b ∈ fp, zld X pins (zt0 H1 s2.heap.objs.size (.lst [])) b := fun b hb => ⟨by rw [zaz (Nat.ne_of_lt (lt2 b hb))]; exact (f2 b hb).1, (f2 b hb).2⟩
 have st3 : tn 0 s3.heap := T.keep _ _ _ st2 fun b _ o e => up b o e
 refine wpAny_newFunctionEnv S.nocell (by intro y hy; simp at hy) (fun h4 hn4 sb4 => ?_) S.kind
 have zwD : ∀ b o, s3.heap.get? b = some o -> h4.get? b = some o := fun b o e => (sb4.2 b (Nat.ne_of_lt (Heap.lt_size e))).trans (Heap.get?_push_of_some _ e)
 have st4 : tn 0 h4 := T.keep _ _ _ st3 fun b _ o e => zwD b o e
 have I4 := zk4 I3 S f3 lt3 (C := s3.heap.objs.size) rfl F.len F.at' hn4 zwD (t' := s3.toks + ([] : List (Str × Value)).length)
 generalize hX : zc0 X N' scope (zdB X.env scope.names []) s3.heap.objs.size s3 (zt0 H1 s2.heap.objs.size (.lst [])) fp = X' at I4
 obtain ⟨bg, bt, be⟩ := hb (zdB X.env scope.names []) s3.heap.objs.size s3 (zt0 H1 s2.heap.objs.size (.lst [])) fp
 rw [hX] at bg bt be
 have hprog : X'.prog = X.prog := by rw [← hX]; rfl
 have hw : X'.w = X.w := by rw [← hX]; rfl
 have hK : X'.K = X.K := by rw [← hX]; rfl
 have hA : X'.A = X.A := by rw [← hX]; rfl
 have hcalm : X'.calm = true := by rw [← hX]; exact hc
 have hxe : X'.xe = fun _ _ => False := by rw [← hX]; rfl
 have henv : X'.env = compEnvC scope (zdB X.env scope.names []) s3.heap.objs.size X.env := by rw [← hX]; rfl
 have stat : ∀ {H' : zxg}, (∀ b ∈ fp, H' b = none) -> ∀ b ∈ fp, zld X' [] H' b := fun {H'} hn b hb => by
  have f := f3 b hb
  have ok := I4.ok
  refine ⟨hn b hb, (ok.exf b (by rw [← hX]; exact hb)).1, ok.exfs b (by rw [← hX]; exact hb), .inl (by rw [← hX]; exact hb), fun x c e => (ok.exf b (by rw [← hX]; exact hb)).2 x c e, fun p hp => ?_⟩
  rw [← hX] at hp
  exact absurd (show p ∈ ([] : List (Addr × Obj)) from hp) (by simp)
 obtain ⟨W, ⟨m0, w0⟩, turn⟩ := q s2.heap.objs.size hacc
 have loop : ∀ s5 : Shared, s5 = { s3 with heap := h4, toks := s3.toks + ([] : List (Str × Value)).length } ->
   codeAny (model X.prog X.w) X.A (.compLoop (.ListComp elt [⟨tg, iter, ifs, 0⟩] scope pos) 0 (.ref zxf) (.ref s2.heap.objs.size) (compEnvC scope (zdB X.env scope.names []) s3.heap.objs.size X.env))
    (RR (.ref s2.heap.objs.size) s3.heap.objs.size) s5 := by
  intro s5 hs5
  refine zd1 (fun n s' => ∃ i ys σ' H', Inv X' [] σ' H' s' /\ tn i s'.heap /\ (∀ b ∈ fp, H' b = none) /\ W i n ys σ' H') ?_ m0 ⟨0, [], zml fv σ, _, hs5 ▸ I4, hs5 ▸ st4, fun b hb => (f3 b hb).1, w0⟩
  rintro n s6 ⟨i, ys, σ6, H6, I6, st6, fr6, w6⟩
  obtain ⟨ha6, turn6⟩ := turn i n ys σ6 H6 w6
  rw [← henv]
  rcases turn6 with ⟨stop, qn⟩ | ⟨go, step⟩
  ·have d := T.done X' hprog hw hK hcalm i [] s6 σ6 H6 (fun _ _ => False) I6 (stat fr6) st6 stop
   rw [hA] at d
   refine zt9 d fun r s7 ⟨hr, I7⟩ => ?_
   subst hr
   obtain ⟨m7, hn7, _⟩ := I7.loc
   have hl : X'.env.locals = s3.heap.objs.size := by rw [henv]; rfl
   refine hRR _ _ H6 s7 m7 (hl ▸ hn7) (fun h' hs' => ?_) ?_ qn
   ·rw [← hX] at I7
    exact zn7 I3 f3 (Nat.le_refl _) I7 hs'
   ·exact I3.fpOk (Nat.le_refl _) (by have := I7.free; rw [hl] at this; exact this)
  ·have d := T.item X' hprog hw hK hcalm i [] s6 σ6 H6 (fun _ _ => False) I6 (stat fr6) st6 go
   rw [hA] at d
   refine zt9 d fun r s7 ⟨u, hr, h7⟩ => ?_
   subst hr
   refine zt9 h7 fun _ s8 ⟨x, H8, I8, r8, y8, st8, fr8⟩ => ?_
   have I8' := I8.pinned (stat fr8) (T.obj _ _ st8)
   have dg := bg _ s8 σ6 H8 x u _ I8' r8 (step x H8 y8)
   rw [hprog, hw, hA, hxe] at dg
   refine zt9 dg fun _ s9 ⟨σ9, H9, I9, q9⟩ => ?_
   have dt := bt _ s9 σ9 H9 _ I9 q9
   rw [hprog, hw, hA, hxe] at dt
   refine zt9 dt fun b s10 ⟨H10, I10, q10⟩ => ?_
   have again : ∀ {σ7 : zxd} {H7 : zxg} {s7 : Shared} {ys' : List V}, Inv X' ([] ++ ziA fp s8.heap) σ7 H7 s7 -> (∃ m', m' < n /\ W (i + 1) m' ys' σ7 H7) -> ∃ m, m < n /\ ∃ i ys σ' H', Inv X' [] σ' H' s7 /\ tn i s7.heap /\ (∀ b ∈ fp, H' b = none) /\ W i m ys σ' H' := fun {σ7 H7 s7 ys'} I7 n7 => by
    obtain ⟨m', hm, w7⟩ := n7
    refine ⟨m', hm, i + 1, ys', σ7, H7, I7.unpinned, T.keep _ _ _ st8 fun b hb o e => (I7.pin (b, o) (List.mem_append_right _ (List.mem_append_right _ (zdV hb e)))).1, fun b hb => ?_, w7⟩
    obtain ⟨o, e, _⟩ := T.obj _ _ st8 b hb
    exact (I7.pin (b, o) (List.mem_append_right _ (List.mem_append_right _ (zdV hb e)))).2.1
   cases b with
   | false =>
    rw [if_neg Bool.false_ne_true] at q10 ⊢
    exact again I10 q10
   | true =>
    rw [if_pos rfl] at q10 ⊢
    have de := be _ s10 σ9 H10 _ I10 q10
    rw [hprog, hw, hA, hxe] at de
    refine zt9 de fun v s11 ⟨y, H11, I11, r11, ha11, hz11, n11⟩ => ?_
    have da := zgk _ s11 σ9 H11 (.ref s2.heap.objs.size) [y] (.ref s2.heap.objs.size) [v] (fun _ H' => H' = zt0 H11 s2.heap.objs.size (.lst (ys ++ [y]))) I11 rfl (.cons r11 .nil) ⟨_, ys, y, rfl, rfl, ha11, hz11, rfl⟩
    rw [hprog, hw, hA, hxe] at da
    refine zt9 da fun _ s12 ⟨_, H12, I12, _, e12⟩ => ?_
    subst e12
    exact again I12 n11
 exact codeAny_compStart_list (loop _ rfl) (T.self _ 0 _ _ _ st4 (loop _ rfl))
theorem zrp {wi : zwz} (hc : X.calm = true) (S : CompScope X scope) (F : FvOk X N' scope fv) (hi : zwC X tg iter wi) (hb : zwe X N' scope tg ifs elt g tc te) (hs : ∀ x, foldedSetIterable iter X.env x = pure x := by intro _; rfl) :
  zxb X (.ListComp elt [⟨tg, iter, ifs, 0⟩] scope pos) (zud wi g tc te fv) := by
 intro pins s σ H Q I h
 rw [eval_ListComp]
 refine wpAny_comprehension_free (use := none) rfl hs (zfA I S) S.kind S.names (zt9 (hi pins s σ H _ I h) fun x s1 h1 => zt9 h1 fun itv s2 h2 => ?_)
 obtain ⟨zxf, fp, tn, zxi, H1, e, I2, T, st2, f2, q⟩ := h2
 subst e
 refine zkv (RR := fun acc C => compPost (model X.prog X.w) X.A X.xe none (zwP X pins σ Q) acc C) hc S F hb I2 T st2 f2 q ?_
 intro a C H' s' m hn hI hCL hq
 exact ⟨m, hn, fun h' hs' => ⟨.ref a, H', hI h' hs', rfl, hq⟩⟩
theorem zsF {wi : zwz} {i : Nat} {y : Str} {py spos : Pos} (hN : X.N.Nodup) (hy : X.N[i]? = some y) (hyl : X.env.scope.names.lookup y = some .local) (hc : X.calm = true) (S : CompScope X scope) (F : FvOk X N' scope fv) (hi : zwC X tg iter wi) (hb : zwe X N' scope tg ifs elt g tc te)
  (hsw : swapsWith (.ListComp elt [⟨tg, iter, ifs, 0⟩] scope pos) (some (.Name y py)) spos.line X.env = pure true)
  (hs : ∀ x, foldedSetIterable iter X.env x = pure x := by intro _; rfl) :
  zwG X (.Assign [.Name y py] (.ListComp elt [⟨tg, iter, ifs, 0⟩] scope pos) spos) (zsj (zud wi g tc te fv) (zmk i)) := by
 intro pins s σ H D I h
 rw [exec_Assign_Name_used _ _ _ _ hsw]
 refine wpAny_bind (wpAny_standAt (wpAny_bind ?_))
 show wpAny _ _ (do let _ ← comprehension (.ListComp elt [⟨tg, iter, ifs, 0⟩] scope pos) scope X.env _ (newList []) false (eval iter X.env) (some (assign (.Name y py) X.env))) _ _ s
 refine wpAny_bind (wpAny_mono (wpAny_comprehension_free (use := some (assign (.Name y py) X.env)) (Q := fun _ s' => zwl X pins D .next s') rfl hs (zfA I S) S.kind S.names
  (zt9 (hi pins s σ H _ I h) fun x s1 h1 => zt9 h1 fun itv s2 h2 => ?_)) (fun _ s' hq => wpAny_pure (wpAny_pure hq)) fun _ _ e => e)
 obtain ⟨zxf, fp, tn, zxi, H1, e, I2, T, st2, f2, q⟩ := h2
 subst e
 refine zkv (RR := fun acc C => compPost (model X.prog X.w) X.A X.xe (some (assign (.Name y py) X.env)) (fun _ s' => zwl X pins D .next s') acc C) hc S F hb I2 T st2 f2 q ?_
 intro a C H' s' m hn hI hCL hq
 show wpAny _ _ (assign (.Name y py) X.env (.ref a)) _ _ _
 have I' : Inv X pins σ H' s' := hI s'.heap (Heap.SameBut.refl _ _)
 refine wpAny_assign_Name ?_
 refine zil (v := .ref a) I' hN hy (.inl hyl) rfl (fun s'' I'' hch => ?_) (.inr hyl)
 obtain ⟨ad, hsb, had⟩ := hch
 obtain ⟨f0, f1, f2', f3, f4, f5⟩ := hCL
 have hne : C ≠ ad := by
  rcases had with z | z
  ·rw [z]; exact f1
  ·exact fun e => f4 y ad z e.symm
 refine ⟨m, hn.sameBut hsb hne, fun h' hs' => ?_⟩
 exact ⟨_, H', I''.turned (t' := s''.toks) (fun b o hb e => (hs'.2 b hb).trans e) f0 f1 f3 f4 f5, hq⟩
end
end L2
end
section
namespace L2
open PySem PySem.Spec PyProof.Rows
def zvO (x : Str) : It := ⟨fun i _ => i < x.cps.size, fun i H v H' => H' = H /\ ∃ c, x.cps[i]? = some c /\ v = .str ⟨#[c]⟩, fun i _ => i = x.cps.size⟩
theorem zqg {M : Model} {A : Around} {E : Value -> Shared -> Prop} {s : Shared} {n : Str} {p : Pos} {zxf : Value} {u : Value} {Q : Unit -> Shared -> Prop} (hQ : Q () s) : wpAny M A (letOwnedTupleGo (.Name n p) zxf u) Q E s := wpAny_pure hQ
theorem zjZ {P : Program} {w : World} {K : PySem.W.Frag} {n : Str} {p : Pos} {ty : String} (zxf : Addr) (x : Str) (t : Tok)
  (W : ∀ A : Around, A.handled = none -> Walks P w A zxf [zxf] [zxf] x.cps.size (SignAt x) (fun i h => h.IsStrIter zxf ty x t i))
  (sf : ∀ (A : Around) (i : Nat) (s : Shared) (Q : Value -> Shared -> Prop) (E : Value -> Shared -> Prop), s.heap.IsStrIter zxf ty x t i -> Q (.ref zxf) s -> wpAny (model P w) A (pyIter (.ref zxf)) Q E s) : Turn P w K (.Name n p) (zvO x) [zxf] zxf (fun i h => h.IsStrIter zxf ty x t i) where
 mem := by simp
 obj := fun i h st b hb => by
  have e : b = zxf := by simpa using hb
  subst e
  obtain ⟨o, e, c, d⟩ := st
  exact ⟨o, e, fun v z => by rw [d] at z; cases z⟩
 keep := fun i h h' st k => by
  obtain ⟨o, e, r⟩ := st
  exact ⟨o, k zxf (by simp) o e, r⟩
 item := by
  intro X hP hw hK hc i pins s σ H E I hf st hg
  subst hP hw hK
  obtain ⟨f0, f1, f2, f3, f4, f5⟩ := hf zxf (by simp)
  refine (W X.A (I.ok.hd hc)).item i s _ _ hg st fun v h' tk hv st' kk => ?_
  obtain ⟨c, u, hcc, rfl⟩ := hv
  have I1 : Inv X pins σ H { s with heap := h', toks := tk } := I.turned (fun b o hb e => kk b o (by simpa using hb) e) f0 f1 f3 f4 f5
  exact ⟨_, rfl, zqg ⟨.str ⟨#[c]⟩, H, I1, ⟨_, rfl⟩, ⟨rfl, c, hcc, rfl⟩, st', fun b hb => (hf b hb).1⟩⟩
 done := by
  intro X hP hw hK hc i pins s σ H E I hf st hg
  subst hP hw hK
  obtain ⟨f0, f1, f2, f3, f4, f5⟩ := hf zxf (by simp)
  have hi : i = x.cps.size := hg
  subst hi
  exact (W X.A (I.ok.hd hc)).done s _ _ st fun h' tk kk => ⟨rfl, I.turned (fun b o hb e => kk b o (by simpa using hb) e) f0 f1 f3 f4 f5⟩
 self := sf
def ztN (te : zw8) : zwz := fun σ H R => te σ H fun v H1 => ∃ x, v = .str x /\ R (zvO x) H1
theorem zrg {X : Cx} {e : Expr} {te : zw8} {n : Str} {p : Pos} (he : zxb X e te) : zwC X (.Name n p) e (ztN te) := by
 intro pins s σ H R I h
 refine zt9 (he pins s σ H _ I h) fun v s1 ⟨y, H1, I1, r1, q1⟩ => ?_
 obtain ⟨x, e, q⟩ := q1
 subst e
 obtain ⟨t, rfl⟩ := r1
 have fin : ∀ (ty : String) (o : Obj), (s1.heap.push o).IsStrIter s1.heap.objs.size ty x t 0 -> Turn X.prog X.w X.K (.Name n p) (zvO x) [s1.heap.objs.size] s1.heap.objs.size (fun i h => h.IsStrIter s1.heap.objs.size ty x t i) ->
   zvC X pins σ (.Name n p) R (.ref s1.heap.objs.size) { s1 with heap := s1.heap.push o } := fun ty o st T => by
  refine ⟨s1.heap.objs.size, [s1.heap.objs.size], _, _, H1, rfl, I1.kept (t' := s1.toks) fun b o e => Heap.get?_push_of_some _ e, T, st, fun b hb => ?_, q⟩
  have e : b = s1.heap.objs.size := by simpa using hb
  subst e
  exact I1.fpOk (Nat.le_refl _) (I1.hok.fresh (Nat.le_refl _))
 cases ha : x.cps.all (· < 128)
 ·exact wpAny_pyIter_wide ha (fin _ _ ⟨_, Heap.get?_push_size _ rfl, rfl, rfl⟩ (zjZ _ x t (fun A' hA => Walks.strWide hA _ x t) fun _ _ _ _ _ st h => wpAny_pyIter_striter_wide st h))
 ·exact wpAny_pyIter_ascii ha (fin _ _ ⟨_, Heap.get?_push_size _ rfl, rfl, rfl⟩ (zjZ _ x t (fun A' hA => Walks.strAscii hA _ x t) fun _ _ _ _ _ st h => wpAny_pyIter_striter_ascii st h))
def zvR (K : PySem.W.Frag) (a : Addr) : It :=
 ⟨fun i H => ∃ xs x, zvy K H a xs /\ xs[i]? = some x, fun i H v H' => ∃ T x, v = .ref T /\ H T = none /\ H' = zt0 H T (.tup [.int i, x]) /\ ∀ xs, zvy K H a xs -> xs[i]? = some x, fun i H => ∃ xs, zvy K H a xs /\ xs.length <= i⟩
theorem zlk {P : Program} {w : World} {K : PySem.W.Frag} {elts : List Expr} {zwY : Nat} {pos : Pos} (e zxf a : Addr) (hei : e ≠ zxf) :
  Turn P w K (.Tuple elts zwY pos) (zvR K a) [e, zxf] e (fun i h => (∃ old, IsEnum h e zxf i old) /\ h.IsListIter zxf a i) where
 mem := by simp
 obj := fun i h st b hb => by
  obtain ⟨⟨old, he⟩, o, ho, c, d⟩ := st
  rcases List.mem_cons.mp hb with z | z
  ·subst z
   exact ⟨_, he, fun v z => by cases z⟩
  ·have z' : b = zxf := by simpa using z
   subst z'
   exact ⟨o, ho, fun v z => by rw [d] at z; cases z⟩
 keep := fun i h h' st k => by
  obtain ⟨⟨old, he⟩, hi⟩ := st
  exact ⟨⟨old, k e (by simp) _ he⟩, hi.at fun o x => k zxf (by simp) o x⟩
 item := by
  intro X hP hw hK hc i pins s σ H E I hf st hg
  subst hP hw hK
  obtain ⟨xs, x, hq, hx⟩ := hg
  obtain ⟨its, rv, p, hz⟩ := I.list hq
  obtain ⟨u, hu, ru⟩ := rv.get hx
  obtain ⟨⟨old, he⟩, hit⟩ := st
  obtain ⟨e0, e1, e2, e3, e4, e5⟩ := hf e (by simp)
  obtain ⟨f0, f1, f2, f3, f4, f5⟩ := hf zxf (by simp)
  have helt : e < s.heap.objs.size := Heap.lt_size he
  have hilt : zxf < s.heap.objs.size := by obtain ⟨_, x, _⟩ := hit; exact Heap.lt_size x
  refine wpAny_pyNext_enum_item he hit p.isList (x := u) (by simpa using hu) hei fun h' ho hit' hT hsz hk => ?_
  refine ⟨_, rfl, wpAny_letOwnedTupleGo_enum ho fun h2 he2 hs2 => ?_⟩
  have hs2' : Heap.SameBut e h' h2 := hs2
  have kk : ∀ b o, b ≠ e -> b ≠ zxf -> s.heap.get? b = some o -> h2.get? b = some o := fun b o h1 h3 q => (hs2'.2 b h1).trans (hk b o h1 h3 q)
  have hT2 : h2.get? s.heap.objs.size = some { cls := .type "tuple", data := .seq #[.int i s.toks, u] } := (hs2'.2 _ (Nat.ne_of_gt helt)).trans hT
  have nH : H s.heap.objs.size = none := I.fresh
  have I1 : Inv X pins σ (zt0 H s.heap.objs.size (.tup [.int i, x])) { s with heap := h2, toks := s.toks + 1 } := by
   have ne : ∀ b o, H b = some o -> b ≠ e /\ b ≠ zxf := fun b o q => ⟨fun z => (by rw [z, e0] at q; cases q), fun z => (by rw [z, f0] at q; cases q)⟩
   refine I.step (g' := s.gens) (d' := s.drawn) (ch := [e, zxf]) (fun b hb => ?_) (fun b o _ _ hc q _ => kk b o (fun z => hc (by simp [z])) (fun z => hc (by simp [z])) q) (fun b o _ _ hc q _ => ⟨o.slots, kk b o (fun z => hc (by simp [z])) (fun z => hc (by simp [z])) q⟩) (fun b o _ q n => ?_)
    (fun b o hc q => ⟨o, kk b o (fun z => hc (by simp [z])) (fun z => hc (by simp [z])) q⟩) (fun b ys q => ?_) (fun b o y q => ?_) (fun b ps q => ⟨#[], ?_⟩) (fun m hm => ?_) (fun b v q => ?_) I.bare
   ·rcases List.mem_cons.mp hb with z | z
    ·subst z; exact ⟨e3, e1, e4, e5⟩
    ·have z' : b = zxf := by simpa using z
     subst z'; exact ⟨f3, f1, f4, f5⟩
   ·rw [zaz (Nat.ne_of_lt (Heap.lt_size q))]; exact n
   ·rw [zaz (zaq q nH)]; exact q
   ·rw [zaz (zaq q nH)]; exact q
   ·rw [zaz (zaq q nH), q]; simp
   ·obtain ⟨o, es, ep, q, r⟩ := hm
    exact ⟨o, es, ep, kk _ o (Ne.symm e1) (Ne.symm f1) q, r⟩
   ·by_cases hb : b = s.heap.objs.size
    ·subst hb
     rw [zaB] at q
     cases q
     exact ⟨by show 2 <= sizeLine; decide, [.int i s.toks, u], .cons ⟨_, rfl⟩ (.cons ru .nil), ⟨_, hT2, rfl, _, rfl⟩⟩
    ·rw [zaz hb] at q
     refine (I.hok b v q).stay (fun c v hc r => ?_) (fun c r => by rw [zaz (zaq r nH)]; exact r) fun c ys r => by rw [zaz (zaq r nH)]; exact r
     rcases hc with z | z
     ·rw [z] at r ⊢; exact kk b v (ne b _ q).1 (ne b _ q).2 r
     ·exact kk c v (ne c _ z).1 (ne c _ z).2 r
  refine ⟨.ref s.heap.objs.size, _, I1, rfl, ⟨_, x, rfl, nH, rfl, fun ys hy => by rw [I.list_inj hy hq]; exact hx⟩, ⟨⟨_, by simpa using he2⟩, hit'.at fun o y => (hs2'.2 zxf hei.symm).trans y⟩, fun b hb => ?_⟩
  rcases List.mem_cons.mp hb with z | z
  ·subst z; rw [zaz (Nat.ne_of_lt helt)]; exact e0
  ·have z' : b = zxf := by simpa using z
   subst z'; rw [zaz (Nat.ne_of_lt hilt)]; exact f0
 done := by
  intro X hP hw hK hc i pins s σ H E I hf st hg
  subst hP hw hK
  obtain ⟨xs, hq, hx⟩ := hg
  obtain ⟨its, rv, p, hz⟩ := I.list hq
  obtain ⟨⟨old, he⟩, hit⟩ := st
  obtain ⟨f0, f1, f2, f3, f4, f5⟩ := hf zxf (by simp)
  have hl := rv.length
  exact wpAny_pyNext_enum_end (I.ok.hd hc) he hit p.isList (by simp; omega) fun h' eb => ⟨rfl, I.turned (t' := s.toks) (fun b o hb e => eb b o hb e) f0 f1 f3 f4 f5⟩
 self := fun A i s Q E st h => by
  obtain ⟨⟨old, he⟩, _⟩ := st
  exact wpAny_pyIter_enum he h
def zsU (K : PySem.W.Frag) (ta : zwS) : zwz := fun σ H R => ta σ H fun vs H1 => ∃ a, vs = [.ref a] /\ (∃ xs, zvy K H1 a xs) /\ R (zvR K a) H1
theorem zpA {X : Cx} {a : Expr} {ta : zwS} {p pos : Pos} {elts : List Expr} {zwY : Nat} {tpos : Pos} (hg : zwU X "enumerate") (hm : X.mg "enumerate" = none) (ha : zwN X [a] ta) (hs : starEach [a] X.env = [(false, eval a X.env)] := by rfl) :
  zwC X (.Tuple elts zwY tpos) (.Call (.Name "enumerate" p) [a] [] pos) (zsU X.K ta) := by
 intro pins s σ H R I h
 refine Call_ (zhn I hg hm PyProof.Rows.boot_enumerate (PyProof.Rows.callWith_type1 (zt9 (ha pos pins s σ H _ I h) fun us s1 ⟨vs, H1, I1, r1, q1⟩ => ?_) hs rfl))
 obtain ⟨l, e, ⟨xs, hq⟩, q⟩ := q1
 subst e
 obtain ⟨u, rfl, r2⟩ := zfY r1
 cases r2
 obtain ⟨its, rv, pl, hz⟩ := I1.list hq
 refine call_enumerate_list pl.isList fun h' he hit hsz hk => ?_
 have I2 : Inv X pins σ H1 { s1 with heap := h' } := I1.kept (t' := s1.toks) hk
 refine wpAny_pyIter_enum he ?_
 refine ⟨s1.heap.objs.size + 1, [s1.heap.objs.size + 1, s1.heap.objs.size], _, _, H1, rfl, I2, zlk _ _ l (Nat.succ_ne_self _), ⟨⟨_, he⟩, hit⟩, fun b hb => ?_, q⟩
 rcases List.mem_cons.mp hb with z | z
 ·subst z; exact I1.fpOk (Nat.le_succ _) (I1.hok.fresh (Nat.le_succ _))
 ·have z' : b = s1.heap.objs.size := by simpa using z
  subst z'; exact I1.fpOk (Nat.le_refl _) (I1.hok.fresh (Nat.le_refl _))
end L2
end
section
namespace L2
open PySem PySem.Spec PyProof.Rows
inductive D where
 | non | bl (b : Bool) | int (i : Int) | str (x : Str) | tup (l : List D) | lst (l : List D) | scr (ns : List Int)
 | dk (l : List (zvK × D)) | dt (l : List (List zvK × D)) | ins (c : Str) (fs : List (Str × D)) | ty (n : String)
structure Cn where
 cls : Str -> Option Addr
 self : Option Addr := none
mutual
inductive Rep (J : Cn) (K : PySem.W.Frag) (G : zxg) : V -> D -> Prop where
 | non : Rep J K G .non .non
 | bl (b : Bool) : Rep J K G (.bl b) (.bl b)
 | int (i : Int) : Rep J K G (.int i) (.int i)
 | str (x : Str) : Rep J K G (.str x) (.str x)
 | ty (n : String) : Rep J K G (.ty n) (.ty n)
 | tup {a : Addr} {vs : List V} {ds : List D} : G a = some (.tup vs) -> Reps J K G vs ds -> Rep J K G (.ref a) (.tup ds)
 | lst {a : Addr} {vs : List V} {ds : List D} : G a = some (.lst vs) -> Reps J K G vs ds -> Rep J K G (.ref a) (.lst ds)
 | scr {a : Addr} {ns : List Int} : zvy K G a (ns.map V.int) -> Rep J K G (.ref a) (.scr ns)
 | dk {a : Addr} {us : List (zvK × V)} {kvs : List (zvK × D)} : G a = some (.dK us) -> us.map (·.1) = kvs.map (·.1) -> Reps J K G (us.map (·.2)) (kvs.map (·.2)) -> Rep J K G (.ref a) (.dk kvs)
 | dt {a : Addr} {us : List (List zvK × V)} {kvs : List (List zvK × D)} : G a = some (.dT us) -> us.map (·.1) = kvs.map (·.1) -> Reps J K G (us.map (·.2)) (kvs.map (·.2)) -> Rep J K G (.ref a) (.dt kvs)
 | ins {a C dx : Addr} {c : Str} {us : List (Str × V)} {fs : List (Str × D)} : G a = some (.ins C dx us) -> J.cls c = some C -> us.map (·.1) = fs.map (·.1) -> Reps J K G (us.map (·.2)) (fs.map (·.2)) -> Rep J K G (.ref a) (.ins c fs)
inductive Reps (J : Cn) (K : PySem.W.Frag) (G : zxg) : List V -> List D -> Prop where
 | nil : Reps J K G [] []
 | cons {v : V} {d : D} {vs : List V} {ds : List D} : Rep J K G v d -> Reps J K G vs ds -> Reps J K G (v :: vs) (d :: ds)
end
section
variable {J : Cn} {K : PySem.W.Frag} {G G' G1 H H' H1 H2 G2 : zxg}
mutual
theorem Rep.mono : ∀ {v : V} {d : D}, Rep J K G v d -> zb5 G G' -> Rep J K G' v d
 | _, _, .non, _ => .non
 | _, _, .bl b, _ => .bl b
 | _, _, .int i, _ => .int i
 | _, _, .str x, _ => .str x
 | _, _, .ty x, _ => .ty x
 | _, _, .tup h r, s => .tup (s _ _ h) (r.mono s)
 | _, _, .lst h r, s => .lst (s _ _ h) (r.mono s)
 | _, _, .scr h, s => .scr (s.seq h)
 | _, _, .dk h e r, s => .dk (s _ _ h) e (r.mono s)
 | _, _, .dt h e r, s => .dt (s _ _ h) e (r.mono s)
 | _, _, .ins h c e r, s => .ins (s _ _ h) c e (r.mono s)
theorem Reps.mono : ∀ {vs : List V} {ds : List D}, Reps J K G vs ds -> zb5 G G' -> Reps J K G' vs ds
 | _, _, .nil, _ => .nil
 | _, _, .cons h r, s => .cons (h.mono s) (r.mono s)
end
mutual
theorem Rep.re {J' : Cn} (hc : J'.cls = J.cls) : ∀ {v : V} {d : D}, Rep J K G v d -> Rep J' K G v d
 | _, _, .non => .non
 | _, _, .bl b => .bl b
 | _, _, .int i => .int i
 | _, _, .str x => .str x
 | _, _, .ty x => .ty x
 | _, _, .tup h r => .tup h (r.re hc)
 | _, _, .lst h r => .lst h (r.re hc)
 | _, _, .scr h => .scr h
 | _, _, .dk h e r => .dk h e (r.re hc)
 | _, _, .dt h e r => .dt h e (r.re hc)
 | _, _, .ins h c e r => .ins h (by rw [hc]; exact c) e (r.re hc)
theorem Reps.re {J' : Cn} (hc : J'.cls = J.cls) : ∀ {vs : List V} {ds : List D}, Reps J K G vs ds -> Reps J' K G vs ds
 | _, _, .nil => .nil
 | _, _, .cons h r => .cons (h.re hc) (r.re hc)
end
theorem Reps.length : ∀ {vs : List V} {ds : List D}, Reps J K G vs ds -> vs.length = ds.length
 | _, _, .nil => rfl
 | _, _, .cons _ r => by rw [List.length_cons, List.length_cons, r.length]
theorem Reps.get : ∀ {vs : List V} {ds : List D} {i : Nat} {d : D}, Reps J K G vs ds -> ds[i]? = some d -> ∃ v, vs[i]? = some v /\ Rep J K G v d
 | _, _, _, _, .nil, e => by simp at e
 | _, _, 0, _, .cons r _, e => by simp at e; subst e; exact ⟨_, rfl, r⟩
 | _, _, i + 1, d, .cons _ t, e => by
  obtain ⟨u, h1, h2⟩ := Reps.get (i := i) (d := d) t (by simpa using e)
  exact ⟨u, by simpa using h1, h2⟩
theorem Reps.append : ∀ {vs ws : List V} {ds es : List D}, Reps J K G vs ds -> Reps J K G ws es -> Reps J K G (vs ++ ws) (ds ++ es)
 | _, _, _, _, .nil, s => s
 | _, _, _, _, .cons r t, s => .cons r (t.append s)
theorem Reps.take : ∀ {vs : List V} {ds : List D} (n : Nat), Reps J K G vs ds -> Reps J K G (vs.take n) (ds.take n)
 | _, _, 0, _ => .nil
 | _, _, _ + 1, .nil => .nil
 | _, _, n + 1, .cons r t => .cons r (t.take n)
theorem Reps.drop : ∀ {vs : List V} {ds : List D} (n : Nat), Reps J K G vs ds -> Reps J K G (vs.drop n) (ds.drop n)
 | _, _, 0, r => r
 | _, _, _ + 1, .nil => .nil
 | _, _, n + 1, .cons _ t => t.drop n
theorem Reps.ints : ∀ (ns : List Int), Reps J K G (ns.map V.int) (ns.map D.int)
 | [] => .nil
 | n :: r => .cons (.int n) (Reps.ints r)
theorem Reps.rep {vs : List V} {ds : List D} (h : Reps J K G vs ds) : ∀ k : Nat, Reps J K G (List.replicate k vs).flatten (List.replicate k ds).flatten
 | 0 => .nil
 | k + 1 => by
  rw [List.replicate_succ, List.replicate_succ, List.flatten_cons, List.flatten_cons]
  exact h.append (Reps.rep h k)
structure Step (G H G' H' : zxg) : Prop where
 hh : zb5 H H'
 gg : zb5 G G'
 gh : zb5 G' H'
 out : ∀ a o, H a = some o -> G' a = G a
theorem Step.refl (gh : zb5 G H) : Step G H G H := ⟨.refl _, .refl _, gh, fun _ _ _ => rfl⟩
theorem Step.trans (a : Step G H G1 H1) (b : Step G1 H1 G2 H2) : Step G H G2 H2 :=
 ⟨a.hh.trans b.hh, a.gg.trans b.gg, b.gh, fun c o e => (b.out c o (a.hh c o e)).trans (a.out c o e)⟩
theorem Step.new {p : Addr} {o : HO} (gh : zb5 G H) (hp : H p = none) : Step G H (zt0 G p o) (zt0 H p o) := by
 have gp : G p = none := gh.free hp
 refine ⟨fun b u e => ?_, fun b u e => ?_, fun b u e => ?_, fun b u e => ?_⟩
 ·rw [zaz (zaq e hp)]; exact e
 ·rw [zaz (zaq e gp)]; exact e
 ·by_cases hb : b = p
  ·subst hb; rw [zaB] at e ⊢; exact e
  ·rw [zaz hb] at e ⊢; exact gh b u e
 ·rw [zaz (zaq e hp)]
theorem Step.newOwn {p : Addr} {o : HO} (gh : zb5 G H) (hp : H p = none) : Step G H G (zt0 H p o) := by
 refine ⟨fun b u e => ?_, .refl _, fun b u e => ?_, fun _ _ _ => rfl⟩
 ·rw [zaz (zaq e hp)]; exact e
 ·rw [zaz (zaq (gh b u e) hp)]; exact gh b u e
end
inductive Slot where
 | sh (d : D)
 | own (ds : List D)
 | obj (c : Str) (fs : List (Str × D))
 | objd (c : Str) (fs : List (Str × D)) (n : Str) (kvs : List (zvK × D))
 | odk (kvs : List (zvK × D))
 | odt (kvs : List (List zvK × D))
 | tlo (ds es : List D)
 | pin (a : Addr)
abbrev zaV := List (Option Slot)
def zd0 : D -> Bool
 | .non => true
 | .bl _ => true
 | .int _ => true
 | .str _ => true
 | _ => false
inductive SR (J : Cn) (K : PySem.W.Frag) (H₀ G H : zxg) : Slot -> V -> List Addr -> Prop where
 | sh {d : D} {v : V} : Rep J K G v d -> SR J K H₀ G H (.sh d) v []
 | own {a : Addr} {vs : List V} {ds : List D} : H₀ a = none -> G a = none -> H a = some (.lst vs) -> Reps J K G vs ds -> SR J K H₀ G H (.own ds) (.ref a) [a]
 | obj {c : Str} {a C dx : Addr} {vs : List (Str × V)} {fs : List (Str × D)} : J.cls c = some C -> H₀ a = none -> G a = none -> H a = some (.ins C dx vs) -> vs.map (·.1) = fs.map (·.1) -> Reps J K G (vs.map (·.2)) (fs.map (·.2)) -> J.self = some a -> SR J K H₀ G H (.obj c fs) (.ref a) [a]
 | objd {c n : Str} {a C dx p : Addr} {vs : List (Str × V)} {fs : List (Str × D)} {us : List (zvK × V)} {kvs : List (zvK × D)} : J.cls c = some C -> H₀ a = none -> G a = none -> H a = some (.ins C dx (vs ++ [(n, .ref p)])) -> vs.map (·.1) = fs.map (·.1) -> Reps J K G (vs.map (·.2)) (fs.map (·.2)) ->
   H₀ p = none -> G p = none -> H p = some (.dK us) -> us.map (·.1) = kvs.map (·.1) -> Reps J K G (us.map (·.2)) (kvs.map (·.2)) -> J.self = some a -> SR J K H₀ G H (.objd c fs n kvs) (.ref a) [a, p]
 | odk {a : Addr} {us : List (zvK × V)} {kvs : List (zvK × D)} : H₀ a = none -> G a = none -> H a = some (.dK us) -> us.map (·.1) = kvs.map (·.1) -> Reps J K G (us.map (·.2)) (kvs.map (·.2)) -> SR J K H₀ G H (.odk kvs) (.ref a) [a]
 | odt {a : Addr} {us : List (List zvK × V)} {kvs : List (List zvK × D)} : H₀ a = none -> G a = none -> H a = some (.dT us) -> us.map (·.1) = kvs.map (·.1) -> Reps J K G (us.map (·.2)) (kvs.map (·.2)) -> SR J K H₀ G H (.odt kvs) (.ref a) [a]
 | tlo {t p : Addr} {vs ws : List V} {ds es : List D} : H₀ p = none -> G p = none -> H p = some (.lst ws) -> G t = some (.tup (vs ++ [.ref p])) -> Reps J K G vs ds -> Reps J K G ws es -> SR J K H₀ G H (.tlo ds es) (.ref t) [p]
 | pin (a : Addr) : SR J K H₀ G H (.pin a) (.ref a) []
section
variable {J : Cn} {K : PySem.W.Frag} {H₀ G G' H H' : zxg} {s : Slot} {v : V} {fp : List Addr}
theorem SR.fpt (r : SR J K H₀ G H s v fp) : ∀ b ∈ fp, H₀ b = none /\ G b = none /\ ∃ o, H b = some o := by
 cases r with
 | sh r => intro b hb; cases hb
 | own h1 h2 h3 _ => intro b hb; rw [List.mem_singleton.mp hb]; exact ⟨h1, h2, _, h3⟩
 | obj _ h1 h2 h3 _ _ _ => intro b hb; rw [List.mem_singleton.mp hb]; exact ⟨h1, h2, _, h3⟩
 | objd _ h1 h2 h3 _ _ q1 q2 q3 _ _ _ =>
  intro b hb
  rcases List.mem_cons.mp hb with rfl | hb
  ·exact ⟨h1, h2, _, h3⟩
  ·rw [List.mem_singleton.mp hb]; exact ⟨q1, q2, _, q3⟩
 | odk h1 h2 h3 _ _ => intro b hb; rw [List.mem_singleton.mp hb]; exact ⟨h1, h2, _, h3⟩
 | odt h1 h2 h3 _ _ => intro b hb; rw [List.mem_singleton.mp hb]; exact ⟨h1, h2, _, h3⟩
 | tlo h1 h2 h3 _ _ _ => intro b hb; rw [List.mem_singleton.mp hb]; exact ⟨h1, h2, _, h3⟩
 | pin a => intro b hb; cases hb
theorem SR.stay (r : SR J K H₀ G H s v fp) (gg : zb5 G G') (hg : ∀ b ∈ fp, G' b = none) (hh : ∀ b ∈ fp, H' b = H b) : SR J K H₀ G' H' s v fp := by
 cases r with
 | sh r => exact .sh (r.mono gg)
 | own h1 h2 h3 h4 => exact .own h1 (hg _ (List.mem_singleton.mpr rfl)) ((hh _ (List.mem_singleton.mpr rfl)).trans h3) (h4.mono gg)
 | obj c h1 h2 h3 h4 h5 hs => exact .obj c h1 (hg _ (List.mem_singleton.mpr rfl)) ((hh _ (List.mem_singleton.mpr rfl)).trans h3) h4 (h5.mono gg) hs
 | objd c h1 h2 h3 h4 h5 q1 q2 q3 q4 q5 hs =>
  exact .objd c h1 (hg _ List.mem_cons_self) ((hh _ List.mem_cons_self).trans h3) h4 (h5.mono gg) q1 (hg _ (List.mem_cons_of_mem _ List.mem_cons_self)) ((hh _ (List.mem_cons_of_mem _ List.mem_cons_self)).trans q3) q4 (q5.mono gg) hs
 | odk h1 h2 h3 h4 h5 => exact .odk h1 (hg _ (List.mem_singleton.mpr rfl)) ((hh _ (List.mem_singleton.mpr rfl)).trans h3) h4 (h5.mono gg)
 | odt h1 h2 h3 h4 h5 => exact .odt h1 (hg _ (List.mem_singleton.mpr rfl)) ((hh _ (List.mem_singleton.mpr rfl)).trans h3) h4 (h5.mono gg)
 | pin a => exact .pin a
 | tlo h1 h2 h3 h4 h5 h6 => exact .tlo h1 (hg _ (List.mem_singleton.mpr rfl)) ((hh _ (List.mem_singleton.mpr rfl)).trans h3) (gg _ _ h4) (h5.mono gg) (h6.mono gg)
theorem SR.stepS (r : SR J K H₀ G H s v fp) (t : Step G H G' H') : SR J K H₀ G' H' s v fp := r.stay t.gg (fun b hb => by
 obtain ⟨_, h2, o, h3⟩ := r.fpt b hb
 exact (t.out b o h3).trans h2) (fun b hb => by
 obtain ⟨_, _, o, h3⟩ := r.fpt b hb
 rw [h3]; exact t.hh b o h3)
end
theorem SR.uniq {J : Cn} {K : PySem.W.Frag} {H₀ G H : zxg} {s : Slot} {v : V} {fp fq : List Addr} (r : SR J K H₀ G H s v fp) (q : SR J K H₀ G H s v fq) : fp = fq := by
 cases r with
 | sh r => cases q; rfl
 | own h1 h2 h3 _ => cases q; rfl
 | obj _ h1 h2 h3 _ _ _ => cases q; rfl
 | objd _ h1 h2 h3 _ _ q1 q2 q3 _ _ _ =>
  cases q with
  | objd _ _ _ zwx _ _ _ _ _ _ _ _ =>
   rw [h3] at zwx
   have z := (HO.ins.inj (Option.some.inj zwx)).2.2
   have z2 := (List.append_inj' z rfl).2
   cases z2
   rfl
 | odk h1 h2 h3 _ _ => cases q; rfl
 | odt h1 h2 h3 _ _ => cases q; rfl
 | pin a => cases q; rfl
 | tlo _ _ _ h4 _ _ =>
  cases q with
  | tlo _ _ _ zwD _ _ =>
   rw [h4] at zwD
   have z := HO.tup.inj (Option.some.inj zwD)
   have z2 := (List.append_inj' z rfl).2
   cases z2
   rfl
structure EnvRel (J : Cn) (K : PySem.W.Frag) (H₀ G H : zxg) (ρ : zaV) (σ : zxd) : Prop where
 len : ρ.length = σ.length
 sl : ∃ fps : Nat -> List Addr, (∀ (i : Nat) s, ρ[i]? = some (some s) -> ∃ v, σ[i]? = some (some v) /\ SR J K H₀ G H s v (fps i)) /\
  ∀ (i j : Nat) s t, i ≠ j -> ρ[i]? = some (some s) -> ρ[j]? = some (some t) -> ∀ b ∈ fps i, b ∉ fps j
structure At (J : Cn) (K : PySem.W.Frag) (G₀ H₀ G H : zxg) (ρ : zaV) (σ : zxd) : Prop where
 st : Step G₀ H₀ G H
 env : EnvRel J K H₀ G H ρ σ
def zd3 (ρ : zaV) : Prop := ∀ (i : Nat) s, ρ[i]? = some (some s) -> ∃ d, s = .sh d
section
variable {J : Cn} {K : PySem.W.Frag} {G₀ H₀ G G' H H' : zxg} {ρ : zaV} {σ : zxd}
theorem EnvRel.ofSh (len : ρ.length = σ.length) (no : zd3 ρ) (sh : ∀ (i : Nat) d, ρ[i]? = some (some (.sh d)) -> ∃ v, σ[i]? = some (some v) /\ Rep J K G v d) : EnvRel J K H₀ G H ρ σ :=
 ⟨len, fun _ => [], fun i s e => by
  obtain ⟨d, rfl⟩ := no i s e
  obtain ⟨v, h1, h2⟩ := sh i d e
  exact ⟨v, h1, .sh h2⟩, fun _ _ _ _ _ _ _ b hb => by cases hb⟩
theorem EnvRel.sh (E : EnvRel J K H₀ G H ρ σ) (i : Nat) (d : D) (e : ρ[i]? = some (some (.sh d))) : ∃ v, σ[i]? = some (some v) /\ Rep J K G v d := by
 obtain ⟨fps, h, _⟩ := E.sl
 obtain ⟨v, h1, h2⟩ := h i _ e
 generalize fps i = fp at h2
 cases h2 with
 | sh r => exact ⟨v, h1, r⟩
theorem EnvRel.own (E : EnvRel J K H₀ G H ρ σ) (i : Nat) (ds : List D) (e : ρ[i]? = some (some (.own ds))) : ∃ a vs, σ[i]? = some (some (.ref a)) /\ H₀ a = none /\ G a = none /\ H a = some (.lst vs) /\ Reps J K G vs ds := by
 obtain ⟨fps, h, _⟩ := E.sl
 obtain ⟨v, h1, h2⟩ := h i _ e
 generalize fps i = fp at h2
 cases h2 with
 | own q1 q2 q3 q4 => exact ⟨_, _, h1, q1, q2, q3, q4⟩
theorem At.gh (A : At J K G₀ H₀ G H ρ σ) : zb5 G H := A.st.gh
theorem At.step (A : At J K G₀ H₀ G H ρ σ) (s : Step G H G' H') : At J K G₀ H₀ G' H' ρ σ := by
 obtain ⟨fps, h, ap⟩ := A.env.sl
 exact ⟨A.st.trans s, A.env.len, fps, fun i t e => by
  obtain ⟨v, h1, h2⟩ := h i t e
  exact ⟨v, h1, h2.stepS s⟩, ap⟩
theorem At.put (A : At J K G₀ H₀ G H ρ σ) {i : Nat} {s' : Slot} {v' : V} {fp fp' : List Addr}
  (hfp : fp = [] \/ ∃ s v, ρ[i]? = some (some s) /\ σ[i]? = some (some v) /\ SR J K H₀ G H s v fp)
  (hH : ∀ b o, H b = some o -> b ∉ fp -> H' b = some o) (hS : SR J K H₀ G' H' s' v' fp') (hn : ∀ b ∈ fp', b ∈ fp \/ H b = none)
  (gg : zb5 G G') (gh : zb5 G' H') (out : ∀ b o, H b = some o -> b ∉ fp -> G' b = G b) (out2 : ∀ b ∈ fp, H₀ b = none) : At J K G₀ H₀ G' H' (ρ.set i (some s')) (σ.set i (some v')) := by
 obtain ⟨fps, h, ap⟩ := A.env.sl
 have hl := A.env.len
 have old : ∀ b ∈ fp, ∀ j t, j ≠ i -> ρ[j]? = some (some t) -> b ∉ fps j := fun b hb j t hj e => by
  rcases hfp with rfl | ⟨s, v, h1, h2, h3⟩
  ·cases hb
  ·obtain ⟨v2, h4, h5⟩ := h i s h1
   rw [h2] at h4
   cases h4
   have efp : fp = fps i := h3.uniq h5
   subst efp
   exact ap i j s t (Ne.symm hj) h1 e b hb
 have slj : ∀ (j : Nat) t, j ≠ i -> ρ[j]? = some (some t) -> ∃ v, σ[j]? = some (some v) /\ SR J K H₀ G' H' t v (fps j) := fun j t hj e => by
  obtain ⟨v, h1, h2⟩ := h j t e
  refine ⟨v, h1, h2.stay gg (fun b hb => ?_) (fun b hb => ?_)⟩
  ·obtain ⟨_, q2, o, q3⟩ := h2.fpt b hb
   exact (out b o q3 fun z => old b z j t hj e hb).trans q2
  ·obtain ⟨_, _, o, q3⟩ := h2.fpt b hb
   rw [q3]; exact hH b o q3 fun z => old b z j t hj e hb
 have no2 : ∀ b o, H₀ b = some o -> b ∉ fp := fun b o e z => by rw [out2 b z] at e; cases e
 have hst : Step G₀ H₀ G' H' := ⟨fun b o e => hH b o (A.st.hh b o e) (no2 b o e), A.st.gg.trans gg, gh, fun b o e => (out b o (A.st.hh b o e) (no2 b o e)).trans (A.st.out b o e)⟩
 refine ⟨hst, by simp [hl], fun j => if j = i then fp' else fps j, fun j t e => ?_, fun j k t u hjk e1 e2 b hb => ?_⟩
 ·by_cases hj : j = i
  ·subst hj
   have hlt : j < ρ.length := by
    rcases Nat.lt_or_ge j ρ.length with q | q
    ·exact q
    ·rw [List.getElem?_eq_none (by simp; omega)] at e; cases e
   rw [List.getElem?_set_self hlt] at e
   cases e
   show ∃ v, _ /\ SR _ _ _ _ _ _ v (if j = j then fp' else fps j)
   rw [if_pos rfl]
   exact ⟨v', by rw [List.getElem?_set_self (by omega)], hS⟩
  ·rw [List.getElem?_set_ne (Ne.symm hj)] at e ⊢
   show ∃ v, _ /\ SR _ _ _ _ _ _ v (if j = i then fp' else fps j)
   rw [if_neg hj]
   exact slj j t hj e
 ·have cross : ∀ {k : Nat} {u : Slot}, k ≠ i -> ρ[k]? = some (some u) -> ∀ b ∈ fp', b ∉ fps k := fun {k u} hk e b hb hb2 => by
   rcases hn b hb with z | z
   ·exact old b z k u hk e hb2
   ·obtain ⟨v, _, q⟩ := h k u e
    obtain ⟨_, _, o, q3⟩ := q.fpt b hb2
    rw [z] at q3; cases q3
  replace hb : b ∈ (if j = i then fp' else fps j) := hb
  show b ∉ (if k = i then fp' else fps k)
  by_cases hj : j = i
  ·subst hj
   have hk : k ≠ j := Ne.symm hjk
   rw [if_pos rfl] at hb
   rw [if_neg hk]
   rw [List.getElem?_set_ne hjk] at e2
   exact cross hk e2 b hb
  ·rw [if_neg hj] at hb
   rw [List.getElem?_set_ne (Ne.symm hj)] at e1
   by_cases hk : k = i
   ·subst hk
    rw [if_pos rfl]
    exact fun z => cross hj e1 b z hb
   ·rw [if_neg hk]
    rw [List.getElem?_set_ne (Ne.symm hk)] at e2
    exact ap j k t u hjk e1 e2 b hb
theorem At.setSh (A : At J K G₀ H₀ G H ρ σ) {i : Nat} {v : V} {d : D} (r : Rep J K G v d) : At J K G₀ H₀ G H (ρ.set i (some (.sh d))) (σ.set i (some v)) :=
 A.put (fp := []) (fp' := []) (.inl rfl) (fun b o e _ => e) (.sh r) (fun b hb => by cases hb) (.refl _) A.gh (fun _ _ _ _ => rfl) (fun b hb => by cases hb)
theorem At.setOwn (A : At J K G₀ H₀ G H ρ σ) {i : Nat} {a : Addr} {vs : List V} {ds : List D} (ha : H a = none) (r : Reps J K G vs ds) : At J K G₀ H₀ G (zt0 H a (.lst vs)) (ρ.set i (some (.own ds))) (σ.set i (some (.ref a))) := by
 have h0 : H₀ a = none := A.st.hh.free ha
 have hg : G a = none := A.gh.free ha
 refine A.put (fp := []) (fp' := [a]) (.inl rfl) (fun b o e _ => by rw [zaz (zaq e ha)]; exact e) (.own h0 hg zaB r) (fun b hb => .inr (by rw [List.mem_singleton.mp hb]; exact ha)) (.refl _) (fun b o e => ?_) (fun _ _ _ _ => rfl) (fun b hb => by cases hb)
 rw [zaz (zaq e hg)]; exact A.gh b o e
theorem zin {α : Type} {l : List α} {i : Nat} {x : α} (h : l[i]? = some x) : l.set i x = l := by
 apply List.ext_getElem?
 intro j
 by_cases hj : j = i
 ·subst hj
  rw [List.getElem?_set_self (List.getElem?_eq_some_iff.mp h).1, h]
 ·rw [List.getElem?_set_ne (Ne.symm hj)]
theorem At.ch (A : At J K G₀ H₀ G H ρ σ) {i : Nat} {s s' : Slot} {v : V} {fp fp' : List Addr} (hi : ρ[i]? = some (some s)) (hv : σ[i]? = some (some v)) (hs : SR J K H₀ G H s v fp)
  (hH : ∀ b o, H b = some o -> b ∉ fp -> H' b = some o) (hS : SR J K H₀ G' H' s' v fp') (hn : ∀ b ∈ fp', b ∈ fp \/ H b = none)
  (gg : zb5 G G') (gh : zb5 G' H') (out : ∀ b o, H b = some o -> b ∉ fp -> G' b = G b) : At J K G₀ H₀ G' H' (ρ.set i (some s')) σ := by
 have := A.put (i := i) (.inr ⟨s, v, hi, hv, hs⟩) hH hS hn gg gh out fun b hb => (hs.fpt b hb).1
 rwa [zin hv] at this
theorem At.get (A : At J K G₀ H₀ G H ρ σ) {i : Nat} {s : Slot} (hi : ρ[i]? = some (some s)) : ∃ v fp, σ[i]? = some (some v) /\ SR J K H₀ G H s v fp := by
 obtain ⟨fps, h, _⟩ := A.env.sl
 obtain ⟨v, h1, h2⟩ := h i s hi
 exact ⟨v, _, h1, h2⟩
theorem At.chOwn (A : At J K G₀ H₀ G H ρ σ) {i : Nat} {a : Addr} {ds es : List D} {ws : List V} (hi : ρ[i]? = some (some (.own ds))) (ha : σ[i]? = some (some (.ref a))) (r : Reps J K G ws es) : At J K G₀ H₀ G (zt0 H a (.lst ws)) (ρ.set i (some (.own es))) σ := by
 obtain ⟨v, fp, h1, h2⟩ := A.get hi
 rw [ha] at h1
 cases h1
 cases h2 with
 | own q1 q2 q3 q4 =>
  refine A.ch hi ha (.own q1 q2 q3 q4) (fun b o e hb => ?_) (.own q1 q2 zaB r) (fun b hb => .inl hb) (.refl _) (fun b o e => ?_) (fun _ _ _ _ => rfl)
  ·rw [zaz (fun z => hb (List.mem_singleton.mpr z))]; exact e
  ·rw [zaz (zaq e q2)]; exact A.gh b o e
theorem At.freeze (A : At J K G₀ H₀ G H ρ σ) {i : Nat} {ds : List D} (hi : ρ[i]? = some (some (.own ds))) : ∃ G', zb5 G G' /\ At J K G₀ H₀ G' H (ρ.set i (some (.sh (.lst ds)))) σ := by
 obtain ⟨v, fp, h1, h2⟩ := A.get hi
 cases h2 with
 | own q1 q2 q3 q4 =>
  rename_i a vs
  have sm : zb5 G (zt0 G a (.lst vs)) := fun b o e => by rw [zaz (zaq e q2)]; exact e
  refine ⟨zt0 G a (.lst vs), sm, A.ch hi h1 (.own q1 q2 q3 q4) (fun b o e hb => e) (.sh (.lst zaB (q4.mono sm))) (fun b hb => by cases hb) sm (fun b o e => ?_) (fun b o e hb => ?_)⟩
  ·by_cases hb : b = a
   ·subst hb; rw [zaB] at e; cases e; exact q3
   ·rw [zaz hb] at e; exact A.gh b o e
  ·rw [zaz (fun z => hb (List.mem_singleton.mpr z))]
end
end L2
end
section
namespace L2
open PySem PySem.Spec PyProof.Rows
mutual
inductive NewL (H G : zxg) : V -> D -> Prop where
 | flat {v : V} {d : D} : zd0 d = true -> NewL H G v d
 | tup {a : Addr} {vs : List V} {ds : List D} : G a = some (.tup vs) -> NewLs H G vs ds -> NewL H G (.ref a) (.tup ds)
 | lst {a : Addr} {vs : List V} {ds : List D} : G a = some (.lst vs) -> H a = none -> NewLs H G vs ds -> NewL H G (.ref a) (.lst ds)
inductive NewLs (H G : zxg) : List V -> List D -> Prop where
 | nil : NewLs H G [] []
 | cons {v : V} {d : D} {vs : List V} {ds : List D} : NewL H G v d -> NewLs H G vs ds -> NewLs H G (v :: vs) (d :: ds)
end
section
variable {H H' G G' : zxg}
mutual
theorem NewL.mono : ∀ {v : V} {d : D}, NewL H G v d -> zb5 G G' -> zb5 H' H -> NewL H' G' v d
 | _, _, .flat h, _, _ => .flat h
 | _, _, .tup h r, s, t => .tup (s _ _ h) (r.mono s t)
 | _, _, .lst h n r, s, t => .lst (s _ _ h) (t.free n) (r.mono s t)
theorem NewLs.mono : ∀ {vs : List V} {ds : List D}, NewLs H G vs ds -> zb5 G G' -> zb5 H' H -> NewLs H' G' vs ds
 | _, _, .nil, _, _ => .nil
 | _, _, .cons h r, s, t => .cons (h.mono s t) (r.mono s t)
end
theorem NewLs.append : ∀ {vs ws : List V} {ds es : List D}, NewLs H G vs ds -> NewLs H G ws es -> NewLs H G (vs ++ ws) (ds ++ es)
 | _, _, _, _, .nil, s => s
 | _, _, _, _, .cons r t, s => .cons r (t.append s)
end
inductive Fl where
 | nx | bk | ct | rt (d : D) | ow (ds : List D) | nw (d : D) | od (kvs : List (zvK × D))
abbrev zxe := zaV -> Option D
abbrev zw1 := zaV -> Option Bool
abbrev zw4 := zaV -> Option (List D)
abbrev zxa := zaV -> Option (Fl × zaV)
def zwX (J : Cn) (K : PySem.W.Frag) (f : zxe) : zw8 := fun σ H Q => ∃ G₀ H₀ G ρ d, At J K G₀ H₀ G H ρ σ /\ f ρ = some d /\ ∀ v G' H', Step G H G' H' -> Rep J K G' v d -> Q v H'
def zvp (J : Cn) (K : PySem.W.Frag) (f : zw1) : zwT := fun σ H Q => ∃ G₀ H₀ G ρ b, At J K G₀ H₀ G H ρ σ /\ f ρ = some b /\ ∀ G' H', Step G H G' H' -> Q b H'
def zvw (J : Cn) (K : PySem.W.Frag) (f : zw4) : zwS := fun σ H Q => ∃ G₀ H₀ G ρ ds, At J K G₀ H₀ G H ρ σ /\ f ρ = some ds /\ ∀ vs G' H', Step G H G' H' -> Reps J K G' vs ds -> Q vs H'
def ztW (J : Cn) (K : PySem.W.Frag) (E : Ends) (H₀ G' H' : zxg) (σ' : zxd) : Fl -> Prop
 | .nx => E.nx σ' H'
 | .bk => E.bk σ' H'
 | .ct => E.ct σ' H'
 | .rt d => ∀ v, Rep J K G' v d -> E.rt v H'
 | .ow ds => ∀ p vs, H₀ p = none -> G' p = none -> H' p = some (.lst vs) -> Reps J K G' vs ds -> E.rt (.ref p) H'
 | .nw d => ∀ v, Rep J K G' v d -> NewL H₀ G' v d -> E.rt v H'
 | .od kvs => ∀ p us, H₀ p = none -> G' p = none -> H' p = some (.dK us) -> us.map (·.1) = kvs.map (·.1) -> Reps J K G' (us.map (·.2)) (kvs.map (·.2)) -> E.rt (.ref p) H'
def zvq (J : Cn) (K : PySem.W.Frag) (g : zxa) : TS := fun E σ H => ∃ G₀ H₀ G ρ zxc ρ', At J K G₀ H₀ G H ρ σ /\ g ρ = some (zxc, ρ') /\ ∀ σ' G' H', zb5 G G' -> At J K G₀ H₀ G' H' ρ' σ' -> ztW J K E H₀ G' H' σ' zxc
def zvs (J : Cn) (K : PySem.W.Frag) (f : zw4) : zw8 := fun σ H Q => ∃ G₀ H₀ G ρ ds, At J K G₀ H₀ G H ρ σ /\ f ρ = some ds /\ ∀ p vs G' H', Step G H G' H' -> H' p = none -> Reps J K G' vs ds -> Q (.ref p) (zt0 H' p (.lst vs))
structure DE (J : Cn) (X : Cx) (e : Expr) (f : zxe) : Prop where
 out : zxb X e (zwX J X.K f)
structure DT (J : Cn) (X : Cx) (e : Expr) (f : zw1) : Prop where
 out : zwK X e (zvp J X.K f)
structure DW (J : Cn) (X : Cx) (e : Expr) (f : zw1) : Prop where
 out : zwA X e (zvp J X.K f)
structure DA (J : Cn) (X : Cx) (es : List Expr) (f : zw4) : Prop where
 out : zwN X es (zvw J X.K f)
structure DS (J : Cn) (X : Cx) (st : Stmt) (g : zxa) : Prop where
 out : zwG X st (zvq J X.K g)
structure DSs (J : Cn) (X : Cx) (st : List Stmt) (g : zxa) : Prop where
 out : zvB X st (zvq J X.K g)
structure DO (J : Cn) (X : Cx) (e : Expr) (f : zw4) : Prop where
 out : zxb X e (zvs J X.K f)
section
variable {J : Cn} {X : Cx} {a b c e : Expr} {es : List Expr} {fa fb fc f : zxe} {pos : Pos}
theorem zxb.imp {t t' : zw8} (h : zxb X e t) (i : ∀ σ H Q, t' σ H Q -> t σ H Q) : zxb X e t' := fun pins s σ H Q I q => h pins s σ H Q I (i _ _ _ q)
theorem zwK.imp {t t' : zwT} (h : zwK X e t) (i : ∀ σ H Q, t' σ H Q -> t σ H Q) : zwK X e t' := fun pins s σ H Q I q => h pins s σ H Q I (i _ _ _ q)
theorem zwA.imp {t t' : zwT} (h : zwA X e t) (i : ∀ σ H Q, t' σ H Q -> t σ H Q) : zwA X e t' := fun wh pins s σ H Q I q => h wh pins s σ H Q I (i _ _ _ q)
theorem zwN.imp {t t' : zwS} (h : zwN X es t) (i : ∀ σ H Q, t' σ H Q -> t σ H Q) : zwN X es t' := fun p pins s σ H Q I q => h p pins s σ H Q I (i _ _ _ q)
theorem zwG.imp {st : Stmt} {t t' : TS} (h : zwG X st t) (i : ∀ E σ H, t' E σ H -> t E σ H) : zwG X st t' := fun pins s σ H E I q => h pins s σ H E I (i _ _ _ q)
theorem zvB.imp {st : List Stmt} {t t' : TS} (h : zvB X st t) (i : ∀ E σ H, t' E σ H -> t E σ H) : zvB X st t' := fun pins s σ H E I q => h pins s σ H E I (i _ _ _ q)
def ztZ (i : Nat) : zxe := fun ρ => match ρ[i]? with
 | some (some (.sh d)) => some d
 | _ => none
theorem zm9 {i : Nat} {ρ : zaV} {d : D} (h : ztZ i ρ = some d) : ρ[i]? = some (some (.sh d)) := by
 unfold ztZ at h
 split at h
 ·rename_i e; cases h; exact e
 ·cases h
theorem zac (i : Nat) {x : Str} (hN : X.N[i]? = some x := by rfl) (hv : zvn X.env.scope x := by first | exact Or.inl rfl | exact Or.inr (Or.inl rfl) | exact Or.inr (Or.inr rfl)) (hd : (x == ("__debug__" : Str)) = false := by decide)
  (hcd : (x == ("__classdict__" : Str)) = false := by decide) : DE J X (.Name x pos) (ztZ i) := ⟨(zfw hN hv hd hcd).imp fun σ H Q ⟨G₀, H₀, G, ρ, d, A, h, k⟩ => by
 obtain ⟨v, h1, h2⟩ := A.env.sh i d (zm9 h)
 exact ⟨v, h1, k v G H (.refl A.gh) h2⟩⟩
def zxk (d : D) : zxe := fun _ => some d
theorem zwX.const {d : D} {v : V} (r : ∀ G, Rep J X.K G v d) (h : zxb X e (zwj v)) : DE J X e (zxk d) := ⟨h.imp fun σ H Q ⟨G₀, H₀, G, ρ, d', A, h, k⟩ => by
 cases h
 exact k v G H (.refl A.gh) (r G)⟩
theorem zad {i j} : DE J X (.Constant (.int i) j pos) (zxk (.int i)) := zwX.const (fun _ => .int i) zoq
theorem zcY {i j} : DE J X (.Constant (.bool i) j pos) (zxk (.bl i)) := zwX.const (fun _ => .bl i) zsI
theorem zht {j} : DE J X (.Constant .none j pos) (zxk .non) := zwX.const (fun _ => .non) zrn
theorem zcN {i j} : DE J X (.Constant (.str i) j pos) (zxk (.str i)) := zwX.const (fun _ => .str i) zrk
theorem zch {x : Str} {i : Int} {t : Tok} (hg : zwU X x) (hm : X.mg x = some (.int i t)) (hd : (x == ("__debug__" : Str)) = false := by decide) : DE J X (.Name x pos) (zxk (.int i)) := zwX.const (fun _ => .int i) (zpE hg hm ⟨t, rfl⟩ hd)
def zxj (g : D -> D -> Option D) (fa fb : zxe) : zxe := fun ρ => (fa ρ).bind fun x => (fb ρ).bind fun y => g x y
def zwE (g : D -> Option D) (fa : zxe) : zxe := fun ρ => (fa ρ).bind g
def zjV (J : Cn) (K : PySem.W.Frag) (g : D -> D -> Option D) (r : zwW) : Prop :=
 ∀ {G H v u x y z}, zb5 G H -> Rep J K G v x -> Rep J K G u y -> g x y = some z -> ∀ Q : zw3, (∀ w G' H', Step G H G' H' -> Rep J K G' w z -> Q w H') -> r v u H Q
theorem zwX.two {g : D -> D -> Option D} {r : zwW} (hr : zjV J X.K g r) : ∀ σ H Q, zwX J X.K (zxj g fa fb) σ H Q -> zuc r (zwX J X.K fa) (zwX J X.K fb) σ H Q := by
 rintro σ H Q ⟨G₀, H₀, G, ρ, d, A, h, k⟩
 unfold zxj at h
 cases ha : fa ρ with
 | none => rw [ha] at h; cases h
 | some x =>
  cases hb : fb ρ with
  | none => rw [ha] at h; simp only [Option.bind_some, hb, Option.bind_none] at h; cases h
  | some y =>
   simp only [ha, hb, Option.bind_some] at h
   refine ⟨G₀, H₀, G, ρ, x, A, ha, fun v G1 H1 s1 r1 => ⟨G₀, H₀, G1, ρ, y, A.step s1, hb, fun u G2 H2 s2 r2 => ?_⟩⟩
   exact hr s2.gh (r1.mono s2.gg) r2 h Q fun w G' H' s r => k w G' H' ((s1.trans s2).trans s) r
theorem zk3 {op : Operator} {g : D -> D -> Option D} {r : zwW} (ho : zvE X (binaryOp op) r) (hr : zjV J X.K g r) (ha : DE J X a fa) (hb : DE J X b fb) : DE J X (.BinOp a op b pos) (zxj g fa fb) := ⟨(zsH ho ha.1 hb.1).imp (zwX.two hr)⟩
def zbx : D -> D -> Option D
 | .int i, .int j => some (.int (i + j))
 | .str x, .str y => if x.length + y.length <= sizeLine then some (.str (x ++ y)) else none
 | .lst x, .lst y => if x.length + y.length <= sizeLine then some (.lst (x ++ y)) else none
 | _, _ => none
def zog : D -> D -> Option D
 | .int i, .int j => some (.int (i - j))
 | _, _ => none
def zm4 (x : Str) (n : Nat) : Str := ⟨(List.replicate n x.cps.toList).flatten.toArray⟩
def zd9 : D -> D -> Option D
 | .int i, .int j => if (-(2 ^ 64) < i /\ i < 2 ^ 64) \/ (-(2 ^ 64) < j /\ j < 2 ^ 64) then some (.int (i * j)) else none
 | .lst x, .int j => if -(2 ^ 63) <= j /\ j < 2 ^ 63 /\ x.length * j.toNat <= sizeLine then some (.lst (List.replicate j.toNat x).flatten) else none
 | .str x, .int j => if 0 <= j /\ j < 1000 /\ x.length < 1000 then some (.str (zm4 x j.toNat)) else none
 | _, _ => none
def zew : D -> D -> Option D
 | .int i, .int j => if 0 < j /\ j < 1073741824 then some (.int (i / j)) else none
 | _, _ => none
def zcf : D -> D -> Option D
 | .int i, .int j => if 0 < j then some (.int (i % j)) else none
 | _, _ => none
def zpv : D -> D -> Option D
 | .int i, .int j => if 0 <= j /\ j <= 1000000 /\ i.natAbs < 2 ^ 64 then some (.int (i ^ j.toNat)) else none
 | _, _ => none
theorem Rep.int_inv {K : PySem.W.Frag} {G : zxg} {v : V} {i : Int} (r : Rep J K G v (.int i)) : v = .int i := by cases r; rfl
theorem Rep.str_inv {K : PySem.W.Frag} {G : zxg} {v : V} {i : Str} (r : Rep J K G v (.str i)) : v = .str i := by cases r; rfl
theorem Rep.bl_inv {K : PySem.W.Frag} {G : zxg} {v : V} {i : Bool} (r : Rep J K G v (.bl i)) : v = .bl i := by cases r; rfl
theorem Rep.lst_inv {K : PySem.W.Frag} {G : zxg} {v : V} {ds : List D} (r : Rep J K G v (.lst ds)) : ∃ a vs, v = .ref a /\ G a = some (.lst vs) /\ Reps J K G vs ds := by cases r; exact ⟨_, _, rfl, by assumption, by assumption⟩
theorem Rep.tup_inv {K : PySem.W.Frag} {G : zxg} {v : V} {ds : List D} (r : Rep J K G v (.tup ds)) : ∃ a vs, v = .ref a /\ G a = some (.tup vs) /\ Reps J K G vs ds := by cases r; exact ⟨_, _, rfl, by assumption, by assumption⟩
theorem Rep.scr_inv {K : PySem.W.Frag} {G : zxg} {v : V} {ns : List Int} (r : Rep J K G v (.scr ns)) : ∃ a, v = .ref a /\ zvy K G a (ns.map V.int) := by cases r; exact ⟨_, rfl, by assumption⟩
theorem zgj {K : PySem.W.Frag} {G H : zxg} {vs : List V} {ds : List D} {Q : zw3} (gh : zb5 G H) (r : Reps J K G vs ds) (k : ∀ w G' H', Step G H G' H' -> Rep J K G' w (.lst ds) -> Q w H') : ∀ p, H p = none -> Q (.ref p) (zt0 H p (.lst vs)) := fun p hp => by
 have s := Step.new (o := .lst vs) gh hp
 exact k _ _ _ s (.lst zaB (r.mono s.gg))
theorem zjs {K : PySem.W.Frag} {G H : zxg} {vs : List V} {ds : List D} {Q : zw3} (gh : zb5 G H) (r : Reps J K G vs ds) (k : ∀ w G' H', Step G H G' H' -> Rep J K G' w (.tup ds) -> Q w H') : ∀ p, H p = none -> Q (.ref p) (zt0 H p (.tup vs)) := fun p hp => by
 have s := Step.new (o := .tup vs) gh hp
 exact k _ _ _ s (.tup zaB (r.mono s.gg))
theorem zn0 {K : PySem.W.Frag} : zjV J K zbx (fun x y H Q => (zuz (fun i j => V.int (i + j)) x y H Q \/ (∃ i j, x = .str i /\ y = .str j /\ i.length + j.length <= sizeLine /\ Q (.str (i ++ j)) H)) \/ zsD x y H Q) := by
 intro G H v u x y z gh r1 r2 h Q k
 unfold zbx at h
 split at h
 ·cases h
  cases r1.int_inv; cases r2.int_inv
  exact .inl (.inl ⟨_, _, rfl, rfl, k _ G H (.refl gh) (.int _)⟩)
 ·split at h
  ·cases h
   cases r1.str_inv; cases r2.str_inv
   exact .inl (.inr ⟨_, _, rfl, rfl, by assumption, k _ G H (.refl gh) (.str _)⟩)
  ·cases h
 ·split at h
  ·rename_i hz
   cases h
   obtain ⟨a, vs, rfl, ha, ra⟩ := r1.lst_inv
   obtain ⟨b, us, rfl, hb, rb⟩ := r2.lst_inv
   exact .inr ⟨a, b, vs, us, rfl, rfl, gh _ _ ha, gh _ _ hb, by rw [ra.length, rb.length]; exact hz, zgj gh (ra.append rb) k⟩
  ·cases h
 ·cases h
theorem zpN : zvE X (binaryOp .Add) (fun x y H Q => (zuz (fun i j => V.int (i + j)) x y H Q \/ (∃ i j, x = .str i /\ y = .str j /\ i.length + j.length <= sizeLine /\ Q (.str (i ++ j)) H)) \/ zsD x y H Q) := (zrE.or zkP).or zrD
theorem zbe (ha : DE J X a fa) (hb : DE J X b fb) : DE J X (.BinOp a .Add b pos) (zxj zbx fa fb) := zk3 zpN zn0 ha hb
theorem zmw {K : PySem.W.Frag} {g : D -> D -> Option D} {o : Int -> Int -> Int} (hg : ∀ x y z, g x y = some z -> ∃ i j, x = .int i /\ y = .int j /\ z = .int (o i j)) : zjV J K g (zuz fun i j => V.int (o i j)) := by
 intro G H v u x y z gh r1 r2 h Q k
 obtain ⟨i, j, rfl, rfl, rfl⟩ := hg x y z h
 cases r1.int_inv; cases r2.int_inv
 exact ⟨_, _, rfl, rfl, k _ G H (.refl gh) (.int _)⟩
theorem zgC {K : PySem.W.Frag} {g : D -> D -> Option D} {C : Int -> Int -> Prop} {o : Int -> Int -> Int} (hg : ∀ x y z, g x y = some z -> ∃ i j, x = .int i /\ y = .int j /\ C i j /\ z = .int (o i j)) : zjV J K g (zwk C fun i j => V.int (o i j)) := by
 intro G H v u x y z gh r1 r2 h Q k
 obtain ⟨i, j, rfl, rfl, hc, rfl⟩ := hg x y z h
 cases r1.int_inv; cases r2.int_inv
 exact ⟨_, _, rfl, rfl, hc, k _ G H (.refl gh) (.int _)⟩
theorem zoN (ha : DE J X a fa) (hb : DE J X b fb) : DE J X (.BinOp a .Sub b pos) (zxj zog fa fb) := zk3 zrw (zmw fun x y z h => by
 unfold zog at h; split at h <;> cases h; exact ⟨_, _, rfl, rfl, rfl⟩) ha hb
theorem zfh (ha : DE J X a fa) (hb : DE J X b fb) : DE J X (.BinOp a .FloorDiv b pos) (zxj zew fa fb) := zk3 zpM (zgC fun x y z h => by
 unfold zew at h; split at h
 ·split at h <;> cases h; exact ⟨_, _, rfl, rfl, by assumption, rfl⟩
 ·cases h) ha hb
theorem zbK (ha : DE J X a fa) (hb : DE J X b fb) : DE J X (.BinOp a .Mod b pos) (zxj zcf fa fb) := zk3 zrB (zgC fun x y z h => by
 unfold zcf at h; split at h
 ·split at h <;> cases h; exact ⟨_, _, rfl, rfl, by assumption, rfl⟩
 ·cases h) ha hb
theorem zr2 (ha : DE J X a fa) (hb : DE J X b fb) : DE J X (.BinOp a .Pow b pos) (zxj zpv fa fb) := zk3 zry (zgC fun x y z h => by
 unfold zpv at h; split at h
 ·split at h <;> cases h; exact ⟨_, _, rfl, rfl, by assumption, rfl⟩
 ·cases h) ha hb
theorem zko (a : Array Nat) : ∀ (k : Nat) (acc : List Nat), (List.replicate k a).foldl (· ++ ·) acc.toArray = (acc ++ (List.replicate k a.toList).flatten).toArray
 | 0, acc => by simp
 | k + 1, acc => by
  rw [List.replicate_succ, List.foldl_cons, List.replicate_succ, List.flatten_cons, ← List.append_assoc, ← zko a k (acc ++ a.toList)]
  congr 1
  simp
def zq4 : zwW := fun x y H Q => ∃ z n, x = .str z /\ y = .int n /\ 0 <= n /\ n < 1000 /\ z.length < 1000 /\ Q (.str (zm4 z n.toNat)) H
theorem zpL : zvE X (binaryOp .Mult) zq4 := by
 intro pins s σ H x y v u Q I rx ry h
 obtain ⟨z, n, rfl, rfl, h0, h1, h2, q⟩ := h
 obtain ⟨t, rfl⟩ := rx
 obtain ⟨t', rfl⟩ := ry
 have hl : z.length * n.toNat <= 1000000 := Nat.le_trans (Nat.mul_le_mul (Nat.le_of_lt h2) (show n.toNat <= 1000 by omega)) (by decide)
 have e0 : (List.replicate n.toNat z.cps).foldl (· ++ ·) #[] = (zm4 z n.toNat).cps := by
  have := zko z.cps n.toNat []
  simpa [zm4] using this
 refine PySem.P.mul_str ?_ (fun h _ => ?_) (fun _ _ => ?_) ?_
 ·rw [decide_eq_false (by omega), decide_eq_false (by omega)]; rfl
 ·have e : (z.length : Int) * n = ((z.length * n.toNat : Nat) : Int) := by rw [Int.natCast_mul]; congr 1; omega
  have : (z.length : Int) <= (2 ^ 63 - 1 : Int) / n := Int.le_ediv_of_mul_le (by omega) (by rw [e]; omega)
  omega
 ·unfold Builtin.Str.tooLong
  exact decide_eq_false (by have := sizeLine_eq; omega)
 ·split
  ·have : n = 0 := by omega
   subst this
   exact ⟨by decide, ⟨.str _, H, I.tok _, ⟨_, rfl⟩, by simpa [zm4, Str.empty] using q⟩⟩
  ·split
   ·rename_i hc
    have ez : zm4 z n.toNat = z := by
     rcases Bool.or_eq_true _ _ ▸ hc with e | e
     ·have : n = 1 := by simpa using e
      subst this
      simp [zm4]
     ·have hz : z.cps = #[] := by
       have : z.cps.size = 0 := by simpa [Str.length] using e
       exact Array.eq_empty_of_size_eq_zero this
      cases z
      simp only at hz
      subst hz
      simp [zm4]
    exact ⟨.str _, H, I, ⟨_, rfl⟩, by rw [← ez]; exact q⟩
   ·rw [e0]
    refine ⟨?_, ⟨.str _, H, I.tok _, ⟨_, rfl⟩, q⟩⟩
    have e1 : (zm4 z n.toNat).length = n.toNat * z.length := by
     show (List.replicate n.toNat z.cps.toList).flatten.toArray.size = _
     rw [List.size_toArray, zl3]
     simp [Str.length]
    show (zm4 z n.toNat).length <= sizeLine
    rw [e1, Nat.mul_comm]
    have := sizeLine_eq
    omega
theorem znZ {K : PySem.W.Frag} : zjV J K zd9 (fun x y H Q => (zwk zsp (fun i j => V.int (i * j)) x y H Q \/ ztg x y H Q) \/ zq4 x y H Q) := by
 intro G H v u x y z gh r1 r2 h Q k
 unfold zd9 at h
 split at h
 ·split at h
  ·cases h
   cases r1.int_inv; cases r2.int_inv
   exact .inl (.inl ⟨_, _, rfl, rfl, by assumption, k _ G H (.refl gh) (.int _)⟩)
  ·cases h
 ·split at h
  ·rename_i hz
   cases h
   obtain ⟨a, vs, rfl, ha, ra⟩ := r1.lst_inv
   cases r2.int_inv
   exact .inl (.inr ⟨a, _, vs, rfl, rfl, gh _ _ ha, hz.1, hz.2.1, by rw [ra.length]; exact hz.2.2, zgj gh (ra.rep _) k⟩)
  ·cases h
 ·split at h
  ·rename_i hz
   cases h
   cases r1.str_inv
   cases r2.int_inv
   exact .inr ⟨_, _, rfl, rfl, hz.1, hz.2.1, hz.2.2, k _ G H (.refl gh) (.str _)⟩
  ·cases h
 ·cases h
theorem zeb (ha : DE J X a fa) (hb : DE J X b fb) : DE J X (.BinOp a .Mult b pos) (zxj zd9 fa fb) := zk3 ((zrA.or zrx).or zpL) znZ ha hb
end
end L2
end
section
namespace L2
open PySem PySem.Spec PyProof.Rows
section
variable {J : Cn} {X : Cx} {a b c e : Expr} {es : List Expr} {fa fb fc f : zxe} {pos : Pos}
theorem Rep.non_inv {K : PySem.W.Frag} {G : zxg} {v : V} (r : Rep J K G v .non) : v = .non := by cases r; rfl
def zuL (x y : Str) : Bool := decide (x.cps.toList < y.cps.toList)
def zuM : D -> D -> Option D
 | .int i, .int j => some (.bl (decide (i < j)))
 | .str x, .str y => some (.bl (zuL x y))
 | _, _ => none
def zuU : D -> D -> Option D
 | .int i, .int j => some (.bl (decide (i <= j)))
 | .str x, .str y => some (.bl (!zuL y x))
 | _, _ => none
def zu6 : D -> D -> Option D
 | .int i, .int j => some (.bl (decide (j < i)))
 | _, _ => none
def zva : D -> D -> Option Bool
 | .int i, .int j => some (decide (i = j))
 | .bl i, .bl j => some (decide (i = j))
 | .str i, .str j => some (decide (i = j))
 | .non, .non => some true
 | .non, .int _ => some false | .int _, .non => some false | .non, .bl _ => some false | .bl _, .non => some false | .non, .str _ => some false | .str _, .non => some false
 | .int _, .str _ => some false | .str _, .int _ => some false | .bl _, .str _ => some false | .str _, .bl _ => some false
 | _, _ => none
def zvb (x y : D) : Option D := (zva x y).map D.bl
def zuI (x y : D) : Option D := (zva x y).map fun b => D.bl (!b)
theorem zoJ {K : PySem.W.Frag} {G : zxg} {v u : V} {x y : D} {k : Bool} (r1 : Rep J K G v x) (r2 : Rep J K G u y) (h : zva x y = some k) : zsB v u = true /\ decide (v = u) = k := by
 unfold zva at h
 split at h <;> cases h
 ·cases r1.int_inv; cases r2.int_inv; exact ⟨rfl, by simp⟩
 ·cases r1.bl_inv; cases r2.bl_inv; exact ⟨rfl, by simp⟩
 ·cases r1.str_inv; cases r2.str_inv; exact ⟨rfl, by simp⟩
 ·cases r1.non_inv; cases r2.non_inv; exact ⟨rfl, by simp⟩
 ·cases r1.non_inv; cases r2.int_inv; exact ⟨rfl, by simp⟩
 ·cases r1.int_inv; cases r2.non_inv; exact ⟨rfl, by simp⟩
 ·cases r1.non_inv; cases r2.bl_inv; exact ⟨rfl, by simp⟩
 ·cases r1.bl_inv; cases r2.non_inv; exact ⟨rfl, by simp⟩
 ·cases r1.non_inv; cases r2.str_inv; exact ⟨rfl, by simp⟩
 ·cases r1.str_inv; cases r2.non_inv; exact ⟨rfl, by simp⟩
 ·cases r1.int_inv; cases r2.str_inv; exact ⟨rfl, by simp⟩
 ·cases r1.str_inv; cases r2.int_inv; exact ⟨rfl, by simp⟩
 ·cases r1.bl_inv; cases r2.str_inv; exact ⟨rfl, by simp⟩
 ·cases r1.str_inv; cases r2.bl_inv; exact ⟨rfl, by simp⟩
theorem zqq {K : PySem.W.Frag} : zjV J K zvb zuA := by
 intro G H v u x y z gh r1 r2 h Q k
 unfold zvb at h
 cases e : zva x y with
 | none => rw [e] at h; cases h
 | some b =>
  rw [e] at h
  cases h
  obtain ⟨h1, h2⟩ := zoJ r1 r2 e
  exact ⟨h1, by rw [h2]; exact k _ G H (.refl gh) (.bl _)⟩
theorem zqm {K : PySem.W.Frag} : zjV J K zuI zux := by
 intro G H v u x y z gh r1 r2 h Q k
 unfold zuI at h
 cases e : zva x y with
 | none => rw [e] at h; cases h
 | some b =>
  rw [e] at h
  cases h
  obtain ⟨h1, h2⟩ := zoJ r1 r2 e
  exact ⟨h1, by rw [h2]; exact k _ G H (.refl gh) (.bl _)⟩
theorem zmv {K : PySem.W.Frag} {g : D -> D -> Option D} {o : Int -> Int -> Bool} (hg : ∀ x y z, g x y = some z -> ∃ i j, x = .int i /\ y = .int j /\ z = .bl (o i j)) : zjV J K g (zuz fun i j => V.bl (o i j)) := by
 intro G H v u x y z gh r1 r2 h Q k
 obtain ⟨i, j, rfl, rfl, rfl⟩ := hg x y z h
 cases r1.int_inv; cases r2.int_inv
 exact ⟨_, _, rfl, rfl, k _ G H (.refl gh) (.bl _)⟩
theorem zlN : zvE X (compareOp .LtE) (fun x y H Q => ∃ i j, x = .str i /\ y = .str j /\ Q (.bl (!zuL j i)) H) := by
 intro pins s σ H x y v u Q I rx ry h
 obtain ⟨i, j, rfl, rfl, q⟩ := h
 obtain ⟨t, rfl⟩ := rx
 obtain ⟨t', rfl⟩ := ry
 exact PySem.P.le_str (zbd I q (by simp [zuL]))
theorem zqn {K : PySem.W.Frag} : zjV J K zuM (fun x y H Q => zuz (fun i j => V.bl (decide (i < j))) x y H Q \/ ∃ i j, x = .str i /\ y = .str j /\ Q (.bl (decide (i.cps.toList < j.cps.toList))) H) := by
 intro G H v u x y z gh r1 r2 h Q k
 unfold zuM at h
 split at h <;> cases h
 ·cases r1.int_inv; cases r2.int_inv; exact .inl ⟨_, _, rfl, rfl, k _ G H (.refl gh) (.bl _)⟩
 ·cases r1.str_inv; cases r2.str_inv; exact .inr ⟨_, _, rfl, rfl, k _ G H (.refl gh) (.bl _)⟩
theorem zqo {K : PySem.W.Frag} : zjV J K zuU (fun x y H Q => zuz (fun i j => V.bl (decide (i <= j))) x y H Q \/ ∃ i j, x = .str i /\ y = .str j /\ Q (.bl (!zuL j i)) H) := by
 intro G H v u x y z gh r1 r2 h Q k
 unfold zuU at h
 split at h <;> cases h
 ·cases r1.int_inv; cases r2.int_inv; exact .inl ⟨_, _, rfl, rfl, k _ G H (.refl gh) (.bl _)⟩
 ·cases r1.str_inv; cases r2.str_inv; exact .inr ⟨_, _, rfl, rfl, k _ G H (.refl gh) (.bl _)⟩
structure CmpD (J : Cn) (X : Cx) (op : CmpOp) (g : D -> D -> Option D) : Prop where
 ex : ∃ r, zvE X (compareOp op) r /\ zjV J X.K g r
theorem zqw : CmpD J X .Lt zuM := ⟨_, zsL.or zlM, zqn⟩
theorem zh1 : CmpD J X .LtE zuU := ⟨_, zsM.or zlN, zqo⟩
theorem zs2 : CmpD J X .Gt zu6 := ⟨_, zsN, zmv fun x y z h => by unfold zu6 at h; split at h <;> cases h; exact ⟨_, _, rfl, rfl, rfl⟩⟩
theorem zg1 : CmpD J X .Eq zvb := ⟨_, zsO, zqq⟩
theorem zs1 : CmpD J X .NotEq zuI := ⟨_, zsK, zqm⟩
theorem zeP {op : CmpOp} {g : D -> D -> Option D} (h : CmpD J X op g) (ha : DE J X a fa) (hb : DE J X b fb) (hm : behindInMarks op b = false) : DE J X (.Compare a [op] [b] pos) (zxj g fa fb) := ⟨by
 obtain ⟨r, ho, hr⟩ := h.ex
 exact (zpG ho ha.1 hb.1 hm).imp (zwX.two hr)⟩
def zve (g g' : D -> D -> Option D) (fa fb fc : zxe) : zxe := fun ρ => (fa ρ).bind fun x => (fb ρ).bind fun y => (g x y).bind fun z => match z with
 | .bl true => (fc ρ).bind fun w => g' y w
 | .bl false => some (.bl false)
 | _ => none
theorem zwX.chain {g g' : D -> D -> Option D} {r r' : zwW} (hr : zjV J X.K g r) (hr' : zjV J X.K g' r') : ∀ σ H Q, zwX J X.K (zve g g' fa fb fc) σ H Q -> zlo r r' (zwX J X.K fa) (zwX J X.K fb) (zwX J X.K fc) σ H Q := by
 rintro σ H Q ⟨G₀, H₀, G, ρ, d, A, h, k⟩
 unfold zve at h
 obtain ⟨x, ha, h⟩ := oBd h
 obtain ⟨y, hb, h⟩ := oBd h
 obtain ⟨z, hz, h⟩ := oBd h
 refine ⟨G₀, H₀, G, ρ, x, A, ha, fun v G1 H1 s1 r1 => ⟨G₀, H₀, G1, ρ, y, A.step s1, hb, fun u G2 H2 s2 r2 => ?_⟩⟩
 refine hr s2.gh (r1.mono s2.gg) r2 hz _ fun w G3 H3 s3 r3 => ?_
 split at h
 ·cases r3.bl_inv
  obtain ⟨w, hc, h⟩ := oBd h
  refine ⟨true, rfl, zqc ⟨G₀, H₀, G3, ρ, w, ((A.step s1).step s2).step s3, hc, fun q G4 H4 s4 r4 => ?_⟩⟩
  exact hr' s4.gh ((r2.mono s3.gg).mono s4.gg) r4 h Q fun w' G' H' s r => k w' G' H' ((((s1.trans s2).trans s3).trans s4).trans s) r
 ·cases r3.bl_inv
  cases h
  exact ⟨false, rfl, zqd (k _ G3 H3 ((s1.trans s2).trans s3) (.bl _))⟩
 ·cases h
theorem zhY {op op' : CmpOp} {g g' : D -> D -> Option D} (h : CmpD J X op g) (h' : CmpD J X op' g') (ha : DE J X a fa) (hb : DE J X b fb) (hc : DE J X c fc) (hm : lastMarks [op, op'] [b, c] = false := by with_unfolding_all rfl) :
  DE J X (.Compare a [op, op'] [b, c] pos) (zve g g' fa fb fc) := ⟨by
 obtain ⟨r, ho, hr⟩ := h.ex
 obtain ⟨r', ho', hr'⟩ := h'.ex
 exact (znB ho ho' ha.1 hb.1 hc.1 hm).imp (zwX.chain hr hr')⟩
def zt5 (f : zxe) : zw1 := fun ρ => (f ρ).bind fun d => match d with
 | .bl b => some b
 | _ => none
theorem zvp.val {f : zxe} : ∀ σ H Q, zvp J X.K (zt5 f) σ H Q -> zwX J X.K f σ H fun x H' => ∃ k, x = .bl k /\ Q k H' := by
 rintro σ H Q ⟨G₀, H₀, G, ρ, b, A, h, k⟩
 unfold zt5 at h
 obtain ⟨d, hd, h⟩ := oBd h
 split at h <;> cases h
 exact ⟨G₀, H₀, G, ρ, _, A, hd, fun v G' H' s r => ⟨b, r.bl_inv, k G' H' s⟩⟩
theorem zca {op : CmpOp} {g : D -> D -> Option D} (h : CmpD J X op g) (ha : DE J X a fa) (hb : DE J X b fb) (hm : behindInMarks op b = false) : DT J X (.Compare a [op] [b] pos) (zt5 (zxj g fa fb)) := ⟨by
 obtain ⟨r, ho, hr⟩ := h.ex
 exact (zpr ho ha.1 hb.1 hm).imp fun σ H Q q => zwX.two hr σ H _ (zvp.val σ H Q q)⟩
theorem znX {op op' : CmpOp} {g g' : D -> D -> Option D} (h : CmpD J X op g) (h' : CmpD J X op' g') (ha : DE J X a fa) (hb : DE J X b fb) (hc : DE J X c fc) (hm : lastMarks [op, op'] [b, c] = false := by with_unfolding_all rfl) :
  DT J X (.Compare a [op, op'] [b, c] pos) (zt5 (zve g g' fa fb fc)) := ⟨by
 obtain ⟨r, ho, hr⟩ := h.ex
 obtain ⟨r', ho', hr'⟩ := h'.ex
 exact (znq ho ho' ha.1 hb.1 hc.1 hm).imp fun σ H Q q => zwX.chain hr hr' σ H _ (zvp.val σ H Q q)⟩
theorem zaI (h : DE J X e f) (he : ∀ whole, isTrue e X.env whole = (do let v ← whole; standAt e.pos; holding [v] (truthy v)) := by intro _; rfl) : DT J X e (zt5 f) := ⟨(zra h.1 he).imp zvp.val⟩
def zck (f : zw1) : zw1 := fun ρ => (f ρ).map (!·)
def zlb (f g : zw1) : zw1 := fun ρ => (f ρ).bind fun b => if b = true then g ρ else some false
def zuF (f g : zw1) : zw1 := fun ρ => (f ρ).bind fun b => if b = true then some true else g ρ
variable {ft gt : zw1} {zcM : List Expr}
theorem DW.dt {e : Expr} (h : DW J X e ft) : DT J X e ft := ⟨h.1.pt⟩
theorem zaO (h : DT J X a ft) : DT J X (.UnaryOp .Not a pos) (zck ft) := ⟨(zrb h.1).imp fun σ H Q => by
 rintro ⟨G₀, H₀, G, ρ, b, A, h, k⟩
 unfold zck at h
 obtain ⟨c, hc, h⟩ := oMd h
 exact ⟨G₀, H₀, G, ρ, c, A, hc, fun G' H' s => by show Q (!c) H'; rw [h]; exact k G' H' s⟩⟩
theorem zjD (h : DT J X a ft) : DW J X (.BoolOp .And [a] pos) ft := ⟨zpn h.1⟩
theorem zb9 (h : DT J X a ft) : DW J X (.BoolOp .Or [a] pos) ft := ⟨zq7 h.1⟩
theorem zmq (h : DT J X a ft) (h' : DW J X (.BoolOp .And (b :: zcM) pos) gt) : DW J X (.BoolOp .And (a :: b :: zcM) pos) (zlb ft gt) := ⟨(zq8 h.1 h'.1).imp fun σ H Q => by
 rintro ⟨G₀, H₀, G, ρ, r, A, h, k⟩
 unfold zlb at h
 obtain ⟨c, hc, h⟩ := oBd h
 refine ⟨G₀, H₀, G, ρ, c, A, hc, fun G1 H1 s1 => ?_⟩
 cases c with
 | true => exact zqc ⟨G₀, H₀, G1, ρ, r, A.step s1, by simpa using h, fun G' H' s => k G' H' (s1.trans s)⟩
 | false =>
  rw [if_neg Bool.false_ne_true] at h
  cases h
  exact zqd (k _ _ s1)⟩
theorem zcC (h : DT J X a ft) (h' : DW J X (.BoolOp .Or (b :: zcM) pos) gt) : DW J X (.BoolOp .Or (a :: b :: zcM) pos) (zuF ft gt) := ⟨(zsE h.1 h'.1).imp fun σ H Q => by
 rintro ⟨G₀, H₀, G, ρ, r, A, h, k⟩
 unfold zuF at h
 obtain ⟨c, hc, h⟩ := oBd h
 refine ⟨G₀, H₀, G, ρ, c, A, hc, fun G1 H1 s1 => ?_⟩
 cases c with
 | false => exact zqd ⟨G₀, H₀, G1, ρ, r, A.step s1, by simpa using h, fun G' H' s => k G' H' (s1.trans s)⟩
 | true =>
  rw [if_pos rfl] at h
  cases h
  exact zqc (k _ _ s1)⟩
def zed (fa fb : zxe) : zxe := fun ρ => (fa ρ).bind fun d => match d with
 | .bl true => fb ρ
 | .bl false => some (.bl false)
 | _ => none
def zsl (fa : zxe) : zxe := fun ρ => (fa ρ).bind fun d => match d with
 | .bl b => some (.bl (!b))
 | _ => none
theorem zdi {op} (h : DE J X a fa) : DE J X (.BoolOp op [a] pos) fa := ⟨zrl h.1⟩
theorem zcE (ha : DE J X a fa) (hb : DE J X (.BoolOp .And (b :: zcM) pos) fb) : DE J X (.BoolOp .And (a :: b :: zcM) pos) (zed fa fb) := ⟨(zrr ha.1 hb.1).imp fun σ H Q => by
 rintro ⟨G₀, H₀, G, ρ, d, A, h, k⟩
 unfold zed at h
 obtain ⟨x, hx, h⟩ := oBd h
 refine ⟨G₀, H₀, G, ρ, x, A, hx, fun v G1 H1 s1 r1 => ?_⟩
 split at h
 ·cases r1.bl_inv
  exact ⟨true, rfl, zqc ⟨G₀, H₀, G1, ρ, d, A.step s1, h, fun w G' H' s r => k w G' H' (s1.trans s) r⟩⟩
 ·cases r1.bl_inv
  cases h
  exact ⟨false, rfl, zqd (k _ G1 H1 s1 (.bl _))⟩
 ·cases h⟩
theorem zr3 (ha : DE J X a fa) : DE J X (.UnaryOp .Not a pos) (zsl fa) := ⟨(zrm ha.1).imp fun σ H Q => by
 rintro ⟨G₀, H₀, G, ρ, d, A, h, k⟩
 unfold zsl at h
 obtain ⟨x, hx, h⟩ := oBd h
 refine ⟨G₀, H₀, G, ρ, x, A, hx, fun v G1 H1 s1 r1 => ?_⟩
 split at h
 ·cases r1.bl_inv
  cases h
  exact ⟨_, rfl, k _ G1 H1 s1 (.bl _)⟩
 ·cases h⟩
def zak : zw4 := fun _ => some []
def zab (fa : zxe) (fr : zw4) : zw4 := fun ρ => (fa ρ).bind fun x => (fr ρ).map (x :: ·)
variable {fr : zw4}
theorem zae : DA J X [] zak := ⟨zfx.imp fun σ H Q => by
 rintro ⟨G₀, H₀, G, ρ, d, A, h, k⟩
 cases h
 exact k _ G H (.refl A.gh) .nil⟩
theorem zaa (ha : DE J X e fa) (hr : DA J X es fr) (hs : starEach (e :: es) X.env = (false, eval e X.env) :: starEach es X.env := by rfl) : DA J X (e :: es) (zab fa fr) := ⟨(zdK ha.1 hr.1 hs).imp fun σ H Q => by
 rintro ⟨G₀, H₀, G, ρ, d, A, h, k⟩
 unfold zab at h
 obtain ⟨x, hx, h⟩ := oBd h
 obtain ⟨xs, hxs, h⟩ := oMd h
 subst h
 exact ⟨G₀, H₀, G, ρ, x, A, hx, fun v G1 H1 s1 r1 => ⟨G₀, H₀, G1, ρ, xs, A.step s1, hxs, fun vs G2 H2 s2 r2 => k _ G2 H2 (s1.trans s2) (.cons (r1.mono s2.gg) r2)⟩⟩⟩
def zuh (fr : zw4) : zw4 := fun ρ => (fr ρ).bind fun l => if l.length <= sizeLine then some l else none
def za6 (fr : zw4) : zxe := fun ρ => (fr ρ).map D.lst
def zb7 (fr : zw4) : zxe := fun ρ => (fr ρ).map D.tup
theorem DO.de (h : DO J X e fr) : DE J X e (za6 fr) := ⟨h.1.imp fun σ H Q => by
 rintro ⟨G₀, H₀, G, ρ, d, A, h, k⟩
 unfold za6 at h
 obtain ⟨ds, hd, rfl⟩ := oMd h
 exact ⟨G₀, H₀, G, ρ, ds, A, hd, fun p vs G' H' s hp r => zgj s.gh r (fun w G2 H2 s2 r2 => k w G2 H2 (s.trans s2) r2) p hp⟩⟩
theorem zb0 (h : DA J X es fr) : DO J X (.List es pos) (zuh fr) := ⟨(zro h.1).imp fun σ H Q => by
 rintro ⟨G₀, H₀, G, ρ, d, A, h, k⟩
 unfold zuh at h
 obtain ⟨ds, hd, h⟩ := oBd h
 split at h
 ·rename_i hz
  cases h
  exact ⟨G₀, H₀, G, ρ, d, A, hd, fun vs G' H' s r => ⟨by rw [r.length]; exact hz, fun p hp => k p vs G' H' s hp r⟩⟩
 ·cases h⟩
theorem zb1 {x1} (h : DA J X es fr) : DE J X (.Tuple es x1 pos) (zb7 (zuh fr)) := ⟨(zrj h.1).imp fun σ H Q => by
 rintro ⟨G₀, H₀, G, ρ, d, A, h, k⟩
 unfold zb7 zuh at h
 obtain ⟨ds', hd', rfl⟩ := oMd h
 obtain ⟨ds, hd, h⟩ := oBd hd'
 split at h
 ·rename_i hz
  cases h
  exact ⟨G₀, H₀, G, ρ, ds', A, hd, fun vs G' H' s r => ⟨by rw [r.length]; exact hz, zjs s.gh r fun w G2 H2 s2 r2 => k w G2 H2 (s.trans s2) r2⟩⟩
 ·cases h⟩
def zqE (J : Cn) (K : PySem.W.Frag) (g : List D -> Option D) (r : List V -> zxg -> zw3 -> Prop) : Prop :=
 ∀ {G H vs ds z}, zb5 G H -> Reps J K G vs ds -> g ds = some z -> ∀ Q : zw3, (∀ w G' H', Step G H G' H' -> Rep J K G' w z -> Q w H') -> r vs H Q
def zxh (g : List D -> Option D) (fr : zw4) : zxe := fun ρ => (fr ρ).bind g
theorem zwX.call {g : List D -> Option D} {r : List V -> zxg -> zw3 -> Prop} (hr : zqE J X.K g r) : ∀ σ H Q, zwX J X.K (zxh g fr) σ H Q -> zue r (zvw J X.K fr) σ H Q := by
 rintro σ H Q ⟨G₀, H₀, G, ρ, d, A, h, k⟩
 unfold zxh at h
 obtain ⟨ds, hd, h⟩ := oBd h
 exact ⟨G₀, H₀, G, ρ, ds, A, hd, fun vs G1 H1 s1 r1 => hr s1.gh r1 h Q fun w G' H' s r => k w G' H' (s1.trans s) r⟩
structure BltD (J : Cn) (X : Cx) (id : String) (g : List D -> Option D) : Prop where
 ex : ∃ r, zeZ X (.builtin id) r /\ zqE J X.K g r
structure TyD (J : Cn) (X : Cx) (id : String) (g : List D -> Option D) : Prop where
 ex : ∃ r, zeZ X (.type id) r /\ zqE J X.K g r
variable {x : Str} {p : Pos}
theorem zaA {id : String} {g : List D -> Option D} (hc : BltD J X id g) (hg : zwU X x) (hm : X.mg x = none) (hv : bootBuiltins x = some (.builtin id)) (ha : DA J X (e :: es) fr) (hn : x ≠ "__name__" := by decide) (hdb : (x == ("__debug__" : Str)) = false := by decide)
  (he : starEach (e :: es) X.env = (false, eval e X.env) :: starEach es X.env := by rfl) (hpl : (backTo pos (starEach es X.env)).any (·.1) = false := by rfl) : DE J X (.Call (.Name x p) (e :: es) [] pos) (zxh g fr) := ⟨by
 obtain ⟨r, h1, h2⟩ := hc.ex
 exact (zka h1 hg hm hv ha.1 hn hdb he hpl).imp (zwX.call h2)⟩
theorem zcD {id : String} {g : List D -> Option D} (hc : TyD J X id g) (hg : zwU X x) (hm : X.mg x = none) (hv : bootBuiltins x = some (.type id)) (ha : DA J X (e :: es) fr) (hn : x ≠ "__name__" := by decide) (hdb : (x == ("__debug__" : Str)) = false := by decide)
  (he : starEach (e :: es) X.env = (false, eval e X.env) :: starEach es X.env := by rfl) (hpl : (backTo pos (starEach es X.env)).any (·.1) = false := by rfl) : DE J X (.Call (.Name x p) (e :: es) [] pos) (zxh g fr) := ⟨by
 obtain ⟨r, h1, h2⟩ := hc.ex
 exact (zgf h1 hg hm hv ha.1 hn hdb he hpl).imp (zwX.call h2)⟩
theorem zfg {n : String} (hg : zwU X x) (hm : X.mg x = none) (hv : bootBuiltins x = some (.type n)) (hn : x ≠ "__name__" := by decide) (hd : (x == ("__debug__" : Str)) = false := by decide) : DE J X (.Name x pos) (zxk (.ty n)) := zwX.const (fun _ => .ty n) (zpI hg hm hv rfl hn hd)
theorem Reps.one {K : PySem.W.Frag} {G : zxg} {vs : List V} {d : D} (r : Reps J K G vs [d]) : ∃ v, vs = [v] /\ Rep J K G v d := by
 cases r with
 | cons h t => cases t; exact ⟨_, rfl, h⟩
theorem Reps.two {K : PySem.W.Frag} {G : zxg} {vs : List V} {d d' : D} (r : Reps J K G vs [d, d']) : ∃ v u, vs = [v, u] /\ Rep J K G v d /\ Rep J K G u d' := by
 cases r with
 | cons h t => cases t with
  | cons h2 t2 => cases t2; exact ⟨_, _, rfl, h, h2⟩
def zso : List D -> Option D
 | [.int i] => some (.int (if i < 0 then -i else i))
 | _ => none
theorem zsc : BltD J X "abs" zso := ⟨_, zob, fun {G H vs ds z} gh r h Q k => by
 unfold zso at h
 split at h <;> cases h
 obtain ⟨v, rfl, r1⟩ := r.one
 cases r1.int_inv
 exact ⟨_, rfl, k _ G H (.refl gh) (.int _)⟩⟩
def zqI : List D -> Option D
 | [.int i, .int j] => some (.int (if j > i then j else i))
 | _ => none
theorem zsb (hc : X.calm = true) : BltD J X "max" zqI := ⟨_, zmR hc, fun {G H vs ds z} gh r h Q k => by
 unfold zqI at h
 split at h <;> cases h
 obtain ⟨v, u, rfl, r1, r2⟩ := r.two
 cases r1.int_inv; cases r2.int_inv
 exact ⟨_, _, rfl, k _ G H (.refl gh) (.int _)⟩⟩
def zlV : List D -> Option D
 | [.int i, .int j] => some (.int (if j < i then j else i))
 | _ => none
theorem zm0 (hc : X.calm = true) : BltD J X "min" zlV := ⟨_, zmQ hc, fun {G H vs ds z} gh r h Q k => by
 unfold zlV at h
 split at h <;> cases h
 obtain ⟨v, u, rfl, r1, r2⟩ := r.two
 cases r1.int_inv; cases r2.int_inv
 exact ⟨_, _, rfl, k _ G H (.refl gh) (.int _)⟩⟩
def zdt : List D -> Option D
 | [.str x] => if x.length <= sizeLine then some (.int (x.length : Nat)) else none
 | [.lst l] => some (.int (l.length : Nat))
 | [.tup l] => some (.int (l.length : Nat))
 | [.scr l] => some (.int (l.length : Nat))
 | _ => none
theorem zdj : BltD J X "len" zdt := ⟨_, zoa, fun {G H vs ds z} gh r h Q k => by
 unfold zdt at h
 split at h
 ·split at h
  ·cases h
   obtain ⟨v, rfl, r1⟩ := r.one
   cases r1.str_inv
   exact ⟨_, _, rfl, ⟨by assumption, rfl⟩, k _ G H (.refl gh) (.int _)⟩
  ·cases h
 ·cases h
  obtain ⟨v, rfl, r1⟩ := r.one
  obtain ⟨a, vs, rfl, ha, rv⟩ := r1.lst_inv
  exact ⟨_, _, rfl, .inl ⟨vs, .inl (.inl (gh _ _ ha)), rfl⟩, k _ G H (.refl gh) (by rw [rv.length]; exact .int _)⟩
 ·cases h
  obtain ⟨v, rfl, r1⟩ := r.one
  obtain ⟨a, vs, rfl, ha, rv⟩ := r1.tup_inv
  exact ⟨_, _, rfl, .inr ⟨vs, .inl (.inl (gh _ _ ha)), rfl⟩, k _ G H (.refl gh) (by rw [rv.length]; exact .int _)⟩
 ·cases h
  obtain ⟨v, rfl, r1⟩ := r.one
  obtain ⟨a, rfl, ha⟩ := r1.scr_inv
  exact ⟨_, _, rfl, .inl ⟨_, gh.seq ha, rfl⟩, k _ G H (.refl gh) (by rw [List.length_map]; exact .int _)⟩
 ·cases h⟩
def zt3 : D -> Option String
 | .non => some "NoneType"
 | .bl _ => some "bool"
 | .int _ => some "int"
 | .str _ => some "str"
 | .lst _ => some "list"
 | .tup _ => some "tuple"
 | .dk _ => some "dict"
 | .dt _ => some "dict"
 | _ => none
def zi7 (t c : String) : Option Bool := if (Value.type t == Value.type c) = true then some true else if PySem.W.kitMeta c = true then Option.map (fun x => x.contains (Value.type c)) (PySem.fastBuiltinMro t) else none
def zdA : List D -> Option D
 | [d, .ty c] => (zt3 d).bind fun t => (zi7 t c).map D.bl
 | _ => none
theorem zoY {K : PySem.W.Frag} {G H : zxg} {v : V} {d : D} {t : String} (gh : zb5 G H) (r : Rep J K G v d) (h : zt3 d = some t) : TyOf K H v (.type t) := by
 unfold zt3 at h
 split at h <;> cases h
 ·cases r.non_inv; exact .non
 ·cases r.bl_inv; exact .bl _
 ·cases r.int_inv; exact .int _
 ·cases r.str_inv; exact .str _
 ·obtain ⟨a, vs, rfl, ha, _⟩ := r.lst_inv; exact .lst (gh _ _ ha)
 ·obtain ⟨a, vs, rfl, ha, _⟩ := r.tup_inv; exact .tup (gh _ _ ha)
 ·cases r with
  | dk h _ _ => exact .dK (gh _ _ h)
 ·cases r with
  | dt h _ _ => exact .dT (gh _ _ h)
theorem zdk : BltD J X "isinstance" zdA := by
 refine ⟨fun vs H Q => ∃ v t c b, vs = [v, .ty c] /\ TyOf X.K H v (.type t) /\ PySem.W.kitOne X.K (.type t) (.type c) = some b /\ Q (.bl b) H, ?_, ?_⟩
 ·intro pins s σ H xs us Q I r h
  obtain ⟨v, t, c, b, rfl, ty, hk, q⟩ := h
  obtain ⟨u, w', rfl, r1, r2⟩ := zoX r
  cases r2
  exact zme I r1 ty hk fun tk => ⟨.bl b, H, I.tok tk, rfl, q⟩
 ·intro G H vs ds z gh r h Q k
  unfold zdA at h
  split at h
  ·obtain ⟨t, ht, h⟩ := oBd h
   obtain ⟨b, hb, rfl⟩ := oMd h
   obtain ⟨v, u, rfl, r1, r2⟩ := r.two
   cases r2
   exact ⟨v, t, _, b, rfl, zoY gh r1 ht, hb, k _ G H (.refl gh) (.bl _)⟩
  ·cases h
end
end L2
end
section
namespace L2
open PySem PySem.Spec PyProof.Rows
section
variable {J : Cn} {X : Cx} {a b c e : Expr} {es : List Expr} {fa fb fc f : zxe} {fr : zw4} {pos p2 : Pos}
theorem Reps.atI {K : PySem.W.Frag} {G : zxg} {vs : List V} {ds : List D} {i : Int} {d : D} (r : Reps J K G vs ds) (h : L2.atI ds i = some d) : ∃ v, L2.atI vs i = some v /\ Rep J K G v d := by
 unfold L2.atI at h ⊢
 rw [r.length]
 cases e : zuY ds.length i with
 | none => rw [e] at h; cases h
 | some j =>
  rw [e] at h
  obtain ⟨v, h1, h2⟩ := r.get (i := j) (d := d) h
  exact ⟨v, h1, h2⟩
theorem zqC {α β : Type} (g : α -> β) (xs : List α) (i : Int) : L2.atI (xs.map g) i = (L2.atI xs i).map g := by
 unfold L2.atI
 rw [List.length_map]
 cases zuY xs.length i with
 | none => rfl
 | some j => simp
def zu0 : D -> D -> Option D
 | .lst l, .int i => atI l i
 | .tup l, .int i => atI l i
 | .scr l, .int i => (atI l i).map D.int
 | .str x, .int i => if x.length <= sizeLine then (atI x.cps.toList i).map fun c => D.str ⟨#[c]⟩ else none
 | _, _ => none
theorem zqp {K : PySem.W.Frag} : zjV J K zu0 (zuy K) := by
 intro G H v u x y z gh r1 r2 h Q k
 unfold zu0 at h
 split at h
 ·obtain ⟨a, vs, rfl, ha, rv⟩ := r1.lst_inv
  cases r2.int_inv
  obtain ⟨w, hw, rw'⟩ := rv.atI h
  exact .inl ⟨a, vs, _, w, rfl, rfl, .inl (.inl (gh _ _ ha)), hw, k w G H (.refl gh) rw'⟩
 ·obtain ⟨a, vs, rfl, ha, rv⟩ := r1.tup_inv
  cases r2.int_inv
  obtain ⟨w, hw, rw'⟩ := rv.atI h
  exact .inr (.inl ⟨a, vs, _, w, rfl, rfl, .inl (.inl (gh _ _ ha)), hw, k w G H (.refl gh) rw'⟩)
 ·obtain ⟨a, rfl, ha⟩ := r1.scr_inv
  cases r2.int_inv
  obtain ⟨n, hn, rfl⟩ := oMd h
  exact .inl ⟨a, _, _, .int n, rfl, rfl, gh.seq ha, by rw [zqC, hn]; rfl, k _ G H (.refl gh) (.int _)⟩
 ·split at h
  ·cases r1.str_inv
   cases r2.int_inv
   obtain ⟨n, hn, rfl⟩ := oMd h
   exact .inr (.inr ⟨_, _, n, rfl, rfl, by assumption, hn, k _ G H (.refl gh) (.str _)⟩)
  ·cases h
 ·cases h
theorem zau (ha : DE J X a fa) (hb : DE J X b fb) (hs : zjU b := by intro _ _; rfl) : DE J X (.Subscript a b pos) (zxj zu0 fa fb) := ⟨(zrq zoz ha.1 hb.1 hs).imp (zwX.two zqp)⟩
def zi9 {α : Type} (xs : List α) (lo hi : Option Int) : List α := (xs.drop (HT.sIx xs.length 0 lo)).take (HT.sIx xs.length xs.length hi - HT.sIx xs.length 0 lo)
theorem zn5 {α β : Type} (g : α -> β) (xs : List α) (lo hi : Option Int) : zi9 (xs.map g) lo hi = (zi9 xs lo hi).map g := by
 unfold zi9
 simp
theorem Reps.cut {K : PySem.W.Frag} {G : zxg} {vs : List V} {ds : List D} (r : Reps J K G vs ds) (lo hi : Option Int) : Reps J K G (zoO vs lo hi) (zi9 ds lo hi) := by
 unfold zoO zi9
 rw [r.length]
 exact (r.drop _).take _
def zqL (x : Str) (lo hi : Option Int) : Str := ⟨(zi9 x.cps.toList lo hi).toArray⟩
theorem zik (lo hi : Option Int) (n : Nat) : Builtin.Str.strSliceIndices lo hi 1 n = (List.range (HT.sIx n n hi - HT.sIx n 0 lo)).map (HT.sIx n 0 lo + ·) := by
 rw [← sliceRange_one]
 unfold Builtin.Str.strSliceIndices
 have h1 : ∀ (o : Option Int) (d : Nat), d <= n -> (match o with | none => (d : Int) | some i => if (1 : Int) > 0 then max 0 (min (if i < 0 then i + (n : Int) else i) n) else max (-1) (min (if i < 0 then i + (n : Int) else i) ((n : Int) - 1))) = ((HT.sIx n d o : Nat) : Int) := fun o d hd => by
  cases o with
  | none => simp [HT.sIx]
  | some i =>
   simp only [HT.sIx, show (1 : Int) > 0 by decide, if_true]
   by_cases h : i < 0
   ·simp only [h, if_true]; omega
   ·simp only [h, if_false]; omega
 have e0 := h1 lo 0 (Nat.zero_le _)
 have e1 := h1 hi n (Nat.le_refl _)
 rw [← e0, ← e1]
 rfl
theorem zj6 (x : Str) (lo hi : Option Int) : Txt.slice x lo hi = zqL x lo hi := by
 have key : (Builtin.Str.strSliceIndices lo hi 1 x.length).filterMap (x.cps[·]?) = zi9 x.cps.toList lo hi := by
  rw [zik, pick_run]
  unfold zi9
  rw [show x.cps.toList.length = x.length by simp [Str.length]]
 unfold Txt.slice zqL
 split
 ·rename_i h
  rw [← key]
  have hl : (Builtin.Str.strSliceIndices lo hi 1 x.length).length = x.length := by simpa using h
  rw [zik] at hl ⊢
  rw [pick_run]
  rw [List.length_map, List.length_range] at hl
  have hb : HT.sIx x.length x.length hi <= x.length := by
   cases hi with
   | none => simp [HT.sIx]
   | some i => simp only [HT.sIx]; split <;> omega
  have h0 : HT.sIx x.length 0 lo = 0 \/ x.length = 0 := by omega
  have hx : x.cps.toList.length = x.length := by simp [Str.length]
  have e : (x.cps.toList.drop (HT.sIx x.length 0 lo)).take (HT.sIx x.length x.length hi - HT.sIx x.length 0 lo) = x.cps.toList := by
   rcases h0 with h0 | h0
   ·rw [h0, List.drop_zero]
    rw [h0] at hl
    exact List.take_of_length_le (by omega)
   ·have : x.cps.toList = [] := List.length_eq_zero_iff.mp (by omega)
    rw [this]; simp
  rw [e]
 ·rw [key]
def zwZ : zaV -> Option (Option Int) := fun _ => some none
def zw0 (f : zxe) : zaV -> Option (Option Int) := fun ρ => (f ρ).bind fun d => match d with
 | .int i => some (some i)
 | _ => none
def zvr (J : Cn) (K : PySem.W.Frag) (f : zaV -> Option (Option Int)) : zwi := fun σ H Q => ∃ G₀ H₀ G ρ o, At J K G₀ H₀ G H ρ σ /\ f ρ = some o /\ ∀ G' H', Step G H G' H' -> Q o H'
structure DP (J : Cn) (X : Cx) (e : Option Expr) (f : zaV -> Option (Option Int)) : Prop where
 out : zwd X e (zvr J X.K f)
theorem zcK : DP J X none zwZ := ⟨fun pins s σ H Q I ⟨G₀, H₀, G, ρ, o, A, h, k⟩ => by
 cases h
 exact zpx pins s σ H Q I (k G H (.refl A.gh))⟩
theorem zcJ (h : DE J X e f) : DP J X (some e) (zw0 f) := ⟨fun pins s σ H Q I ⟨G₀, H₀, G, ρ, o, A, q, k⟩ => by
 unfold zw0 at q
 obtain ⟨d, hd, q⟩ := oBd q
 split at q <;> cases q
 exact zpw h.1 pins s σ H Q I ⟨G₀, H₀, G, ρ, _, A, hd, fun v G' H' s r => ⟨_, r.int_inv, k G' H' s⟩⟩⟩
theorem zqZ : zvz X (fun x lo hi H Q => ∃ z, x = .str z /\ z.length <= sizeLine /\ Q (.str (zqL z lo hi)) H) := by
 intro pins s σ H x v vl vu lo hi sl Q I rx hs pl pu h
 obtain ⟨z, rfl, hz, q⟩ := h
 obtain ⟨t, rfl⟩ := rx
 refine ⟨"str", _, PySem.F.slot_str_getitem.lookup, typeIs_str _ _ _, ?_⟩
 obtain ⟨l, rfl, el⟩ : ∃ l : Option (Int × Tok), vl = partValue l /\ l.map (·.1) = lo := by
  cases pl with
  | none => exact ⟨none, rfl, rfl⟩
  | int i t => exact ⟨some (i, t), rfl, rfl⟩
 obtain ⟨u, rfl, eu⟩ : ∃ l : Option (Int × Tok), vu = partValue l /\ l.map (·.1) = hi := by
  cases pu with
  | none => exact ⟨none, rfl, rfl⟩
  | int i t => exact ⟨some (i, t), rfl, rfl⟩
 refine wpAny_getItem_str_slice (l := l) (u := u) (st := none) hs rfl ?_
 have e : (if ((Option.map (fun x => x.fst) (none : Option (Int × Tok))).getD 1 == 1 && (slicePicked z l u none).length == z.length) = true then z else { cps := (List.filterMap (fun x => z.cps[x]?) (slicePicked z l u none)).toArray }) = zqL z lo hi := by
  have e0 : Txt.slice z (l.map (·.1)) (u.map (·.1)) = zqL z lo hi := by
   rw [el, eu]
   exact zj6 z lo hi
  exact e0
 refine post_val_or_str ⟨?_, fun t' k => ?_⟩
 ·rw [e, ← zj6]
  exact Nat.le_trans (Txt.slice_le z _ _) hz
 ·rw [e]
  exact ⟨.str _, H, I.tok k, ⟨_, rfl⟩, q⟩
def zhd (lo hi : Option Int) : D -> Option D
 | .lst l => some (.lst (zi9 l lo hi))
 | .scr l => some (.lst ((zi9 l lo hi).map D.int))
 | .tup l => if HT.sIx l.length 0 lo = 0 /\ HT.sIx l.length l.length hi = l.length then none else some (.tup (zi9 l lo hi))
 | .str x => if x.length <= sizeLine then some (.str (zqL x lo hi)) else none
 | _ => none
def zuu (f : zxe) (zxc fh : zaV -> Option (Option Int)) : zxe := fun ρ => (f ρ).bind fun d => (zxc ρ).bind fun l => (fh ρ).bind fun h => zhd l h d
variable {zxc fh : zaV -> Option (Option Int)} {lo hi : Option Expr}
theorem zcg (he : DE J X e f) (hl : DP J X lo zxc) (hh : DP J X hi fh) : DE J X (.Subscript e (.Slice lo hi none p2) pos) (zuu f zxc fh) := ⟨(znx (zpb.or (zqY.or zqZ)) he.1 hl.1 hh.1).imp fun σ H Q => by
 rintro ⟨G₀, H₀, G, ρ, d, A, h, k⟩
 unfold zuu at h
 obtain ⟨x, hx, h⟩ := oBd h
 obtain ⟨l, hl, h⟩ := oBd h
 obtain ⟨u, hu, h⟩ := oBd h
 refine ⟨G₀, H₀, G, ρ, x, A, hx, fun v G1 H1 s1 r1 => ⟨G₀, H₀, G1, ρ, l, A.step s1, hl, fun G2 H2 s2 => ⟨G₀, H₀, G2, ρ, u, (A.step s1).step s2, hu, fun G3 H3 s3 => ?_⟩⟩⟩
 have s := (s1.trans s2).trans s3
 have r := r1.mono (s2.gg.trans s3.gg)
 have gh := s3.gh
 unfold zhd at h
 split at h
 ·cases h
  obtain ⟨a, vs, rfl, ha, rv⟩ := r.lst_inv
  exact .inl ⟨a, vs, rfl, .inl (.inl (gh _ _ ha)), zgj gh (rv.cut l u) fun w G4 H4 s4 r4 => k w G4 H4 (s.trans s4) r4⟩
 ·cases h
  obtain ⟨a, rfl, ha⟩ := r.scr_inv
  refine .inl ⟨a, _, rfl, gh.seq ha, zgj gh ?_ fun w G4 H4 s4 r4 => k w G4 H4 (s.trans s4) r4⟩
  show Reps J X.K G3 (zi9 _ l u) _
  rw [zn5]
  exact Reps.ints _
 ·split at h
  ·cases h
  ·rename_i hw
   cases h
   obtain ⟨a, vs, rfl, ha, rv⟩ := r.tup_inv
   exact .inr (.inl ⟨a, vs, rfl, .inl (.inl (gh _ _ ha)), by rw [rv.length]; exact hw, zjs gh (rv.cut l u) fun w G4 H4 s4 r4 => k w G4 H4 (s.trans s4) r4⟩)
 ·split at h
  ·cases h
   cases r.str_inv
   exact .inr (.inr ⟨_, rfl, by assumption, k _ _ _ s (.str _)⟩)
  ·cases h
 ·cases h⟩
structure MtD (J : Cn) (X : Cx) (T id : String) (g : D -> List D -> Option D) : Prop where
 ex : ∃ r, zvG X id r /\ ∀ {G H v x vs ds z}, zb5 G H -> Rep J X.K G v x -> Reps J X.K G vs ds -> g x ds = some z -> ∀ Q : zw3, (∀ w G' H', Step G H G' H' -> Rep J X.K G' w z -> Q w H') -> r v vs H Q
 ty : ∀ {G H v x ds z}, zb5 G H -> Rep J X.K G v x -> g x ds = some z -> zt2 X.K T v H
variable {name : Str} {apos cpos : Pos} {o : Expr} {fo : zxe}
def zqW : List D -> Option (List Str)
 | [] => some []
 | .str x :: r => (zqW r).map (x :: ·)
 | _ :: _ => none
def ztM : D -> List D -> Option D
 | .str sep, [.lst l] => (zqW l).bind fun ys => if (ys.map (·.length)).sum + ys.length * sep.length <= 16777216 then some (.str (Txt.join sep ys)) else none
 | _, _ => none
def zqM : List D -> Option (List Bool)
 | [] => some []
 | .bl x :: r => (zqM r).map (x :: ·)
 | _ :: _ => none
theorem zmZ {K : PySem.W.Frag} {G : zxg} : ∀ {vs : List V} {ds : List D} {ys : List Bool}, Reps J K G vs ds -> zqM ds = some ys -> vs = ys.map V.bl
 | _, [], ys, r, h => by cases r; cases h; rfl
 | _, d :: ds, ys, .cons h1 h2, h => by
  cases d with
  | bl x =>
   obtain ⟨zs, hz, rfl⟩ := oMd (show (zqM ds).map (x :: ·) = some ys from h)
   rw [h1.bl_inv, zmZ h2 hz]; rfl
  | _ => cases h
def zi4 : List D -> Option D
 | [.lst l] => (zqM l).map fun bs => D.bl (bs.all id)
 | _ => none
theorem zlh : ∀ {bs : List Bool} {us : List Value}, zcb (bs.map V.bl) us -> us = bs.map Value.bool
 | [], _, r => by rw [List.map_nil] at r; cases r; rfl
 | y :: ys, _, r => by
  rw [List.map_cons] at r
  cases r with
  | cons r1 r2 => cases r1; rw [zlh r2]; rfl
theorem zm2 (bs : List Bool) : (List.range bs.length).all (fun i => bs.getD i false) = bs.all id := by
 rw [Bool.eq_iff_iff, List.all_eq_true, List.all_eq_true]
 constructor
 ·intro h x hx
  obtain ⟨i, hi, e⟩ := List.mem_iff_getElem.mp hx
  have := h i (List.mem_range.mpr hi)
  simp [List.getD, hi] at this
  rw [← e]; exact this
 ·intro h i hi
  have hi' := List.mem_range.mp hi
  have := h (bs[i]) (List.getElem_mem hi')
  simp [List.getD, hi']
  exact this
theorem zna {prog : Program} {w : World} {A : Around} {bs : List Bool} : TruthOf prog w A (fun i v => (bs.map Value.bool).toArray[i]? = some v) (fun i => bs.getD i false) := fun i v s Q E hP hQ => by
 have hP' : (bs.map Value.bool)[i]? = some v := by simpa using hP
 rw [List.getElem?_map] at hP'
 obtain ⟨b, hb, rfl⟩ := oMd hP'
 have : bs.getD i false = b := by simp [List.getD, hb]
 have hQ' : Q (bs.getD i false) s := hQ
 rw [this] at hQ'
 exact wpAny_truthy_bool hQ'
theorem zdw (hc : X.calm = true) : BltD J X "all" zi4 := by
 refine ⟨fun vs H Q => ∃ (a : Addr) (bs : List Bool), vs = [.ref a] /\ H a = some (.lst (bs.map V.bl)) /\ Q (.bl (bs.all id)) H, ?_, ?_⟩
 ·intro pins s σ H xs us Q I r h
  obtain ⟨a, bs, rfl, ha, q⟩ := h
  obtain ⟨u, rfl, ru⟩ := zfY r
  cases ru
  obtain ⟨its, rv, pl, _⟩ := I.list (.inl (.inl ha))
  have e := zlh rv
  subst e
  refine call_all_walk (wpAny_pyIter_list pl.isList ?_)
  have ne : a ≠ s.heap.objs.size := by obtain ⟨o, _, h1, _⟩ := pl; exact Nat.ne_of_lt (Heap.lt_size h1)
  refine ⟨s.heap.objs.size, _, _, _, _, _, fun i => bs.getD i false, rfl, Walks.list (A := X.A.in1) (show X.A.in1.handled = none from I.ok.hd hc) s.heap.objs.size a ne (bs.map Value.bool).toArray, ⟨⟨_, Heap.get?_push_size _ rfl, rfl, rfl⟩, pl.isList.at fun o q => Heap.get?_push_of_some _ q⟩, zna, fun h' tk hk => ?_⟩
  have e2 : (bs.map Value.bool).toArray.size = bs.length := by simp
  rw [e2, zm2]
  refine ⟨.bl _, H, I.kept fun b o z => hk b o ?_ (Heap.get?_push_of_some _ z), rfl, q⟩
  intro z'
  have : b = s.heap.objs.size := by simpa using z'
  exact absurd (Heap.lt_size z) (by rw [this]; exact Nat.lt_irrefl _)
 ·intro G H vs ds z gh r h Q k
  unfold zi4 at h
  split at h
  ·obtain ⟨bs, hb, rfl⟩ := oMd h
   obtain ⟨v, rfl, r1⟩ := r.one
   obtain ⟨a, ws, rfl, ha, rw'⟩ := r1.lst_inv
   refine ⟨a, bs, rfl, ?_, k _ G H (.refl gh) (.bl _)⟩
   rw [← zmZ rw' hb]
   exact gh _ _ ha
  ·cases h
end
end L2
end
section
namespace L2
open PySem PySem.Spec PyProof.Rows
structure Yd (J : Cn) (K : PySem.W.Frag) (zxi : It) (G : zxg) (ds : List D) : Prop where
 go : ∀ (i : Nat) d G2 H2, ds[i]? = some d -> zb5 G G2 -> zb5 G2 H2 -> zxi.go i H2 /\ ∀ x H3, zxi.yld i H2 x H3 -> ∃ G3, Step G2 H2 G3 H3 /\ Rep J K G3 x d
 stop : ∀ G2 H2, zb5 G G2 -> zb5 G2 H2 -> zxi.stop ds.length H2
def zvu (J : Cn) (K : PySem.W.Frag) (f : zw4) : zwz := fun σ H R => ∃ G₀ H₀ G ρ ds, At J K G₀ H₀ G H ρ σ /\ f ρ = some ds /\ ∀ zxi G' H', Step G H G' H' -> Yd J K zxi G' ds -> R zxi H'
structure DI (J : Cn) (X : Cx) (tg e : Expr) (f : zw4) : Prop where
 out : zwC X tg e (zvu J X.K f)
theorem zwC.imp {X : Cx} {tg e : Expr} {t t' : zwz} (h : zwC X tg e t) (i : ∀ σ H R, t' σ H R -> t σ H R) : zwC X tg e t' := fun pins s σ H R I q => h pins s σ H R I (i _ _ _ q)
section
variable {J : Cn} {X : Cx} {a b c e tg iter : Expr} {es : List Expr} {fa fb fc f : zxe} {fr fi : zw4} {pos p2 p : Pos}
theorem zqN {K : PySem.W.Frag} {G : zxg} {a : Addr} {vs : List V} {ds : List D} (h : G a = some (.tup vs)) (r : Reps J K G vs ds) : Yd J K (zvN K a) G ds := by
 refine ⟨fun i d G2 H2 hd g1 g2 => ?_, fun G2 H2 g1 g2 => ⟨vs, .inl (.inl (g2 _ _ (g1 _ _ h))), by rw [r.length]; exact Nat.le_refl _⟩⟩
 obtain ⟨v, hv, rv⟩ := r.get hd
 refine ⟨⟨vs, v, .inl (.inl (g2 _ _ (g1 _ _ h))), hv⟩, fun x H3 ⟨e1, e2⟩ => ?_⟩
 subst e1
 have := e2 vs (.inl (.inl (g2 _ _ (g1 _ _ h))))
 rw [hv] at this
 cases this
 exact ⟨G2, .refl g2, rv.mono g1⟩
theorem zlf {K : PySem.W.Frag} {G : zxg} {a : Addr} {vs : List V} {ds : List D} (h : zvy K G a vs) (r : Reps J K G vs ds) : Yd J K (zvR K a) G (ds.mapIdx fun i d => D.tup [.int i, d]) := by
 refine ⟨fun i d G2 H2 hd g1 g2 => ?_, fun G2 H2 g1 g2 => ⟨vs, g2.seq (g1.seq h), by rw [List.length_mapIdx, r.length]; exact Nat.le_refl _⟩⟩
 rw [List.getElem?_mapIdx] at hd
 obtain ⟨d', hd', rfl⟩ := oMd hd
 obtain ⟨v, hv, rv⟩ := r.get hd'
 refine ⟨⟨vs, v, g2.seq (g1.seq h), hv⟩, fun x H3 ⟨T, y, e0, hT, e1, e2⟩ => ?_⟩
 subst e0
 have := e2 vs (g2.seq (g1.seq h))
 rw [hv] at this
 cases this
 subst e1
 have s := Step.new (o := .tup [.int i, v]) g2 hT
 exact ⟨_, s, .tup zaB (.cons (.int _) (.cons ((rv.mono g1).mono s.gg) .nil))⟩
def ziI : D -> Option (List D)
 | .lst l => some l
 | .tup l => some l
 | .scr l => some (l.map D.int)
 | _ => none
def zu3 (f : zxe) : zw4 := fun ρ => (f ρ).bind ziI
theorem zrh {l : Expr} {tl : zw8} (hl : zxb X l tl) : zwC X tg l (fun σ H R => tl σ H fun x H1 => (∃ a, x = .ref a /\ (∃ xs, zvy X.K H1 a xs) /\ R (zvQ X.K a) H1) \/ (∃ a, x = .ref a /\ (∃ xs, zvx X.K H1 a xs) /\ R (zvN X.K a) H1)) := by
 intro pins s σ H R I h
 refine zt9 (hl pins s σ H _ I h) fun v s1 ⟨x, H1, I1, r1, q1⟩ => ?_
 rcases q1 with ⟨a, e, ⟨xs, hq⟩, q⟩ | ⟨a, e, ⟨xs, hq⟩, q⟩
 ·subst e
  cases r1
  obtain ⟨its, rv, p, hz⟩ := I1.list hq
  refine wpAny_pyIter_list p.isList ?_
  refine ⟨s1.heap.objs.size, [s1.heap.objs.size], _, _, H1, rfl, I1.kept (t' := s1.toks) fun b o e => Heap.get?_push_of_some _ e, zlj a _, ⟨_, Heap.get?_push_size _ rfl, rfl, rfl⟩, fun b hb => ?_, q⟩
  have e : b = s1.heap.objs.size := by simpa using hb
  subst e
  exact I1.fpOk (Nat.le_refl _) (I1.hok.fresh (Nat.le_refl _))
 ·subst e
  cases r1
  obtain ⟨its, rv, p, hz⟩ := I1.tuple hq
  refine wpAny_pyIter_tuple (show s1.heap.IsTuple a its.toArray from p) ?_
  refine ⟨s1.heap.objs.size, [s1.heap.objs.size], _, _, H1, rfl, I1.kept (t' := s1.toks) fun b o e => Heap.get?_push_of_some _ e, zkD a _, ⟨_, Heap.get?_push_size _ rfl, rfl, rfl⟩, fun b hb => ?_, q⟩
  have e : b = s1.heap.objs.size := by simpa using hb
  subst e
  exact I1.fpOk (Nat.le_refl _) (I1.hok.fresh (Nat.le_refl _))
theorem zaY (h : DE J X iter f) : DI J X tg iter (zu3 f) := ⟨(zrh h.1).imp fun σ H R => by
 rintro ⟨G₀, H₀, G, ρ, ds, A, h, k⟩
 unfold zu3 at h
 obtain ⟨d, hd, h⟩ := oBd h
 refine ⟨G₀, H₀, G, ρ, d, A, hd, fun v G' H' s r => ?_⟩
 unfold ziI at h
 split at h
 ·cases h
  obtain ⟨a, vs, rfl, ha, rv⟩ := r.lst_inv
  refine .inl ⟨a, rfl, ⟨vs, .inl (.inl (s.gh _ _ ha))⟩, k _ G' H' s ?_⟩
  refine ⟨fun i d G2 H2 hd g1 g2 => ?_, fun G2 H2 g1 g2 => ⟨vs, .inl (.inl (g2 _ _ (g1 _ _ ha))), by rw [rv.length]; exact Nat.le_refl _⟩⟩
  obtain ⟨v, hv, rv'⟩ := rv.get hd
  refine ⟨⟨vs, v, .inl (.inl (g2 _ _ (g1 _ _ ha))), hv⟩, fun x H3 ⟨e1, e2⟩ => ?_⟩
  subst e1
  have := e2 vs (.inl (.inl (g2 _ _ (g1 _ _ ha))))
  rw [hv] at this
  cases this
  exact ⟨G2, .refl g2, rv'.mono g1⟩
 ·cases h
  obtain ⟨a, vs, rfl, ha, rv⟩ := r.tup_inv
  exact .inr ⟨a, rfl, ⟨vs, .inl (.inl (s.gh _ _ ha))⟩, k _ G' H' s (zqN ha rv)⟩
 ·rename_i l
  cases h
  obtain ⟨a, rfl, ha⟩ := r.scr_inv
  refine .inl ⟨a, rfl, ⟨_, s.gh.seq ha⟩, k _ G' H' s ?_⟩
  refine ⟨fun i d G2 H2 hd g1 g2 => ?_, fun G2 H2 g1 g2 => ⟨_, g2.seq (g1.seq ha), by simp⟩⟩
  rw [List.getElem?_map] at hd
  obtain ⟨n, hn, rfl⟩ := oMd hd
  have hv : (List.map V.int l)[i]? = some (V.int n) := by rw [List.getElem?_map, hn]; rfl
  refine ⟨⟨_, _, g2.seq (g1.seq ha), hv⟩, fun x H3 ⟨e1, e2⟩ => ?_⟩
  subst e1
  have := e2 _ (g2.seq (g1.seq ha))
  rw [hv] at this
  cases this
  exact ⟨G2, .refl g2, .int _⟩
 ·cases h⟩
def zls : D -> Option (List D)
 | .str x => some (x.cps.toList.map fun c => D.str ⟨#[c]⟩)
 | _ => none
def zu1 (f : zxe) : zw4 := fun ρ => (f ρ).bind zls
theorem zmB {n : Str} {q : Pos} (h : DE J X iter f) : DI J X (.Name n q) iter (zu1 f) := ⟨(zrg h.1).imp fun σ H R => by
 rintro ⟨G₀, H₀, G, ρ, ds, A, h, k⟩
 unfold zu1 at h
 obtain ⟨d, hd, h⟩ := oBd h
 refine ⟨G₀, H₀, G, ρ, d, A, hd, fun v G' H' s r => ?_⟩
 unfold zls at h
 split at h <;> cases h
 cases r.str_inv
 rename_i x
 refine ⟨x, rfl, k _ G' H' s ⟨fun i d G2 H2 hd g1 g2 => ?_, fun G2 H2 g1 g2 => ?_⟩⟩
 ·rw [List.getElem?_map] at hd
  obtain ⟨c, hc, rfl⟩ := oMd hd
  have hc' : x.cps[i]? = some c := by simpa using hc
  refine ⟨(Array.getElem?_eq_some_iff.mp hc').1, fun y H3 ⟨e1, c2, h2, e2⟩ => ?_⟩
  subst e1
  subst e2
  rw [hc'] at h2
  cases h2
  exact ⟨G2, .refl g2, .str _⟩
 ·show _ = x.cps.size
  simp⟩
def zrY : D -> Option (List D)
 | .lst l => some (l.mapIdx fun i d => D.tup [.int i, d])
 | .scr l => some ((l.map D.int).mapIdx fun i d => D.tup [.int i, d])
 | _ => none
def zu4 (f : zxe) : zw4 := fun ρ => (f ρ).bind zrY
theorem zex {elts : List Expr} {zwY : Nat} {tpos : Pos} (hg : zwU X "enumerate") (hm : X.mg "enumerate" = none) (h : DE J X a f) (hs : starEach [a] X.env = [(false, eval a X.env)] := by rfl) (hs0 : starEach ([a] : List Expr) X.env = (false, eval a X.env) :: starEach [] X.env := by rfl) :
  DI J X (.Tuple elts zwY tpos) (.Call (.Name "enumerate" p) [a] [] pos) (zu4 f) := ⟨(zpA hg hm (zdK h.1 zfx hs0) hs).imp fun σ H R => by
 rintro ⟨G₀, H₀, G, ρ, ds, A, h, k⟩
 unfold zu4 at h
 obtain ⟨d, hd, h⟩ := oBd h
 refine ⟨G₀, H₀, G, ρ, d, A, hd, fun v G' H' s r => ?_⟩
 unfold zrY at h
 split at h
 ·cases h
  obtain ⟨a, vs, rfl, ha, rv⟩ := r.lst_inv
  exact ⟨a, rfl, ⟨vs, .inl (.inl (s.gh _ _ ha))⟩, k _ G' H' s (zlf (.inl (.inl ha)) rv)⟩
 ·cases h
  obtain ⟨a, rfl, ha⟩ := r.scr_inv
  exact ⟨a, rfl, ⟨_, s.gh.seq ha⟩, k _ G' H' s (zlf ha (Reps.ints _))⟩
 ·cases h⟩
theorem zjW {K : PySem.W.Frag} {G : zxg} {lo : Int} {n : Nat} : Yd J K (zvP lo n) G ((List.range n).map fun i : Nat => D.int (lo + i)) := by
 refine ⟨fun i d G2 H2 hd g1 g2 => ?_, fun G2 H2 g1 g2 => ?_⟩
 ·rw [List.getElem?_map] at hd
  obtain ⟨j, hj, rfl⟩ := oMd hd
  have hi : i < n := by
   have := (List.getElem?_eq_some_iff.mp hj).1
   simpa using this
  have e : j = i := by simpa [hi] using hj.symm
  subst e
  refine ⟨hi, fun x H3 ⟨e1, e2⟩ => ?_⟩
  subst e1
  subst e2
  exact ⟨G2, .refl g2, .int _⟩
 ·show n <= _
  simp
def zgY : List D -> Option (List D)
 | [.int j] => if -(2 ^ 62) <= j /\ j < 2 ^ 62 then some ((List.range j.toNat).map fun i : Nat => D.int (0 + i)) else none
 | _ => none
def zpk : List D -> Option (List D)
 | [.int i, .int j] => if -(2 ^ 62) <= i /\ i < 2 ^ 62 /\ -(2 ^ 62) <= j /\ j < 2 ^ 62 then some ((List.range (j - i).toNat).map fun k : Nat => D.int (i + k)) else none
 | _ => none
def zu2 (g : List D -> Option (List D)) (fr : zw4) : zw4 := fun ρ => (fr ρ).bind g
theorem zcW (hg : zwU X "range") (hm : X.mg "range" = none) (h : DA J X [a] fr) (hs : starEach [a] X.env = [(false, eval a X.env)] := by rfl) : DI J X tg (.Call (.Name "range" p) [a] [] pos) (zu2 zgY fr) := ⟨(zlG hg hm h.1 hs).imp fun σ H R => by
 rintro ⟨G₀, H₀, G, ρ, ds, A, h, k⟩
 unfold zu2 at h
 obtain ⟨d, hd, h⟩ := oBd h
 refine ⟨G₀, H₀, G, ρ, d, A, hd, fun v G' H' s r => ?_⟩
 unfold zgY at h
 split at h
 ·split at h
  ·rename_i hz
   cases h
   obtain ⟨v, rfl, r1⟩ := r.one
   cases r1.int_inv
   exact ⟨_, rfl, hz.1, hz.2, k _ G' H' s zjW⟩
  ·cases h
 ·cases h⟩
theorem zmC (hg : zwU X "range") (hm : X.mg "range" = none) (h : DA J X [a, b] fr) (hs : starEach [a, b] X.env = [(false, eval a X.env), (false, eval b X.env)] := by rfl) (hs2 : starEach [b] X.env = [(false, eval b X.env)] := by rfl) : DI J X tg (.Call (.Name "range" p) [a, b] [] pos) (zu2 zpk fr) := ⟨(zlF hg hm h.1 hs hs2).imp fun σ H R => by
 rintro ⟨G₀, H₀, G, ρ, ds, A, h, k⟩
 unfold zu2 at h
 obtain ⟨d, hd, h⟩ := oBd h
 refine ⟨G₀, H₀, G, ρ, d, A, hd, fun v G' H' s r => ?_⟩
 unfold zpk at h
 split at h
 ·split at h
  ·rename_i hz
   cases h
   obtain ⟨v, u, rfl, r1, r2⟩ := r.two
   cases r1.int_inv
   cases r2.int_inv
   exact ⟨_, _, rfl, hz, k _ G' H' s zjW⟩
  ·cases h
 ·cases h⟩
abbrev zwL := D -> zaV -> Option zaV
abbrev zvV := List D -> zaV -> Option zaV
def zvv (J : Cn) (K : PySem.W.Frag) (g : zwL) : zwF := fun v σ H Q => ∃ G₀ H₀ G ρ d ρ', At J K G₀ H₀ G H ρ σ /\ Rep J K G v d /\ g d ρ = some ρ' /\ ∀ σ', At J K G₀ H₀ G H ρ' σ' -> Q σ' H
def ztT (J : Cn) (K : PySem.W.Frag) (g : zvV) : zvo := fun vs σ H Q => ∃ G₀ H₀ G ρ ds ρ', At J K G₀ H₀ G H ρ σ /\ Reps J K G vs ds /\ g ds ρ = some ρ' /\ ∀ σ', At J K G₀ H₀ G H ρ' σ' -> Q σ' H
structure DG (J : Cn) (X : Cx) (tg : Expr) (g : zwL) : Prop where
 pg : zwt X tg (zvv J X.K g)
 no : ∀ d ρ ρ', g d ρ = some ρ' -> zd3 ρ -> zd3 ρ'
structure DGs (J : Cn) (X : Cx) (ts : List Expr) (g : zvV) : Prop where
 pg : zvD X ts (ztT J X.K g)
 no : ∀ d ρ ρ', g d ρ = some ρ' -> zd3 ρ -> zd3 ρ'
theorem zwt.imp {t t' : zwF} (h : zwt X tg t) (i : ∀ v σ H Q, t' v σ H Q -> t v σ H Q) : zwt X tg t' := fun pins s σ H v u Q I r q => h pins s σ H v u Q I r (i _ _ _ _ q)
theorem zvD.imp {ts : List Expr} {t t' : zvo} (h : zvD X ts t) (i : ∀ v σ H Q, t' v σ H Q -> t v σ H Q) : zvD X ts t' := fun pins s σ H v u Q I r q => h pins s σ H v u Q I r (i _ _ _ _ q)
def zaN (i : Nat) : zwL := fun d ρ => some (ρ.set i (some (.sh d)))
theorem zlP {ρ : zaV} {i : Nat} {d : D} (h : zd3 ρ) : zd3 (ρ.set i (some (.sh d))) := fun j ds e => by
 by_cases hj : j = i
 ·subst hj
  rw [List.getElem?_set, if_pos rfl] at e
  split at e <;> cases e
  exact ⟨_, rfl⟩
 ·rw [List.getElem?_set_ne (Ne.symm hj)] at e
  exact h j ds e
theorem zas (i : Nat) {x : Str} (hN : X.N.Nodup) (hi : X.N[i]? = some x := by rfl) (hx : zvI X.env.scope x := by first | exact Or.inl rfl | exact Or.inr rfl) (hf : X.fn x = true \/ X.env.scope.names.lookup x = some .local := by first | exact .inl rfl | exact .inr rfl | assumption) : DG J X (.Name x pos) (zaN i) := by
 refine ⟨(zpC hN hi hx hf).imp fun v σ H Q => ?_, fun d ρ ρ' e h => ?_⟩
 ·rintro ⟨G₀, H₀, G, ρ, d, ρ', A, r, h, k⟩
  cases h
  exact k _ (A.setSh r)
 ·cases e
  exact zlP h
def zcy : zvV := fun ds ρ => match ds with
 | [] => some ρ
 | _ => none
def zaH (g : zwL) (gs : zvV) : zvV := fun ds ρ => match ds with
 | d :: r => (g d ρ).bind fun ρ' => gs r ρ'
 | _ => none
theorem zdb : DGs J X [] zcy := by
 refine ⟨zpB.imp fun vs σ H Q => ?_, fun d ρ ρ' e h => ?_⟩
 ·rintro ⟨G₀, H₀, G, ρ, ds, ρ', A, r, h, k⟩
  unfold zcy at h
  split at h <;> cases h
  cases r
  exact ⟨rfl, k σ A⟩
 ·unfold zcy at e
  split at e <;> cases e
  exact h
theorem za8 {ts : List Expr} {g : zwL} {gs : zvV} (h1 : DG J X e g) (h2 : DGs J X ts gs) (hs : (assignEach (e :: ts) X.env).map (·.2) = assign e X.env :: (assignEach ts X.env).map (·.2) := by rfl) : DGs J X (e :: ts) (zaH g gs) := by
 refine ⟨(znw h1.pg h2.pg hs).imp fun vs σ H Q => ?_, fun ds ρ ρ' e h => ?_⟩
 ·rintro ⟨G₀, H₀, G, ρ, ds, ρ', A, r, h, k⟩
  unfold zaH at h
  split at h
  ·obtain ⟨ρ1, h1, h⟩ := oBd h
   cases r with
   | cons r1 r2 => exact ⟨_, _, rfl, G₀, H₀, G, ρ, _, ρ1, A, r1, h1, fun σ1 A1 => ⟨G₀, H₀, G, ρ1, _, ρ', A1, r2, h, k⟩⟩
  ·cases h
 ·unfold zaH at e
  split at e
  ·obtain ⟨ρ1, e1, e⟩ := oBd e
   exact h2.no _ _ _ e (h1.no _ _ _ e1 h)
  ·cases e
def zcz (n : Nat) (gs : zvV) : zwL := fun d ρ => match d with
 | .tup ds => if ds.length = n then gs ds ρ else none
 | _ => none
theorem zea {ts : List Expr} {k : Nat} {gs : zvV} {n : Nat} (hc : X.calm = true) (h : DGs J X ts gs) (hn : (assignEach ts X.env).length = n := by rfl) (hst : (assignEach ts X.env).findIdx? (·.1) = none := by rfl) : DG J X (.Tuple ts k pos) (zcz n gs) := by
 refine ⟨(zri hc h.pg hn hst).imp fun v σ H Q => ?_, fun ds ρ ρ' e q => ?_⟩
 ·rintro ⟨G₀, H₀, G, ρ, d, ρ', A, r, h, k⟩
  unfold zcz at h
  split at h
  ·split at h
   ·rename_i hl
    obtain ⟨a, vs, rfl, ha, rv⟩ := r.tup_inv
    exact ⟨a, vs, rfl, .inl (.inl (A.gh _ _ ha)), by rw [rv.length]; exact hl, G₀, H₀, G, ρ, _, ρ', A, rv, h, k⟩
   ·cases h
  ·cases h
 ·unfold zcz at e
  split at e
  ·split at e
   ·exact h.no _ _ _ e q
   ·cases e
  ·cases e
def zfP (g : zwL) (ft : zw1) (fe : zxe) : List D -> zaV -> Option (List D)
 | [], _ => some []
 | x :: xs, ρ => (g x ρ).bind fun ρ1 => (ft ρ1).bind fun b => if b = true then (fe ρ1).bind fun d => (zfP g ft fe xs ρ1).map (d :: ·) else zfP g ft fe xs ρ1
def zev (fv : List (Option Nat)) (ρ : zaV) : zaV := fv.map fun o => o.bind fun j => match ρ[j]? with
 | some (some (.sh d)) => some (.sh d)
 | _ => none
def zaP (fi : zw4) (g : zwL) (ft : zw1) (fe : zxe) (fv : List (Option Nat)) : zw4 := fun ρ => (fi ρ).bind fun xs => if xs.length <= sizeLine then zfP g ft fe xs (zev fv ρ) else none
structure DTs (J : Cn) (X : Cx) (es : List Expr) (f : zw1) : Prop where
 out : zvA X es (zvp J X.K f)
theorem zvA.imp {t t' : zwT} (h : zvA X es t) (i : ∀ σ H Q, t' σ H Q -> t σ H Q) : zvA X es t' := fun pins s σ H Q I q => h pins s σ H Q I (i _ _ _ q)
def zw5 : zw1 := fun _ => some true
theorem zaJ : DTs J X [] zw5 := ⟨zpp.imp fun σ H Q => by
 rintro ⟨G₀, H₀, G, ρ, b, A, h, k⟩
 cases h
 exact k G H (.refl A.gh)⟩
theorem zmr {ft : zw1} (h : DT J X c ft) : DTs J X [c] ft := ⟨zpo h.1⟩
variable {scope : Scope} {N' : List Str} {fv : List (Option Nat)} {g : zwL} {ft : zw1} {fe : zxe} {ifs : List Expr} {elt : Expr}
structure DB (J : Cn) (X : Cx) (N' : List Str) (scope : Scope) (tg : Expr) (ifs : List Expr) (elt : Expr) (g : zwL) (ft : zw1) (fe : zxe) : Prop where
 out : ∀ (cl : List (Str × Addr)) (C : Addr) (s₀ : Shared) (H₀ : zxg) (fp : List Addr), DG J (zc0 X N' scope cl C s₀ H₀ fp) tg g /\ DTs J (zc0 X N' scope cl C s₀ H₀ fp) ifs ft /\ DE J (zc0 X N' scope cl C s₀ H₀ fp) elt fe
theorem DB.pb (h : DB J X N' scope tg ifs elt g ft fe) : zwe X N' scope tg ifs elt (zvv J X.K g) (zvp J X.K ft) (zwX J X.K fe) := fun cl C s₀ H₀ fp => ⟨(h.1 cl C s₀ H₀ fp).1.pg, (h.1 cl C s₀ H₀ fp).2.1.1, (h.1 cl C s₀ H₀ fp).2.2.1⟩
theorem zoD {K : PySem.W.Frag} {G₀ H₀ G H : zxg} {ρ : zaV} {σ : zxd} (A : At J K G₀ H₀ G H ρ σ) : At J K G H G H (zev fv ρ) (zml fv σ) /\ zd3 (zev fv ρ) := by
 have no : zd3 (zev fv ρ) := fun i ds e => by
  unfold zev at e
  rw [List.getElem?_map] at e
  obtain ⟨o, ho, e⟩ := oMd e
  cases o with
  | none => cases e
  | some j =>
   simp only [Option.bind_some] at e
   split at e <;> cases e
   exact ⟨_, rfl⟩
 refine ⟨⟨.refl A.gh, .ofSh (by simp [zev, zml]) no fun i d e => ?_⟩, no⟩
 unfold zev at e
 unfold zml
 rw [List.getElem?_map] at e ⊢
 obtain ⟨o, ho, e⟩ := oMd e
 rw [ho]
 cases o with
 | none => cases e
 | some j =>
  simp only [Option.bind_some] at e
  split at e
  ·rename_i d' hd'
   cases e
   obtain ⟨v, h1, h2⟩ := A.env.sh j d hd'
   exact ⟨v, by simp [h1], h2⟩
  ·cases e
theorem zku (no : ∀ d ρ ρ', g d ρ = some ρ' -> zd3 ρ -> zd3 ρ') : ∀ σ H Q, zvs J X.K (zaP fi g ft fe fv) σ H Q -> zud (zvu J X.K fi) (zvv J X.K g) (zvp J X.K ft) (zwX J X.K fe) fv σ H Q := by
 rintro σ H Q ⟨G₀, H₀, G, ρ, ds, A, h, k⟩
 unfold zaP at h
 obtain ⟨xs, hx, h⟩ := oBd h
 split at h
 case isFalse => cases h
 rename_i hz
 refine ⟨G₀, H₀, G, ρ, xs, A, hx, fun zxi G1 H1 s1 Y acc hacc => ?_⟩
 have gacc : G1 acc = none := s1.gh.free hacc
 obtain ⟨A0, no0⟩ := zoD (fv := fv) (A.step s1)
 refine ⟨fun i m ys σ' H' => m = xs.length - i /\ i <= xs.length /\ ys.length <= i /\ ∃ G' ρ' done zcM, At J X.K G1 H1 G' H' ρ' σ' /\ zd3 ρ' /\ H' acc = some (.lst ys) /\ G' acc = none /\ Reps J X.K G' ys done /\ zfP g ft fe (xs.drop i) ρ' = some zcM /\ done ++ zcM = ds, ?_, ?_⟩
 ·refine ⟨xs.length, rfl, Nat.zero_le _, Nat.le_refl _, G1, zev fv ρ, [], ds, ?_, no0, zaB, gacc, .nil, by rw [List.drop_zero]; exact h, rfl⟩
  have sn := Step.newOwn (o := .lst []) s1.gh hacc
  exact ⟨sn, .ofSh A0.env.len no0 A0.env.sh⟩
 ·rintro i m ys σ' H' ⟨hm, hi, hyi, G', ρ', done, zcM, A', no', hacc', gacc', ry, hr, hd⟩
  subst hm
  refine ⟨hacc', ?_⟩
  by_cases hlt : i < xs.length
  ·right
   have hxi : xs[i]? = some xs[i] := by simp [hlt]
   obtain ⟨go, yl⟩ := Y.go i _ G' H' hxi A'.st.gg A'.gh
   refine ⟨go, fun x H2 hy => ?_⟩
   obtain ⟨G2, s2, r2⟩ := yl x H2 hy
   have A2 := A'.step s2
   have hdr : xs.drop i = xs[i] :: xs.drop (i + 1) := List.drop_eq_getElem_cons hlt
   rw [hdr] at hr
   unfold zfP at hr
   obtain ⟨ρ1, h1, hr⟩ := oBd hr
   obtain ⟨b, h2, hr⟩ := oBd hr
   refine ⟨G1, H1, G2, ρ', _, ρ1, A2, r2, h1, fun σ2 A3 => ⟨G1, H1, G2, ρ1, b, A3, h2, fun G4 H4 s4 => ?_⟩⟩
   have no1 := no _ _ _ h1 no'
   have hH4 : H4 acc = some (.lst ys) := s4.hh _ _ (s2.hh _ _ hacc')
   have hG4 : G4 acc = none := (s4.out _ _ (s2.hh _ _ hacc')).trans ((s2.out _ _ hacc').trans gacc')
   cases b with
   | false =>
    rw [if_neg Bool.false_ne_true] at hr
    refine zqd ⟨xs.length - (i + 1), by omega, rfl, hlt, by omega, G4, ρ1, done, zcM, A3.step s4, no1, hH4, hG4, (ry.mono s2.gg).mono s4.gg, hr, hd⟩
   | true =>
    rw [if_pos rfl] at hr
    obtain ⟨d, h3, hr⟩ := oBd hr
    obtain ⟨zs, h5, rfl⟩ := oMd hr
    refine zqc ⟨G1, H1, G4, ρ1, d, A3.step s4, h3, fun v G5 H5 s5 r5 => ?_⟩
    have A5 := (A3.step s4).step s5
    have hH5 : H5 acc = some (.lst ys) := s5.hh _ _ hH4
    have hG5 : G5 acc = none := (s5.out _ _ hH4).trans hG4
    refine ⟨hH5, by omega, xs.length - (i + 1), by omega, rfl, hlt, by rw [List.length_append, List.length_singleton]; omega, G5, ρ1, done ++ [d], zs, ?_, no1, zaB, hG5, ((((ry.mono s2.gg).mono s4.gg).mono s5.gg).append (.cons r5 .nil)), h5, by rw [List.append_assoc]; exact hd⟩
    refine ⟨⟨fun b o e => ?_, A5.st.gg, fun b o e => ?_, A5.st.out⟩, .ofSh A5.env.len no1 A5.env.sh⟩
    ·rw [zaz (zaq e hacc)]; exact A5.st.hh b o e
    ·rw [zaz (zaq e hG5)]; exact A5.st.gh b o e
  ·left
   have e : i = xs.length := by omega
   subst e
   rw [List.drop_length] at hr
   cases hr
   rw [List.append_nil] at hd
   subst hd
   refine ⟨Y.stop G' H' A'.st.gg A'.gh, ?_⟩
   have hf : H' = zt0 (fun b => if b = acc then none else H' b) acc (.lst ys) := by
    funext b
    by_cases hb : b = acc
    ·subst hb; rw [zaB]; exact hacc'
    ·rw [zaz hb, if_neg hb]
   rw [hf]
   refine k acc ys G' (fun b => if b = acc then none else H' b) (s1.trans ⟨fun b o e => ?_, A'.st.gg, fun b o e => ?_, A'.st.out⟩) (if_pos rfl) ry
   ·show (if b = acc then none else H' b) = some o
    rw [if_neg (zaq e hacc)]; exact A'.st.hh b o e
   ·show (if b = acc then none else H' b) = some o
    rw [if_neg (zaq e gacc')]; exact A'.st.gh b o e
theorem zb4 (hc : X.calm = true) (S : CompScope X scope) (F : FvOk X N' scope fv) (hi : DI J X tg iter fi) (hb : DB J X N' scope tg ifs elt g ft fe) (hs : ∀ x, foldedSetIterable iter X.env x = pure x := by intro _; rfl) :
  DO J X (.ListComp elt [⟨tg, iter, ifs, 0⟩] scope pos) (zaP fi g ft fe fv) := ⟨(zrp hc S F hi.1 hb.pb hs).imp (zku (hb.1 [] 0 X.s₀ X.H₀ []).1.no)⟩
end
end L2
end
section
namespace L2
open PySem PySem.Spec PyProof.Rows
section
variable {J : Cn} {X : Cx} {a b c e tg iter : Expr} {es : List Expr} {fa fb fc f : zxe} {fr fi : zw4} {pos p2 p : Pos} {g g' : zxa} {st : Stmt} {sts : List Stmt} {ft : zw1}
def zbH : zxa := fun ρ => some (.nx, ρ)
def zaC (g g' : zxa) : zxa := fun ρ => (g ρ).bind fun r => match r.1 with
 | .nx => g' r.2
 | zxc => some (zxc, r.2)
theorem zaE : DSs J X [] zbH := ⟨zpt.imp fun E σ H => by
 rintro ⟨G₀, H₀, G, ρ, zxc, ρ', A, h, k⟩
 cases h
 exact k σ G H (.refl _) A⟩
theorem zal (h : DS J X st g) : DSs J X [st] g := ⟨zps h.1⟩
theorem zaf (h1 : DS J X st g) (h2 : DSs J X sts g') : DSs J X (st :: sts) (zaC g g') := ⟨(znr h1.1 h2.1).imp fun E σ H => by
 rintro ⟨G₀, H₀, G, ρ, zxc, ρ', A, h, k⟩
 unfold zaC at h
 obtain ⟨⟨fl1, ρ1⟩, h1, h⟩ := oBd h
 refine ⟨G₀, H₀, G, ρ, fl1, ρ1, A, h1, fun σ1 G1 H1 sm A1 => ?_⟩
 cases fl1 with
 | nx => exact ⟨G₀, H₀, G1, ρ1, zxc, ρ', A1, h, fun σ' G' H' sm' A' => k σ' G' H' (sm.trans sm') A'⟩
 | bk => cases h; exact k σ1 G1 H1 sm A1
 | ct => cases h; exact k σ1 G1 H1 sm A1
 | rt d => cases h; exact k σ1 G1 H1 sm A1
 | ow d => cases h; exact k σ1 G1 H1 sm A1
 | nw d => cases h; exact k σ1 G1 H1 sm A1
 | od d => cases h; exact k σ1 G1 H1 sm A1⟩
def za5 (f : zxe) : zxa := fun ρ => (f ρ).map fun d => (.rt d, ρ)
theorem zax (h : DE J X e f) : DS J X (.Return (some e) pos) (za5 f) := ⟨(zlD h.1).imp fun E σ H => by
 rintro ⟨G₀, H₀, G, ρ, zxc, ρ', A, h, k⟩
 unfold za5 at h
 obtain ⟨d, hd, h⟩ := oMd h
 cases h
 exact ⟨G₀, H₀, G, ρ, d, A, hd, fun v G' H' s r => k σ G' H' s.gg (A.step s) v r⟩⟩
def zbs (i : Nat) (f : zxe) : zxa := fun ρ => (f ρ).map fun d => (.nx, ρ.set i (some (.sh d)))
theorem zaZ (i : Nat) {x : Str} {pos' : Pos} (hN : X.N.Nodup) (h : DE J X e f) (hi : X.N[i]? = some x := by rfl) (hx : zvI X.env.scope x := by first | exact Or.inl rfl | exact Or.inr rfl) (hs : swapsWith e (some (.Name x pos')) pos.line X.env = pure false := by rfl) (hf : X.fn x = true \/ X.env.scope.names.lookup x = some .local := by first | exact .inl rfl | exact .inr rfl | assumption) :
  DS J X (.Assign [.Name x pos'] e pos) (zbs i f) := ⟨(zlC hN hi hx h.1 hs hf).imp fun E σ H => by
 rintro ⟨G₀, H₀, G, ρ, zxc, ρ', A, h, k⟩
 unfold zbs at h
 obtain ⟨d, hd, h⟩ := oMd h
 cases h
 exact ⟨G₀, H₀, G, ρ, d, A, hd, fun v G' H' s r => k _ G' H' s.gg ((A.step s).setSh r)⟩⟩
def zfv (i : Nat) (f : zw4) : zxa := fun ρ => (f ρ).map fun d => (.nx, ρ.set i (some (.own d)))
theorem zru {i : Nat} : ∀ E σ H, zvq J X.K (zfv i fr) E σ H -> zsj (zvs J X.K fr) (zmk i) E σ H := by
 rintro E σ H ⟨G₀, H₀, G, ρ, zxc, ρ', A, h, k⟩
 unfold zfv at h
 obtain ⟨d, hd, h⟩ := oMd h
 cases h
 exact ⟨G₀, H₀, G, ρ, d, A, hd, fun p vs G' H' s hp r => k _ G' _ s.gg ((A.step s).setOwn hp r)⟩
theorem zdv (i : Nat) {x : Str} {pos' : Pos} (hN : X.N.Nodup) (h : DO J X e fr) (hi : X.N[i]? = some x := by rfl) (hx : zvI X.env.scope x := by first | exact Or.inl rfl | exact Or.inr rfl) (hs : swapsWith e (some (.Name x pos')) pos.line X.env = pure false := by rfl) (hf : X.fn x = true \/ X.env.scope.names.lookup x = some .local := by first | exact .inl rfl | exact .inr rfl | assumption) :
  DS J X (.Assign [.Name x pos'] e pos) (zfv i fr) := ⟨(zlC hN hi hx h.1 hs hf).imp zru⟩
theorem zq1 {i : Nat} : ∀ E σ H, zvq J X.K (zbs i (za6 fr)) E σ H -> zsj (zvs J X.K fr) (zmk i) E σ H := by
 rintro E σ H ⟨G₀, H₀, G, ρ, zxc, ρ', A, h, k⟩
 unfold zbs za6 at h
 obtain ⟨d, hd, h⟩ := oMd h
 obtain ⟨ds, hd', rfl⟩ := oMd hd
 cases h
 refine ⟨G₀, H₀, G, ρ, ds, A, hd', fun p vs G' H' s hp r => ?_⟩
 have s2 := Step.new (o := .lst vs) s.gh hp
 exact k _ _ _ (s.gg.trans s2.gg) (((A.step s).step s2).setSh (.lst zaB (r.mono s2.gg)))
variable {scope : Scope} {N' : List Str} {fv : List (Option Nat)} {gg : zwL} {fe : zxe} {ifs : List Expr} {elt : Expr}
theorem zmt (i : Nat) {y : Str} {py spos : Pos} (hN : X.N.Nodup) (hc : X.calm = true) (S : CompScope X scope) (F : FvOk X N' scope fv) (hi : DI J X tg iter fi) (hb : DB J X N' scope tg ifs elt gg ft fe)
  (hy : X.N[i]? = some y := by rfl) (hyl : X.env.scope.names.lookup y = some .local := by rfl) (hsw : swapsWith (.ListComp elt [⟨tg, iter, ifs, 0⟩] scope pos) (some (.Name y py)) spos.line X.env = pure true := by rfl) (hs : ∀ x, foldedSetIterable iter X.env x = pure x := by intro _; rfl) :
  DS J X (.Assign [.Name y py] (.ListComp elt [⟨tg, iter, ifs, 0⟩] scope pos) spos) (zbs i (za6 (zaP fi gg ft fe fv))) := ⟨(zsF hN hy hyl hc S F hi.1 hb.pb hsw hs).imp fun E σ H q => zku (hb.1 [] 0 X.s₀ X.H₀ []).1.no σ H _ (zq1 E σ H q)⟩
def zdT (i : Nat) (f : zxe) : zxa := fun ρ => match ρ[i]? with
 | some (some (.own ds)) => (f ρ).bind fun d => if ds.length < sizeLine then some (.nx, ρ.set i (some (.own (ds ++ [d])))) else none
 | _ => none
theorem zbI (i : Nat) {x : Str} {vp apos cpos : Pos} (h : DE J X e f) (hN : X.N[i]? = some x := by rfl) (hv : zvn X.env.scope x := by first | exact Or.inl rfl | exact Or.inr (Or.inl rfl) | exact Or.inr (Or.inr rfl)) (hd : (x == ("__debug__" : Str)) = false := by decide)
  (hcd : (x == ("__classdict__" : Str)) = false := by decide)
  (hbase : attributeBase (.Name x vp) "append" X.env (eval (.Name x vp) X.env) = eval (.Name x vp) X.env := by rfl)
  (hfew : ((backTo cpos (starEach [e] X.env)).all (fun x => !x.1) && (backToKw cpos (keywordEach [] X.env)).all (fun x => x.1.isSome)
   && decide ([e].length + ([] : List Keyword).length + (if ([] : List Keyword).isEmpty then 0 else 1) < 30)) = true := by rfl)
  (hline : (apos.endLine == cpos.line) = true := by rfl) (hs : starEach [e] X.env = (false, eval e X.env) :: starEach [] X.env := by rfl) (hplain : (backTo cpos (starEach [] X.env)).any (·.1) = false := by rfl)
  (hsw : swapsWith (.Call (.Attribute (.Name x vp) "append" apos) [e] [] cpos) none pos.line X.env = pure false := by rfl) :
  DS J X (.Expr (.Call (.Attribute (.Name x vp) "append" apos) [e] [] cpos) pos) (zdT i f) := ⟨(zjn (zpH PySem.F.plainAttrs_list PySem.F.slot_list_append PySem.F.type_list_append zgk (zfw hN hv hd hcd) (zdK h.1 zfx hs) hbase hfew hline hs hplain) hsw).imp fun E σ H => by
  rintro ⟨G₀, H₀, G, ρ, zxc, ρ', A, h, k⟩
  unfold zdT at h
  split at h
  ·rename_i ds hi
   obtain ⟨d, hd, h⟩ := oBd h
   split at h
   ·rename_i hz
    cases h
    obtain ⟨a, vs, h1, h2, h3, h4, h5⟩ := A.env.own i ds hi
    refine ⟨.ref a, h1, .inl ⟨rfl, vs, .inl (.inl h4)⟩, G₀, H₀, G, ρ, d, A, hd, fun v G1 H1 s1 r1 => ?_⟩
    have A1 := A.step s1
    refine ⟨a, vs, v, rfl, rfl, s1.hh _ _ h4, by rw [h5.length]; exact hz, ?_⟩
    exact k σ G1 _ s1.gg (A1.chOwn hi h1 ((h5.mono s1.gg).append (.cons r1 .nil)))
   ·cases h
  ·cases h⟩
def zie (i : Nat) (g : zxa) : zxa := fun ρ => match ρ[i]? with
 | some (some (.own ds)) => g (ρ.set i (some (.sh (.lst ds))))
 | _ => none
theorem zvq.frz (i : Nat) : ∀ E σ H, zvq J X.K (zie i g) E σ H -> zvq J X.K g E σ H := by
 rintro E σ H ⟨G₀, H₀, G, ρ, zxc, ρ', A, h, k⟩
 unfold zie at h
 split at h
 ·rename_i ds hi
  obtain ⟨G', sm, A'⟩ := A.freeze hi
  exact ⟨G₀, H₀, G', _, zxc, ρ', A', h, fun σ1 G1 H1 sm1 A1 => k σ1 G1 H1 (sm.trans sm1) A1⟩
 ·cases h
theorem zc9 (i : Nat) (h : DSs J X sts g) : DSs J X sts (zie i g) := ⟨h.1.imp (zvq.frz i)⟩
def zuw (ft : zw1) (g g' : zxa) : zxa := fun ρ => (ft ρ).bind fun c => if c = true then g ρ else g' ρ
theorem zbj {sa sb : List Stmt} (hc : DT J X c ft) (ha : DSs J X sa g) (hb : DSs J X sb g') : DS J X (.If c sa sb pos) (zuw ft g g') := ⟨(zsG hc.1 ha.1 hb.1).imp fun E σ H => by
 rintro ⟨G₀, H₀, G, ρ, zxc, ρ', A, h, k⟩
 unfold zuw at h
 obtain ⟨x, hx, h⟩ := oBd h
 refine ⟨G₀, H₀, G, ρ, x, A, hx, fun G1 H1 s1 => ?_⟩
 cases x with
 | true => exact zqc ⟨G₀, H₀, G1, ρ, zxc, ρ', A.step s1, by simpa using h, fun σ2 G2 H2 sm2 A2 => k σ2 G2 H2 (s1.gg.trans sm2) A2⟩
 | false => exact zqd ⟨G₀, H₀, G1, ρ, zxc, ρ', A.step s1, by simpa using h, fun σ2 G2 H2 sm2 A2 => k σ2 G2 H2 (s1.gg.trans sm2) A2⟩⟩
def zkn (gg : zwL) (body : zxa) : List D -> zxa
 | [], ρ => some (.nx, ρ)
 | x :: xs, ρ => (gg x ρ).bind fun ρ1 => (body ρ1).bind fun r => match r.1 with
  | .nx => zkn gg body xs r.2
  | .ct => zkn gg body xs r.2
  | .bk => some (.nx, r.2)
  | .rt d => some (.rt d, r.2)
  | .ow d => some (.ow d, r.2)
  | .nw d => some (.nw d, r.2)
  | .od d => some (.od d, r.2)
def zde (fi : zw4) (gg : zwL) (body : zxa) : zxa := fun ρ => (fi ρ).bind fun xs => zkn gg body xs ρ
theorem zcv {body : List Stmt} (hp : PassesOwn (model X.prog X.w) X.A X.env X.xe) (hc : X.calm = true) (hi : DI J X tg iter fi) (hg : DG J X tg gg) (hb : DSs J X body g) (hs : ∀ x, foldedSetIterable iter X.env x = pure x := by intro _; rfl) :
  DS J X (.For tg iter body [] pos) (zde fi gg g) := ⟨(zrd hp hc hi.1 hg.pg hb.1 hs).imp fun E σ H => by
 rintro ⟨G₀, H₀, G, ρ, zxc, ρ', A, h, k⟩
 unfold zde at h
 obtain ⟨xs, hx, h⟩ := oBd h
 refine ⟨G₀, H₀, G, ρ, xs, A, hx, fun zxi G1 H1 s1 Y => ?_⟩
 refine ⟨fun i m σ' H' => m = xs.length - i /\ i <= xs.length /\ ∃ G' ρ1, zb5 G1 G' /\ At J X.K G₀ H₀ G' H' ρ1 σ' /\ zkn gg g (xs.drop i) ρ1 = some (zxc, ρ'), ⟨xs.length, rfl, Nat.zero_le _, G1, ρ, .refl _, A.step s1, by rw [List.drop_zero]; exact h⟩, ?_⟩
 rintro i m σ' H' ⟨rfl, hi, G', ρ1, sm, A', hr⟩
 by_cases hlt : i < xs.length
 ·right
  have hxi : xs[i]? = some xs[i] := by simp [hlt]
  obtain ⟨go, yl⟩ := Y.go i _ G' H' hxi sm A'.gh
  have hdr : xs.drop i = xs[i] :: xs.drop (i + 1) := List.drop_eq_getElem_cons hlt
  rw [hdr] at hr
  unfold zkn at hr
  obtain ⟨ρ2, h2, hr⟩ := oBd hr
  obtain ⟨⟨fl3, ρ3⟩, h3, hr⟩ := oBd hr
  refine ⟨go, fun σ3 H3 => (fl3 = .nx \/ fl3 = .ct) /\ ∃ G3, zb5 G1 G3 /\ At J X.K G₀ H₀ G3 H3 ρ3 σ3, fun σ3 H3 ⟨hfl, G3, sm3, A3⟩ => ?_, fun x H2 hy => ?_⟩
  ·refine ⟨xs.length - (i + 1), by omega, rfl, hlt, G3, ρ3, sm3, A3, ?_⟩
   rcases hfl with e | e <;> subst e <;> exact hr
  ·obtain ⟨G2, s2, r2⟩ := yl x H2 hy
   refine ⟨G₀, H₀, G2, ρ1, _, ρ2, A'.step s2, r2, h2, fun σ2 A2 => ⟨G₀, H₀, G2, ρ2, fl3, ρ3, A2, h3, fun σ3 G3 H3 sm3 A3 => ?_⟩⟩
   have smm : zb5 G1 G3 := (sm.trans s2.gg).trans sm3
   cases fl3 with
   | nx => exact ⟨.inl rfl, G3, smm, A3⟩
   | ct => exact ⟨.inr rfl, G3, smm, A3⟩
   | bk => cases hr; exact k σ3 G3 H3 (s1.gg.trans smm) A3
   | rt d => cases hr; exact k σ3 G3 H3 (s1.gg.trans smm) A3
   | ow d => cases hr; exact k σ3 G3 H3 (s1.gg.trans smm) A3
   | nw d => cases hr; exact k σ3 G3 H3 (s1.gg.trans smm) A3
   | od d => cases hr; exact k σ3 G3 H3 (s1.gg.trans smm) A3
 ·left
  have e : i = xs.length := by omega
  subst e
  rw [List.drop_length] at hr
  cases hr
  exact ⟨Y.stop G' H' sm A'.gh, k σ' G' H' (s1.gg.trans sm) A'⟩⟩
end
end L2
end
section
namespace L2
open PySem PySem.Spec PyProof.Rows
section
variable {J : Cn} {X : Cx} {a b c e tg iter : Expr} {es : List Expr} {fa fb fc f fk fw : zxe} {fr fi : zw4} {pos p2 p : Pos}
def zut (J : Cn) (K : PySem.W.Frag) (n : Nat) (F : List D -> Option D) : zwI := fun vs H Q _ => ∃ G ds d, zb5 G H /\ Reps J K G vs ds /\ ds.length = n /\ F ds = some d /\ ∀ v G' H', Step G H G' H' -> Rep J K G' v d -> Q v H'
def zb3 (n : Nat) (g : zxa) : List D -> Option D := fun ds => (g (ds.map (fun d => some (Slot.sh d)) ++ List.replicate n none)).bind fun r => match r.1 with
 | .rt d => some d
 | .nx => some .non
 | _ => none
theorem zf4 {K : PySem.W.Frag} {G H : zxg} {vs : List V} {ds : List D} {N : List Str} {m : Nat} (gh : zb5 G H) (r : Reps J K G vs ds) (hm : m = N.length - vs.length) : At J K G H G H (ds.map (fun d => some (Slot.sh d)) ++ List.replicate m none) (zeI N vs) := by
 have no : zd3 (ds.map (fun d => some (Slot.sh d)) ++ List.replicate m none) := fun i es e => by
  by_cases hi : i < ds.length
  ·rw [List.getElem?_append_left (by simpa using hi), List.getElem?_map] at e
   obtain ⟨d, _, e⟩ := oMd e
   cases e
   exact ⟨_, rfl⟩
  ·rw [List.getElem?_append_right (by simpa using hi), List.getElem?_replicate] at e
   split at e <;> cases e
 refine ⟨.refl gh, .ofSh (by simp [zeI, r.length, hm]) no fun i d e => ?_⟩
 by_cases hi : i < ds.length
 ·rw [List.getElem?_append_left (by simpa using hi), List.getElem?_map] at e
  obtain ⟨d', hd, e⟩ := oMd e
  cases e
  obtain ⟨v, hv, rv⟩ := r.get hd
  refine ⟨v, ?_, rv⟩
  unfold zeI
  rw [List.getElem?_append_left (by rw [List.length_map, r.length]; exact hi), List.getElem?_map, hv]
  rfl
 ·rw [List.getElem?_append_right (by simpa using hi), List.getElem?_replicate] at e
  split at e <;> cases e
theorem Fun.okD {P : Program} {w : World} {K : PySem.W.Frag} {mg : Str -> Option Value} {base : Heap} {x qual : Str} {st : Stmt} {f : Addr} {fd : FuncData} {N ps : List Str} {k : Nat} {g : zxa} (F : Fun K x qual st f fd) (S : FnScope N ps (zag st))
  (hbody : ∀ (cdv : Value) (A : Around) (outer : List Env) (s : Shared) (H : zxg) (E : zwV), Room k (A.deeper (envOfC qual (zag st) s.heap.objs.size f cdv)) ->
   DSs J (zih zvX P w K mg base N qual (zag st) f cdv A outer s H E).nox (zaX st) g) : FnOk P w K mg base zvX (k + 1) f fd ps (zut J K ps.length (zb3 (N.length - ps.length) g)) := by
 refine F.ok S (fun vs H Q E h => ?_) (fun cdv A outer s H vs Q E hr h => ?_)
 ·obtain ⟨G, ds, d, _, r, hl, _⟩ := h
  rw [r.length, hl]
 ·obtain ⟨G, ds, d, gh, r, hl, hd, k⟩ := h
  refine ⟨_, (hbody cdv A outer s H E hr).1, ?_⟩
  unfold zb3 at hd
  obtain ⟨⟨zxc, ρ'⟩, hg, hd⟩ := oBd hd
  refine ⟨G, H, G, _, zxc, ρ', zf4 gh r (by rw [r.length, hl]), hg, fun σ' G' H' sm A' => ?_⟩
  cases zxc with
  | rt d' => cases hd; exact fun v rv => k v G' H' A'.st rv
  | nx => cases hd; exact k .non G' H' A'.st .non
  | bk => cases hd
  | ct => cases hd
  | ow d => cases hd
  | nw d => cases hd
  | od d => cases hd
theorem zqt {k : Nat} {fx : Addr} {fd : FuncData} {ps : List Str} {n : Nat} {F : List D -> Option D} {x : Str} (Fo : FnOk X.prog X.w X.K X.mg X.base zvX k fx fd ps (zut J X.K n F)) (hr : Room k X.A) (hg : zwU X x) (hm : X.mg x = some (.ref fx)) (hk : PySem.W.keepIn X.K (.ref fx) = true) (hb : zd4 X.K fd ps [])
  (ha : DA J X (e :: es) fr) (hn : ∀ ρ ds, fr ρ = some ds -> ds.length = n) (hdb : (x == ("__debug__" : Str)) = false := by decide) (he : starEach (e :: es) X.env = (false, eval e X.env) :: starEach es X.env := by rfl) (hpl : (backTo pos (starEach es X.env)).any (·.1) = false := by rfl) :
  DE J X (.Call (.Name x p) (e :: es) [] pos) (zxh F fr) := ⟨(zjq Fo hr hg hm hk hb .nil zjr ha.1 hdb he hpl).imp fun σ H Q => by
 rintro ⟨G₀, H₀, G, ρ, d, A, h, k⟩
 unfold zxh at h
 obtain ⟨ds, hd, h⟩ := oBd h
 refine ⟨G₀, H₀, G, ρ, ds, A, hd, fun vs G1 H1 s1 r1 => ?_⟩
 show zut J X.K n F (vs ++ []) H1 Q zwm
 rw [List.append_nil]
 exact ⟨G1, ds, d, s1.gh, r1, hn ρ ds hd, h, fun v G' H' s r => k v G' H' (s1.trans s) r⟩⟩
theorem zoe {ρ : zaV} {ds : List D} (h : zak ρ = some ds) : ds.length = 0 := by cases h; rfl
theorem zcX {n : Nat} (hn : ∀ ρ ds, fr ρ = some ds -> ds.length = n) : ∀ ρ ds, zab fa fr ρ = some ds -> ds.length = n + 1 := fun ρ ds h => by
 unfold zab at h
 obtain ⟨x, hx, h⟩ := oBd h
 obtain ⟨xs, hxs, rfl⟩ := oMd h
 rw [List.length_cons, hn ρ xs hxs]
end
end L2
end
section
namespace L2
open PySem PySem.Spec PyProof.Rows
structure Cal (J : Cn) (P : Program) (w : World) (K : PySem.W.Frag) (mg : Str -> Option Value) (base : Heap) (x : Str) (n k : Nat) (F : List D -> Option D) : Prop where
 ex : ∃ f fd ps, FnOk P w K mg base zvX k f fd ps (zut J K n F) /\ mg x = some (.ref f) /\ PySem.W.keepIn K (.ref f) = true /\ zd4 K fd ps []
structure Dfn (K : PySem.W.Frag) (mg : Str -> Option Value) (x : Str) (st : Stmt) : Prop where
 ex : ∃ f fd, Fun K x x st f fd /\ mg x = some (.ref f)
section
variable {J : Cn} {X : Cx} {e : Expr} {es : List Expr} {fr : zw4} {pos p : Pos}
theorem zap {x : Str} {n k : Nat} {F : List D -> Option D} (C : Cal J X.prog X.w X.K X.mg X.base x n k F) {j : Nat} (hr : Room j X.A) (hk : k <= j) (hg : zwU X x) (ha : DA J X (e :: es) fr) (hn : ∀ ρ ds, fr ρ = some ds -> ds.length = n)
  (hdb : (x == ("__debug__" : Str)) = false := by decide) (he : starEach (e :: es) X.env = (false, eval e X.env) :: starEach es X.env := by rfl) (hpl : (backTo pos (starEach es X.env)).any (·.1) = false := by rfl) :
  DE J X (.Call (.Name x p) (e :: es) [] pos) (zxh F fr) := by
 obtain ⟨f, fd, ps, h1, h2, h3, h4⟩ := C.ex
 exact zqt h1 (hr.mono hk) hg h2 h3 h4 ha hn hdb he hpl
theorem Dfn.cal {P : Program} {w : World} {K : PySem.W.Frag} {mg : Str -> Option Value} {base : Heap} {x : Str} {st : Stmt} {N ps : List Str} {k : Nat} {g : zxa} (F : Dfn K mg x st) (S : FnScope N ps (zag st))
  (hb : ∀ (zw7 doc pm : Value) (an : Option Addr) (cdv ct : Value) (us : List Value), us.length = ps.length -> bindArgs (PySem.W.fnOf x x (zbN st) (zaX st) (zag st) .none zw7 doc pm an cdv ct) ⟨us, []⟩ = pure (ps.zip us))
  (hbody : ∀ (f : Addr) (cdv : Value) (A : Around) (outer : List Env) (s : Shared) (H : zxg) (E : zwV), Room k (A.deeper (envOfC x (zag st) s.heap.objs.size f cdv)) ->
   DSs J (zih zvX P w K mg base N x (zag st) f cdv A outer s H E).nox (zaX st) g) : Cal J P w K mg base x ps.length (k + 1) (zb3 (N.length - ps.length) g) := by
 obtain ⟨f, fd, h1, h2⟩ := F.ex
 exact ⟨f, fd, ps, h1.okD S (hbody f), h2, h1.kp, h1.binds hb⟩
theorem Dfn.mk' {K : PySem.W.Frag} {h : Heap} {mg : Str -> Option Value} {x : Str} {st : Stmt} {f : Addr} {oc : Value} {od an : Option Addr} {osl : Array (Option Value)} {zw7 doc pm cdv ct : Value} (X : K.In h) (G : h.Ns mainGlobals mg) (a : PySem.W.nsIn K mainGlobals x = some (some (.ref f)))
  (l : K.lookup f = some ⟨oc, od, .func (PySem.W.fnOf x x (zbN st) (zaX st) (zag st) .none zw7 doc pm an cdv ct), osl⟩) (c : PySem.W.codeIn K cdv x = true) (k : PySem.W.keepIn K (.ref f) = true) : Dfn K mg x st :=
 ⟨f, _, zmm l c k, PySem.W.mg_of X G a⟩
def zr8 (names : List (Str × NameKind)) (outer : List (Str × NameKind)) : Bool :=
 names.all fun y => y.2 != .cell && (y.2 != .local || names.lookup y.1 == some .local) && (y.2 != .free || outer.lookup y.1 == some .cell || outer.lookup y.1 == some .free)
theorem CompScope.of {X : Cx} {scope : Scope} (hk : scope.kind = .function) (h : zr8 scope.names X.env.scope.names = true) : CompScope X scope := by
 unfold zr8 at h
 rw [List.all_eq_true] at h
 refine ⟨hk, fun y hy e => ?_, fun y hy e => ?_, fun y hy e => ?_⟩
 ·have := h y hy
  rw [e] at this
  simp at this
 ·have := h y hy
  rw [e] at this
  simpa using this
 ·have := h y hy
  rw [e] at this
  simpa [Env.kindOf] using this
def zrV (N' : List Str) (fv : List (Option Nat)) (N : List Str) (outer names : List (Str × NameKind)) : Bool :=
 fv.length == N'.length && (N'.zip fv).all fun y => match y.2 with
  | none => true
  | some j => N[j]? == some y.1 && (outer.lookup y.1 == some .cell || outer.lookup y.1 == some .free) && names.lookup y.1 == some .free
theorem FvOk.of {X : Cx} {N' : List Str} {scope : Scope} {fv : List (Option Nat)} (h : zrV N' fv X.N X.env.scope.names scope.names = true) : FvOk X N' scope fv := by
 unfold zrV at h
 rw [Bool.and_eq_true, List.all_eq_true] at h
 obtain ⟨h1, h2⟩ := h
 refine ⟨by simpa using h1, fun i j x e1 e2 => ?_⟩
 have hm : (x, some j) ∈ N'.zip fv := by
  refine List.mem_iff_getElem?.mpr ⟨i, ?_⟩
  rw [List.getElem?_zip_eq_some]
  exact ⟨e1, e2⟩
 have := h2 _ hm
 simp only [Bool.and_eq_true, Bool.or_eq_true, beq_iff_eq] at this
 exact ⟨this.1.1, this.1.2, this.2⟩
end
end L2
end
section
namespace L2
open PySem PySem.Spec PyProof.Rows
mutual
def zuD : D -> Option PyData
 | .non => some .none
 | .bl b => some (.bool b)
 | .int i => some (.int i)
 | .str x => some (.str x)
 | .tup l => (zig l).map PyData.tuple
 | .lst l => (zig l).map PyData.list
 | .scr ns => some (.list (ns.map PyData.int))
 | _ => none
def zig : List D -> Option (List PyData)
 | [] => some []
 | d :: r => (zuD d).bind fun p => (zig r).map (p :: ·)
end
section
variable {J : Cn} {X : Cx} {pins : List (Addr × Obj)} {σ : zxd} {G H : zxg} {s : Shared}
theorem zhf {h : Heap} : ∀ {ns : List Int} {us : List Value}, zcb (ns.map V.int) us -> ∃ as, ReadsAll h us (ns.map PyData.int) as
 | [], _, r => by rw [List.map_nil] at r; cases r; exact ⟨_, .nil⟩
 | n :: ns, _, r => by
  rw [List.map_cons] at r
  cases r with
  | cons r1 r2 =>
   obtain ⟨t, e⟩ := r1
   subst e
   obtain ⟨as, q⟩ := zhf r2
   exact ⟨_, .cons (.int n t) q⟩
mutual
theorem Rep.reads (I : Inv X pins σ H s) (gh : zb5 G H) : ∀ {v : V} {d : D} {u : Value} {p : PyData}, Rep J X.K G v d -> zb6 v u -> zuD d = some p -> ∃ as, Reads s.heap u p as
 | _, _, u, p, .non, r, h => by cases r; rw [zuD] at h; cases h; exact ⟨_, .none⟩
 | _, _, u, p, .bl b, r, h => by cases r; rw [zuD] at h; cases h; exact ⟨_, .bool b⟩
 | _, _, u, p, .int i, r, h => by obtain ⟨t, rfl⟩ := r; rw [zuD] at h; cases h; exact ⟨_, .int i t⟩
 | _, _, u, p, .str x, r, h => by obtain ⟨t, rfl⟩ := r; rw [zuD] at h; cases h; exact ⟨_, .str x t⟩
 | _, _, u, p, .ty n, r, h => by rw [zuD] at h; cases h; all_goals (intros; contradiction)
 | _, _, u, p, .tup ha rs, r, h => by
  cases r
  rw [zuD] at h
  obtain ⟨ps, hp, rfl⟩ := oMd h
  obtain ⟨its, rv, ⟨o, e1, e2, n, e3⟩, _⟩ := I.tuple (.inl (.inl (gh _ _ ha)))
  obtain ⟨as, q⟩ := Reps.reads I gh rs rv hp
  exact ⟨_, .tuple e1 e2 e3 (by simpa using q)⟩
 | _, _, u, p, .lst ha rs, r, h => by
  cases r
  rw [zuD] at h
  obtain ⟨ps, hp, rfl⟩ := oMd h
  obtain ⟨its, rv, ⟨o, n, e1, e2, _, e3⟩, _⟩ := I.list (.inl (.inl (gh _ _ ha)))
  obtain ⟨as, q⟩ := Reps.reads I gh rs rv hp
  exact ⟨_, .list e1 e2 e3 (by simpa using q)⟩
 | _, _, u, p, .scr hs, r, h => by
  cases r
  rw [zuD] at h
  cases h
  obtain ⟨its, rv, ⟨o, n, e1, e2, _, e3⟩, _⟩ := I.list (gh.seq hs)
  obtain ⟨as, q⟩ := zhf (h := s.heap) rv
  exact ⟨_, .list e1 e2 e3 (by simpa using q)⟩
 | _, _, u, p, .dk ha _ _, r, h => by rw [zuD] at h; cases h; all_goals (intros; contradiction)
 | _, _, u, p, .dt ha _ _, r, h => by rw [zuD] at h; cases h; all_goals (intros; contradiction)
 | _, _, u, p, .ins ha _ _ _, r, h => by rw [zuD] at h; cases h; all_goals (intros; contradiction)
theorem Reps.reads (I : Inv X pins σ H s) (gh : zb5 G H) : ∀ {vs : List V} {ds : List D} {us : List Value} {ps : List PyData}, Reps J X.K G vs ds -> zcb vs us -> zig ds = some ps -> ∃ as, ReadsAll s.heap us ps as
 | _, _, _, _, .nil, r, h => by cases r; rw [zig] at h; cases h; exact ⟨_, .nil⟩
 | _, _, _, _, .cons r1 r2, r, h => by
  cases r with
  | cons q1 q2 =>
   rw [zig] at h
   obtain ⟨p, hp, h⟩ := oBd h
   obtain ⟨ps, hps, rfl⟩ := oMd h
   obtain ⟨as, a1⟩ := Rep.reads I gh r1 q1 hp
   obtain ⟨bs, a2⟩ := Reps.reads I gh r2 q2 hps
   exact ⟨_, .cons a1 a2⟩
end
end
section
variable {J : Cn} {X : Cx} {a b c e : Expr} {es : List Expr} {fa fb fc f : zxe} {fr : zw4} {pos : Pos}
def zu9 (x y : D) : Option Bool := (zuD x).bind fun p => (zuD y).bind fun q => if SeqAt.shaped p = true /\ SeqAt.shaped q = true then some (PyData.eqv p q) else none
def zpV (x y : D) : Option D := (zu9 x y).map fun b => D.bl (!b)
def zvY (J : Cn) (K : PySem.W.Frag) (neg : Bool) : zwW := fun x y H Q => ∃ G d e b, zb5 G H /\ Rep J K G x d /\ Rep J K G y e /\ zu9 d e = some b /\ Q (.bl (if neg then !b else b)) H
theorem znW {x y : D} {b : Bool} (h : zu9 x y = some b) : ∃ p q, zuD x = some p /\ zuD y = some q /\ SeqAt.shaped p = true /\ SeqAt.shaped q = true /\ b = PyData.eqv p q := by
 unfold zu9 at h
 obtain ⟨p, hp, h⟩ := oBd h
 obtain ⟨q, hq, h⟩ := oBd h
 split at h
 ·rename_i hz
  cases h
  exact ⟨p, q, hp, hq, hz.1, hz.2, rfl⟩
 ·cases h
theorem zrz (hu : X.A.units + 64 < cLine) : zvE X (compareOp .NotEq) (zvY J X.K true) := by
 intro pins s σ H x y v u Q I rx ry h
 obtain ⟨G, d, e, b, gh, r1, r2, hb, q⟩ := h
 obtain ⟨p, q', hp, hq, s1, s2, rfl⟩ := znW hb
 obtain ⟨as, a1⟩ := r1.reads I gh rx hp
 obtain ⟨bs, a2⟩ := r2.reads I gh ry hq
 exact ne_dataH a1 a2 s1 s2 hu ⟨.bl _, H, I, rfl, q⟩
theorem zr9 (hu : X.A.units + 64 < cLine) : CmpD J X .NotEq zpV := ⟨_, zrz (J := J) hu, fun {G H v u x y z} gh r1 r2 h Q k => by
 unfold zpV at h
 obtain ⟨b, hb, rfl⟩ := oMd h
 exact ⟨G, x, y, b, gh, r1, r2, hb, k _ G H (.refl gh) (.bl _)⟩⟩
def zu5 (x y : D) : Option Bool := (zuD x).bind fun p => (zuD y).bind fun q => match q with
 | .list l => if SeqAt.shaped p = true /\ PyData.canLayAll0 l = true then some (l.any fun z => PyData.eqv z p) else none
 | _ => none
def zmh (x y : D) : Option D := (zu5 x y).map D.bl
def zg0 (x y : D) : Option D := (zu5 x y).map fun b => D.bl (!b)
def ztk (J : Cn) (K : PySem.W.Frag) (neg : Bool) : zwW := fun x y H Q => ∃ G d e b, zb5 G H /\ Rep J K G x d /\ Rep J K G y e /\ zu5 d e = some b /\ Q (.bl (if neg then !b else b)) H
theorem zkm {x y : D} {b : Bool} (h : zu5 x y = some b) : ∃ p l, zuD x = some p /\ zuD y = some (.list l) /\ SeqAt.shaped p = true /\ PyData.canLayAll0 l = true /\ b = l.any fun z => PyData.eqv z p := by
 unfold zu5 at h
 obtain ⟨p, hp, h⟩ := oBd h
 obtain ⟨q, hq, h⟩ := oBd h
 split at h
 ·split at h
  ·rename_i hz
   cases h
   exact ⟨p, _, hp, hq, hz.1, hz.2, rfl⟩
  ·cases h
 ·cases h
theorem zhe {p : PyData} (h : SeqAt.shaped p = true) : p.canLay0 = true /\ p.depth <= 64 := by
 unfold SeqAt.shaped at h
 rw [Bool.and_eq_true] at h
 exact ⟨h.1, of_decide_eq_true h.2⟩
theorem zrC (hu : X.A.units + 66 < cLine) : zvE X (compareOp .In) (ztk J X.K false) := by
 intro pins s σ H x y v u Q I rx ry h
 obtain ⟨G, d, e, b, gh, r1, r2, hb, q⟩ := h
 obtain ⟨p, l, hp, hq, s1, s2, rfl⟩ := zkm hb
 obtain ⟨as, a1⟩ := r1.reads I gh rx hp
 obtain ⟨bs, a2⟩ := r2.reads I gh ry hq
 obtain ⟨c1, c2⟩ := zhe s1
 have := Nat.min_le_right (PyData.depthAll l) p.depth
 exact SeqAt.in_list_reads a2 a1 s2 c1 (by omega) ⟨.bl _, H, I, rfl, q⟩
theorem zpK (hu : X.A.units + 66 < cLine) : zvE X (compareOp .NotIn) (ztk J X.K true) := by
 intro pins s σ H x y v u Q I rx ry h
 obtain ⟨G, d, e, b, gh, r1, r2, hb, q⟩ := h
 obtain ⟨p, l, hp, hq, s1, s2, rfl⟩ := zkm hb
 obtain ⟨as, a1⟩ := r1.reads I gh rx hp
 obtain ⟨bs, a2⟩ := r2.reads I gh ry hq
 obtain ⟨c1, c2⟩ := zhe s1
 have := Nat.min_le_right (PyData.depthAll l) p.depth
 exact SeqAt.notIn_list_reads a2 a1 s2 c1 (by omega) ⟨.bl _, H, I, rfl, q⟩
theorem zoP (hu : X.A.units + 66 < cLine) : CmpD J X .In zmh := ⟨_, zrC (J := J) hu, fun {G H v u x y z} gh r1 r2 h Q k => by
 unfold zmh at h
 obtain ⟨b, hb, rfl⟩ := oMd h
 exact ⟨G, x, y, b, gh, r1, r2, hb, k _ G H (.refl gh) (.bl _)⟩⟩
theorem zmP (hu : X.A.units + 66 < cLine) : CmpD J X .NotIn zg0 := ⟨_, zpK (J := J) hu, fun {G H v u x y z} gh r1 r2 h Q k => by
 unfold zg0 at h
 obtain ⟨b, hb, rfl⟩ := oMd h
 exact ⟨G, x, y, b, gh, r1, r2, hb, k _ G H (.refl gh) (.bl _)⟩⟩
theorem zi8 {k : Nat} (hr : Room k X.A) : X.A.units + 66 < cLine := by have := hr.un; omega
theorem znR {k : Nat} (hr : Room k X.A) : X.A.units + 64 < cLine := by have := hr.un; omega
def zjC (d : D) : Bool := match d with
 | .non => true
 | _ => false
def zgt (x y : D) : Option D := match y with
 | .non => some (.bl (!zjC x))
 | _ => none
theorem zkM {K : PySem.W.Frag} {G : zxg} {v : V} {d : D} (r : Rep J K G v d) : decide (v = .non) = zjC d := by
 cases r <;> simp [zjC]
theorem zkx : CmpD J X .IsNot zgt := ⟨_, zpJ, fun {G H v u x y z} gh r1 r2 h Q k => by
 unfold zgt at h
 split at h <;> cases h
 exact ⟨r2.non_inv, by rw [zkM r1]; exact k _ G H (.refl gh) (.bl _)⟩⟩
end
end L2
end
section
namespace L2
open PySem PySem.Spec PyProof.Rows
section
variable {J : Cn} {X : Cx} {a b c e o i : Expr} {es : List Expr} {fa fb fc f fo fk fx : zxe} {fr fi : zw4} {pos p apos cpos : Pos} {ft : zw1} {g : zxa} {x : Str}
def zvg (i : Nat) (ft : zw1) : zw1 := fun ρ => match ρ[i]? with
 | some (some (.own ds)) => ft (ρ.set i (some (.sh (.lst ds))))
 | _ => none
theorem Step.back {G G1 G' H H' : zxg} (gh : zb5 G H) (s1 : zb5 G G1) (s : Step G1 H G' H') : Step G H G H' := ⟨s.hh, .refl _, (s1.trans s.gg).trans s.gh, fun _ _ _ => rfl⟩
theorem znY (i : Nat) (h : DT J X c ft) : DT J X c (zvg i ft) := ⟨h.1.imp fun σ H Q => by
 rintro ⟨G₀, H₀, G, ρ, b, A, h, k⟩
 unfold zvg at h
 split at h
 ·rename_i ds hi
  obtain ⟨G1, sm, A1⟩ := A.freeze hi
  exact ⟨G₀, H₀, G1, _, b, A1, h, fun G' H' s => k G H' (s.back A.gh sm)⟩
 ·cases h⟩
theorem Rep.flat {K : PySem.W.Frag} {G G' : zxg} {v : V} {d : D} (r : Rep J K G v d) (h : zd0 d = true) : Rep J K G' v d := by
 cases r with
 | non => exact .non
 | bl b => exact .bl b
 | int i => exact .int i
 | str x => exact .str x
 | _ => cases h
def zqG (i : Nat) (f : zxe) : zxa := fun ρ => match ρ[i]? with
 | some (some (.own ds)) => (f ρ).bind fun d => match d with
  | .lst l => if ds.length + l.length <= sizeLine then some (.nx, ρ.set i (some (.own (ds ++ l)))) else none
  | _ => none
 | _ => none
theorem zmu (i : Nat) {vp : Pos} (h : DE J X e f) (hN : X.N[i]? = some x := by rfl) (hv : zvn X.env.scope x := by first | exact Or.inl rfl | exact Or.inr (Or.inl rfl) | exact Or.inr (Or.inr rfl)) (hd : (x == ("__debug__" : Str)) = false := by decide)
  (hcd : (x == ("__classdict__" : Str)) = false := by decide)
  (hbase : attributeBase (.Name x vp) "extend" X.env (eval (.Name x vp) X.env) = eval (.Name x vp) X.env := by rfl)
  (hfew : ((backTo cpos (starEach [e] X.env)).all (fun x => !x.1) && (backToKw cpos (keywordEach [] X.env)).all (fun x => x.1.isSome)
   && decide ([e].length + ([] : List Keyword).length + (if ([] : List Keyword).isEmpty then 0 else 1) < 30)) = true := by rfl)
  (hline : (apos.endLine == cpos.line) = true := by rfl) (hs : starEach [e] X.env = (false, eval e X.env) :: starEach [] X.env := by rfl) (hplain : (backTo cpos (starEach [] X.env)).any (·.1) = false := by rfl)
  (hsw : swapsWith (.Call (.Attribute (.Name x vp) "extend" apos) [e] [] cpos) none pos.line X.env = pure false := by rfl) :
  DS J X (.Expr (.Call (.Attribute (.Name x vp) "extend" apos) [e] [] cpos) pos) (zqG i f) := ⟨(zjn (zpH PySem.F.plainAttrs_list PySem.F.slot_list_extend PySem.F.type_list_extend zlT (zfw hN hv hd hcd) (zdK h.1 zfx hs) hbase hfew hline hs hplain) hsw).imp fun E σ H => by
  rintro ⟨G₀, H₀, G, ρ, zxc, ρ', A, h, k⟩
  unfold zqG at h
  split at h
  ·rename_i ds hi
   obtain ⟨d, hd, h⟩ := oBd h
   split at h
   ·rename_i l
    split at h
    ·rename_i hz
     cases h
     obtain ⟨a, vs, h1, h2, h3, h4, h5⟩ := A.env.own i ds hi
     refine ⟨.ref a, h1, .inl ⟨rfl, vs, .inl (.inl h4)⟩, G₀, H₀, G, ρ, _, A, hd, fun v G1 H1 s1 r1 => ?_⟩
     have A1 := A.step s1
     obtain ⟨b, us, rfl, hb, rb⟩ := r1.lst_inv
     refine ⟨a, b, vs, us, rfl, rfl, s1.hh _ _ h4, s1.gh _ _ hb, by rw [h5.length, rb.length]; exact hz, ?_⟩
     exact k σ G1 _ s1.gg (A1.chOwn hi h1 ((h5.mono s1.gg).append rb))
    ·cases h
   ·cases h
  ·cases h⟩
def znP : List D -> Option D
 | [.int i] => some (.int i)
 | [.bl k] => some (.int (if k then 1 else 0))
 | _ => none
theorem zof : TyD J X "int" znP := ⟨_, zmS, fun {G H vs ds z} gh r h Q k => by
 unfold znP at h
 split at h <;> cases h
 ·obtain ⟨v, rfl, r1⟩ := r.one
  cases r1.int_inv
  exact .inl ⟨_, rfl, k _ G H (.refl gh) (.int _)⟩
 ·obtain ⟨v, rfl, r1⟩ := r.one
  cases r1.bl_inv
  exact .inr ⟨_, rfl, k _ G H (.refl gh) (.int _)⟩⟩
def zj0 : List D -> Option D
 | [.lst l] => some (.tup l)
 | [.tup l] => some (.tup l)
 | _ => none
theorem zj1 : TyD J X "tuple" zj0 := ⟨_, zeR, fun {G H vs ds z} gh r h Q k => by
 unfold zj0 at h
 split at h <;> cases h
 ·obtain ⟨v, rfl, r1⟩ := r.one
  obtain ⟨a, us, rfl, ha, ra⟩ := r1.lst_inv
  exact ⟨a, us, rfl, .inl ⟨.inl (.inl (gh _ _ ha)), zjs gh ra k⟩⟩
 ·obtain ⟨v, rfl, r1⟩ := r.one
  obtain ⟨a, us, rfl, ha, ra⟩ := r1.tup_inv
  exact ⟨a, us, rfl, .inr ⟨.inl (.inl (gh _ _ ha)), k _ G H (.refl gh) (.tup ha ra)⟩⟩⟩
def zfZ {κ α : Type} [DecidableEq κ] (kvs : List (κ × α)) (k : κ) : Option α := (kvs.find? fun kv => decide (kv.1 = k)).map (·.2)
def zjm {κ α : Type} [DecidableEq κ] (kvs : List (κ × α)) (k : κ) (v : α) : List (κ × α) :=
 if (kvs.any fun kv => decide (kv.1 = k)) = true then kvs.map (fun kv => if kv.1 = k then (kv.1, v) else kv) else kvs ++ [(k, v)]
theorem zl6 {κ : Type} [DecidableEq κ] {K : PySem.W.Frag} {G : zxg} {k : κ} : ∀ {us : List (κ × V)} {kvs : List (κ × D)}, us.map (·.1) = kvs.map (·.1) -> Reps J K G (us.map (·.2)) (kvs.map (·.2)) ->
  (zfZ kvs k = none /\ zjY us k = none) \/ ∃ d v, zfZ kvs k = some d /\ zjY us k = some v /\ Rep J K G v d
 | [], [], _, _ => .inl ⟨rfl, rfl⟩
 | [], _ :: _, e, _ => by cases e
 | _ :: _, [], e, _ => by cases e
 | (zwY, v) :: us, (zwR, d) :: kvs, e, r => by
  have e1 : zwY = zwR := (List.cons.inj e).1
  have e2 : us.map (·.1) = kvs.map (·.1) := (List.cons.inj e).2
  subst e1
  have r : Reps J K G (v :: us.map (·.2)) (d :: kvs.map (·.2)) := r
  cases r with
  | cons r1 r2 =>
   by_cases h : zwY = k
   ·exact .inr ⟨d, v, by simp [zfZ, List.find?_cons, h], zfS h, r1⟩
   ·have := zl6 (k := k) e2 r2
    rw [zfT (p := (zwY, v)) h]
    simpa [zfZ, List.find?_cons, h] using this
theorem zox {κ : Type} [DecidableEq κ] {k : κ} {α β : Type} : ∀ {us : List (κ × α)} {kvs : List (κ × β)}, us.map (·.1) = kvs.map (·.1) -> (us.any fun kv => decide (kv.1 = k)) = (kvs.any fun kv => decide (kv.1 = k))
 | [], [], _ => rfl
 | [], _ :: _, e => by cases e
 | _ :: _, [], e => by cases e
 | (zwY, v) :: us, (zwR, d) :: kvs, e => by
  have e1 : zwY = zwR := (List.cons.inj e).1
  subst e1
  rw [List.any_cons, List.any_cons, zox (us := us) (kvs := kvs) (List.cons.inj e).2]
theorem zow {κ : Type} [DecidableEq κ] {K : PySem.W.Frag} {G : zxg} {k : κ} {v : V} {d : D} (rv : Rep J K G v d) : ∀ {us : List (κ × V)} {kvs : List (κ × D)}, us.map (·.1) = kvs.map (·.1) -> Reps J K G (us.map (·.2)) (kvs.map (·.2)) ->
  (us.map fun kv => if kv.1 = k then (kv.1, v) else kv).map (·.1) = (kvs.map fun kv => if kv.1 = k then (kv.1, d) else kv).map (·.1) /\ Reps J K G ((us.map fun kv => if kv.1 = k then (kv.1, v) else kv).map (·.2)) ((kvs.map fun kv => if kv.1 = k then (kv.1, d) else kv).map (·.2))
 | [], [], _, _ => ⟨rfl, .nil⟩
 | [], _ :: _, e, _ => by cases e
 | _ :: _, [], e, _ => by cases e
 | (zwY, u) :: us, (zwR, x) :: kvs, e, r => by
  have e1 : zwY = zwR := (List.cons.inj e).1
  have e2 : us.map (·.1) = kvs.map (·.1) := (List.cons.inj e).2
  subst e1
  have r : Reps J K G (u :: us.map (·.2)) (x :: kvs.map (·.2)) := r
  cases r with
  | cons r1 r2 =>
   obtain ⟨h1, h2⟩ := zow (k := k) rv e2 r2
   by_cases h : zwY = k
   ·subst h
    simp only [List.map_cons, if_true]
    exact ⟨by rw [h1], .cons rv h2⟩
   ·simp only [List.map_cons, if_neg h]
    exact ⟨by rw [h1], .cons r1 h2⟩
theorem zov {κ : Type} [DecidableEq κ] {K : PySem.W.Frag} {G : zxg} {k : κ} {v : V} {d : D} (rv : Rep J K G v d) {us : List (κ × V)} {kvs : List (κ × D)} (e : us.map (·.1) = kvs.map (·.1)) (r : Reps J K G (us.map (·.2)) (kvs.map (·.2))) :
  (zhg us k v).map (·.1) = (zjm kvs k d).map (·.1) /\ Reps J K G ((zhg us k v).map (·.2)) ((zjm kvs k d).map (·.2)) := by
 unfold zhg zjm
 rw [zox (k := k) e]
 split
 ·exact zow rv e r
 ·simp only [List.map_append, List.map_cons, List.map_nil]
  exact ⟨by rw [e], r.append (.cons rv .nil)⟩
def zm6 : D -> Option zvK
 | .int i => some (.inl i)
 | .str x => some (.inr x)
 | _ => none
def zff : List D -> Option (List zvK)
 | [] => some []
 | d :: r => (zm6 d).bind fun k => (zff r).map (k :: ·)
theorem zhW {K : PySem.W.Frag} {G : zxg} {v : V} {d : D} {k : zvK} (r : Rep J K G v d) (h : zm6 d = some k) : v = zw7 k := by
 unfold zm6 at h
 split at h <;> cases h
 ·exact r.int_inv
 ·exact r.str_inv
theorem zdY {K : PySem.W.Frag} {G : zxg} : ∀ {vs : List V} {ds : List D} {ks : List zvK}, Reps J K G vs ds -> zff ds = some ks -> vs = ks.map zw7
 | _, [], ks, r, h => by cases r; cases h; rfl
 | _, d :: ds, ks, .cons h1 h2, h => by
  unfold zff at h
  obtain ⟨k, hk, h⟩ := oBd h
  obtain ⟨zs, hz, rfl⟩ := oMd h
  rw [zhW h1 hk, zdY h2 hz]; rfl
def zjx (d k : D) : Option (Option D) := match d, k with
 | .dk l, k => (zm6 k).map (zfZ l)
 | .dt l, .tup t => (zff t).map (zfZ l)
 | _, _ => none
theorem zoB {K : PySem.W.Frag} {G H : zxg} {v : V} {d k : D} {r : Option D} (gh : zb5 G H) (rv : Rep J K G v d) (h : zjx d k = some r) : ∃ a, v = .ref a /\ zvS H a := by
 unfold zjx at h
 split at h
 ·cases rv with
  | dk h _ _ => exact ⟨_, rfl, .inl ⟨_, .inl (gh _ _ h)⟩⟩
 ·cases rv with
  | dt h _ _ => exact ⟨_, rfl, .inr ⟨_, .inl (gh _ _ h)⟩⟩
 ·cases h
theorem zjH {K : PySem.W.Frag} {G H : zxg} {v y : V} {d k : D} {r : Option D} (gh : zb5 G H) (rv : Rep J K G v d) (ry : Rep J K G y k) (h : zjx d k = some r) :
  ∃ a o, v = .ref a /\ zkC H a y o /\ ((r = none /\ o = none) \/ ∃ w z, r = some z /\ o = some w /\ Rep J K G w z) := by
 unfold zjx at h
 split at h
 ·obtain ⟨kk, hk, rfl⟩ := oMd h
  cases rv with
  | dk h1 h2 h3 =>
   have ey := zhW ry hk
   subst ey
   refine ⟨_, _, rfl, zkC.k (gh _ _ h1), ?_⟩
   rcases zl6 (k := kk) h2 h3 with ⟨q1, q2⟩ | ⟨z, w, q1, q2, q3⟩
   ·exact .inl ⟨q1, q2⟩
   ·exact .inr ⟨w, z, q1, q2, q3⟩
 ·obtain ⟨kk, hk, rfl⟩ := oMd h
  cases rv with
  | dt h1 h2 h3 =>
   obtain ⟨b, ys, rfl, hb, rb⟩ := ry.tup_inv
   have ey := zdY rb hk
   subst ey
   refine ⟨_, _, rfl, zkC.t (gh _ _ h1) (gh _ _ hb), ?_⟩
   rcases zl6 (k := kk) h2 h3 with ⟨q1, q2⟩ | ⟨z, w, q1, q2, q3⟩
   ·exact .inl ⟨q1, q2⟩
   ·exact .inr ⟨w, z, q1, q2, q3⟩
 ·cases h
def zmD (d k : D) : Option D := (zjx d k).bind id
theorem zjI (hu : X.A.units + 66 < cLine) (ho : DE J X o fo) (hi : DE J X i fi') (hs : zta i := by intro _ _; rfl) : DE J X (.Subscript o i pos) (zxj zmD fo fi') := ⟨(zpF (by omega) ho.1 hi.1 hs).imp fun σ H Q => by
 rintro ⟨G₀, H₀, G, ρ, d, A, h, k⟩
 unfold zxj at h
 obtain ⟨x, hx, h⟩ := oBd h
 obtain ⟨y, hy, h⟩ := oBd h
 refine ⟨G₀, H₀, G, ρ, x, A, hx, fun v G1 H1 s1 r1 => ⟨G₀, H₀, G1, ρ, y, A.step s1, hy, fun u G2 H2 s2 r2 => ?_⟩⟩
 unfold zmD at h
 obtain ⟨r, hr, h⟩ := oBd h
 obtain ⟨a, ov, rfl, hg, hc⟩ := zjH s2.gh (r1.mono s2.gg) r2 hr
 rcases hc with ⟨rfl, _⟩ | ⟨w, z, rfl, rfl, rw'⟩
 ·cases h
 ·cases h
  exact ⟨a, w, rfl, hg, k w G2 H2 (s1.trans s2) rw'⟩⟩
def zmE (d k : D) : Option D := (zjx d k).map fun r => r.getD .non
theorem zn4 (hu : X.A.units + 66 < cLine) (ho : DE J X o fo) (he : DE J X e f) (m : M1 X o "get" apos e cpos := by exact ⟨rfl, rfl, rfl, rfl⟩) : DE J X (.Call (.Attribute o "get" apos) [e] [] cpos) (zxj zmE fo f) := ⟨(znA (by omega) ho.1 he.1 m).imp fun σ H Q => by
 rintro ⟨G₀, H₀, G, ρ, d, A, h, k⟩
 unfold zxj at h
 obtain ⟨x, hx, h⟩ := oBd h
 obtain ⟨y, hy, h⟩ := oBd h
 unfold zmE at h
 obtain ⟨r, hr, rfl⟩ := oMd h
 refine ⟨G₀, H₀, G, ρ, x, A, hx, fun v G1 H1 s1 r1 => ?_⟩
 obtain ⟨a0, e0, d0⟩ := zoB s1.gh r1 hr
 refine ⟨a0, e0, d0, G₀, H₀, G1, ρ, y, A.step s1, hy, fun u G2 H2 s2 r2 => ?_⟩
 obtain ⟨a, ov, e1, hg, hc⟩ := zjH s2.gh (r1.mono s2.gg) r2 hr
 subst e0
 cases e1
 rcases hc with ⟨rfl, rfl⟩ | ⟨w, z, rfl, rfl, rw'⟩
 ·exact ⟨none, hg, k _ G2 H2 (s1.trans s2) .non⟩
 ·exact ⟨some w, hg, k w G2 H2 (s1.trans s2) rw'⟩⟩
def zeO (d k x : D) : Option D := (zjx d k).map fun r => r.getD x
def zwp (g : D -> D -> D -> Option D) (fa fb fc : zxe) : zxe := fun ρ => (fa ρ).bind fun x => (fb ρ).bind fun y => (fc ρ).bind fun z => g x y z
theorem zks (hu : X.A.units + 66 < cLine) (ho : DE J X o fo) (he : DE J X e f) (hf : DE J X c fc) (m : M2 X o "get" apos e c cpos := by exact ⟨rfl, rfl, rfl, rfl⟩) : DE J X (.Call (.Attribute o "get" apos) [e, c] [] cpos) (zwp zeO fo f fc) := ⟨(znz (by omega) ho.1 he.1 hf.1 m).imp fun σ H Q => by
 rintro ⟨G₀, H₀, G, ρ, d, A, h, k⟩
 unfold zwp at h
 obtain ⟨x, hx, h⟩ := oBd h
 obtain ⟨y, hy, h⟩ := oBd h
 obtain ⟨z, hz, h⟩ := oBd h
 unfold zeO at h
 obtain ⟨r, hr, rfl⟩ := oMd h
 refine ⟨G₀, H₀, G, ρ, x, A, hx, fun v G1 H1 s1 r1 => ?_⟩
 obtain ⟨a0, e0, d0⟩ := zoB s1.gh r1 hr
 refine ⟨a0, e0, d0, G₀, H₀, G1, ρ, y, A.step s1, hy, fun u G2 H2 s2 r2 => ⟨G₀, H₀, G2, ρ, z, (A.step s1).step s2, hz, fun w3 G3 H3 s3 r3 => ?_⟩⟩
 obtain ⟨a, ov, e1, hg, hc⟩ := zjH s3.gh (r1.mono (s2.gg.trans s3.gg)) (r2.mono s3.gg) hr
 subst e0
 cases e1
 rcases hc with ⟨rfl, rfl⟩ | ⟨w, z, rfl, rfl, rw'⟩
 ·exact ⟨none, hg, k _ G3 H3 ((s1.trans s2).trans s3) r3⟩
 ·exact ⟨some w, hg, k w G3 H3 ((s1.trans s2).trans s3) rw'⟩⟩
def zuv : zxa := fun _ => none
theorem zsY {st : Stmt} : DS J X st zuv := ⟨fun pins s σ H E I q => by
 obtain ⟨G₀, H₀, G, ρ, zxc, ρ', A, h, k⟩ := q
 cases h⟩
end
end L2
end
section
namespace L2
open PySem PySem.Spec PyProof.Rows
structure CF (J : Cn) (K : PySem.W.Frag) (c : Str) (attrs : List Str) : Prop where
 ex : ∃ C, J.cls c = some C /\ Cls K C /\ ∀ f ∈ attrs, zfC K C f
section
variable {J : Cn} {X : Cx} {a b c e o i value : Expr} {es : List Expr} {fa fb fc f fo fk fx fv : zxe} {fr fi : zw4} {pos pos' p apos cpos : Pos} {ft : zw1} {g : zxa} {x cl zxc n m : Str} {attrs : List Str}
theorem zb8 {K : PySem.W.Frag} {G : zxg} {k : Str} : ∀ {us : List (Str × V)} {fs : List (Str × D)}, us.map (·.1) = fs.map (·.1) -> Reps J K G (us.map (·.2)) (fs.map (·.2)) ->
  (fs.lookup k = none /\ us.lookup k = none) \/ ∃ d v, fs.lookup k = some d /\ us.lookup k = some v /\ Rep J K G v d
 | [], [], _, _ => .inl ⟨rfl, rfl⟩
 | [], _ :: _, e, _ => by cases e
 | _ :: _, [], e, _ => by cases e
 | (zwY, v) :: us, (zwR, d) :: fs, e, r => by
  have e1 : zwY = zwR := (List.cons.inj e).1
  have e2 : us.map (·.1) = fs.map (·.1) := (List.cons.inj e).2
  subst e1
  have r : Reps J K G (v :: us.map (·.2)) (d :: fs.map (·.2)) := r
  cases r with
  | cons r1 r2 =>
   by_cases h : k = zwY
   ·subst h
    exact .inr ⟨d, v, by simp [List.lookup], by simp [List.lookup], r1⟩
   ·have hb : (k == zwY) = false := by simpa using h
    have := zb8 (k := k) e2 r2
    simpa [List.lookup, hb] using this
theorem zhJ {f : Str} {v : V} : ∀ {fs : List (Str × V)}, fs.lookup f = none -> zif f v fs = fs ++ [(f, v)]
 | [], _ => rfl
 | (g, x) :: r, h => by
  by_cases e : f = g
  ·subst e; simp [List.lookup] at h
  ·have hb : (f == g) = false := by simpa using e
   rw [zif, if_neg (fun z => e z.symm), zhJ (by simpa [List.lookup, hb] using h)]
   rfl
def ztp (c f : Str) : D -> Option D
 | .ins c' fs => if c' = c then fs.lookup f else none
 | _ => none
def zm5 (c f : Str) (fo : zxe) : zxe := fun ρ => (fo ρ).bind (ztp c f)
theorem ziP (hc : CF J X.K cl attrs) (hf : zxc ∈ attrs) (ho : DE J X o fo) (hb : attributeBase o zxc X.env (eval o X.env) = eval o X.env := by rfl) : DE J X (.Attribute o zxc pos) (zm5 cl zxc fo) := ⟨(zlH ho.1 hb).imp fun σ H Q => by
 rintro ⟨G₀, H₀, G, ρ, d, A, h, k⟩
 unfold zm5 at h
 obtain ⟨x, hx, hq⟩ := oBd h
 clear h
 refine ⟨G₀, H₀, G, ρ, x, A, hx, fun v G1 H1 s1 r1 => ?_⟩
 unfold ztp at hq
 split at hq
 ·split at hq
  ·rename_i ec
   subst ec
   obtain ⟨C, q1, q2, q3⟩ := hc.ex
   cases r1 with
   | ins h1 h2 h3 h4 =>
    rw [q1] at h2
    cases h2
    rcases zb8 (k := zxc) h3 h4 with ⟨z1, _⟩ | ⟨d', v', z1, z2, z3⟩
    ·rw [z1] at hq; cases hq
    ·rw [z1] at hq
     cases hq
     exact ⟨_, C, _, _, v', rfl, s1.gh _ _ h1, q2, q3 zxc hf, z2, k v' G1 H1 s1 z3⟩
  ·cases hq
 ·cases hq⟩
def zlr (f : Str) : Slot -> Option D
 | .obj _ fs => fs.lookup f
 | .objd _ fs n _ => if f = n then none else fs.lookup f
 | _ => none
def zpa : Slot -> Option Str
 | .obj c _ => some c
 | .objd c _ _ _ => some c
 | _ => none
def zgZ (c f : Str) (i : Nat) : zxe := fun ρ => match ρ[i]? with
 | some (some s) => if zpa s = some c then zlr f s else none
 | _ => none
theorem znH {vs : List (Str × V)} {n f : Str} {v w : V} (h : vs.lookup f = some v) : (vs ++ [(n, w)]).lookup f = some v := by
 induction vs with
 | nil => cases h
 | cons p r ih =>
  obtain ⟨g, x⟩ := p
  by_cases e : f = g
  ·subst e; simpa [List.lookup] using h
  ·have hb : (f == g) = false := by simpa using e
   simp only [List.cons_append, List.lookup, hb] at h ⊢
   exact ih h
theorem zhX (i : Nat) (hc : CF J X.K cl attrs) (hf : zxc ∈ attrs) {vp : Pos} (hN : X.N[i]? = some x := by rfl) (hv : zvn X.env.scope x := by first | exact Or.inl rfl | exact Or.inr (Or.inl rfl) | exact Or.inr (Or.inr rfl)) (hd : (x == ("__debug__" : Str)) = false := by decide)
  (hcd : (x == ("__classdict__" : Str)) = false := by decide) (hb : attributeBase (.Name x vp) zxc X.env (eval (.Name x vp) X.env) = eval (.Name x vp) X.env := by rfl) : DE J X (.Attribute (.Name x vp) zxc pos) (zgZ cl zxc i) := ⟨(zlH (zfw hN hv hd hcd) hb).imp fun σ H Q => by
 rintro ⟨G₀, H₀, G, ρ, d, A, h, k⟩
 unfold zgZ at h
 split at h
 ·rename_i s hi
  split at h
  ·rename_i hcl
   obtain ⟨C, q1, q2, q3⟩ := hc.ex
   obtain ⟨v, fp, h1, h2⟩ := A.get hi
   cases h2 with
   | sh _ => cases h
   | own _ _ _ _ => cases h
   | odk _ _ _ _ _ => cases h
   | odt _ _ _ _ _ => cases h
   | tlo _ _ _ _ _ _ => cases h
   | pin _ => cases h
   | obj g1 g2 g3 g4 g5 g6 g7 =>
    cases hcl
    rw [q1] at g1
    cases g1
    have h : List.lookup zxc _ = some d := h
    rcases zb8 (k := zxc) g5 g6 with ⟨z1, _⟩ | ⟨d', v', z1, z2, z3⟩
    ·rw [z1] at h; cases h
    ·rw [z1] at h
     cases h
     exact ⟨_, h1, _, C, _, _, v', rfl, g4, q2, q3 zxc hf, z2, k v' G H (.refl A.gh) z3⟩
   | objd g1 g2 g3 g4 g5 g6 _ _ _ _ _ g7 =>
    cases hcl
    rw [q1] at g1
    cases g1
    unfold zlr at h
    simp only at h
    split at h
    ·cases h
    ·rcases zb8 (k := zxc) g5 g6 with ⟨z1, _⟩ | ⟨d', v', z1, z2, z3⟩
     ·rw [z1] at h; cases h
     ·rw [z1] at h
      cases h
      exact ⟨_, h1, _, C, _, _, v', rfl, g4, q2, q3 zxc hf, znH z2, k v' G H (.refl A.gh) z3⟩
  ·cases h
 ·cases h⟩
def zeJ (c f : Str) (i : Nat) (fv : zxe) : zxa := fun ρ => (fv ρ).bind fun d => match ρ[i]? with
 | some (some (.obj c' fs)) => if c' = c /\ fs.lookup f = none /\ fs.length < 100 then some (.nx, ρ.set i (some (.obj c (fs ++ [(f, d)])))) else none
 | _ => none
theorem zda (i : Nat) (hc : CF J X.K cl attrs) (hf : zxc ∈ attrs) {vp : Pos} (hv' : DE J X value fv) (hN : X.N[i]? = some x := by rfl) (hv : zvn X.env.scope x := by first | exact Or.inl rfl | exact Or.inr (Or.inl rfl) | exact Or.inr (Or.inr rfl)) (hd : (x == ("__debug__" : Str)) = false := by decide)
  (hcd : (x == ("__classdict__" : Str)) = false := by decide) (hs : swapsWith value (some (.Attribute (.Name x vp) zxc pos')) pos.line X.env = pure false := by rfl) : DS J X (.Assign [.Attribute (.Name x vp) zxc pos'] value pos) (zeJ cl zxc i fv) := ⟨(zoo (zfw hN hv hd hcd) hv'.1 hs).imp fun E σ H => by
 rintro ⟨G₀, H₀, G, ρ, flw, ρ', A, h, k⟩
 unfold zeJ at h
 obtain ⟨d, hd, h⟩ := oBd h
 split at h
 ·rename_i c' fs hi
  split at h
  ·rename_i hz
   obtain ⟨rfl, hz2, hz3⟩ := hz
   cases h
   obtain ⟨C, q1, q2, q3⟩ := hc.ex
   refine ⟨G₀, H₀, G, ρ, d, A, hd, fun v G1 H1 s1 r1 => ?_⟩
   have A1 := A.step s1
   obtain ⟨w, fp, h1, h2⟩ := A1.get hi
   cases h2 with
   | obj g1 g2 g3 g4 g5 g6 g7 =>
    rename_i a C' dx vs
    have g1' := g1
    rw [q1] at g1
    cases g1
    have hl : vs.lookup zxc = none := by
     rcases zb8 (k := zxc) g5 g6 with ⟨_, z2⟩ | ⟨d', v', z1, _, _⟩
     ·exact z2
     ·rw [z1] at hz2; cases hz2
    have hlen : vs.length = fs.length := by simpa using congrArg List.length g5
    refine ⟨_, h1, a, C, dx, vs, rfl, g4, q2, q3 zxc hf, by omega, ?_⟩
    rw [zhJ hl]
    refine k σ G1 _ s1.gg (A1.ch hi h1 (.obj g1' g2 g3 g4 g5 g6 g7) (fun b o e hb => ?_) (.obj (vs := vs ++ [(zxc, v)]) g1' g2 g3 zaB (by simp [g5]) (by simpa using g6.append (.cons r1 .nil)) g7) (fun b hb => .inl hb) (.refl _) (fun b o e => ?_) (fun _ _ _ _ => rfl))
    ·rw [zaz (fun z => hb (List.mem_singleton.mpr z))]; exact e
    ·rw [zaz (zaq e g3)]; exact A1.gh b o e
  ·cases h
 ·cases h⟩
def zqF (c f : Str) (i : Nat) : zxa := fun ρ => match ρ[i]? with
 | some (some (.obj c' fs)) => if c' = c /\ fs.lookup f = none /\ fs.length < 100 then some (.nx, ρ.set i (some (.objd c fs f []))) else none
 | _ => none
theorem zrZ (i : Nat) (hc : CF J X.K cl attrs) (hf : zxc ∈ attrs) {vp dp : Pos} (hN : X.N[i]? = some x := by rfl) (hv : zvn X.env.scope x := by first | exact Or.inl rfl | exact Or.inr (Or.inl rfl) | exact Or.inr (Or.inr rfl)) (hd : (x == ("__debug__" : Str)) = false := by decide)
  (hcd : (x == ("__classdict__" : Str)) = false := by decide) (hs : swapsWith (.Dict [] [] dp) (some (.Attribute (.Name x vp) zxc pos')) pos.line X.env = pure false := by rfl) : DS J X (.Assign [.Attribute (.Name x vp) zxc pos'] (.Dict [] [] dp) pos) (zqF cl zxc i) := ⟨(zoo (zfw hN hv hd hcd) zny hs).imp fun E σ H => by
 rintro ⟨G₀, H₀, G, ρ, flw, ρ', A, h, k⟩ p hp
 unfold zqF at h
 split at h
 ·rename_i c' fs hi
  split at h
  ·rename_i hz
   obtain ⟨rfl, hz2, hz3⟩ := hz
   cases h
   obtain ⟨C, q1, q2, q3⟩ := hc.ex
   obtain ⟨w, fp, h1, h2⟩ := A.get hi
   cases h2 with
   | obj g1 g2 g3 g4 g5 g6 g7 =>
    rename_i a C' dx vs
    have g1' := g1
    rw [q1] at g1
    cases g1
    have hl : vs.lookup zxc = none := by
     rcases zb8 (k := zxc) g5 g6 with ⟨_, z2⟩ | ⟨d', v', z1, _, _⟩
     ·exact z2
     ·rw [z1] at hz2; cases hz2
    have hlen : vs.length = fs.length := by simpa using congrArg List.length g5
    have npa : a ≠ p := zaq g4 hp
    refine ⟨_, h1, a, C, dx, vs, rfl, by rw [zaz npa]; exact g4, q2, q3 zxc hf, by omega, ?_⟩
    rw [zhJ hl]
    have hp0 : H₀ p = none := A.st.hh.free hp
    have hpg : G p = none := A.gh.free hp
    refine k σ G _ (.refl _) (A.ch hi h1 (.obj g1' g2 g3 g4 g5 g6 g7) (fun b o e hb => ?_) (.objd (vs := vs) (p := p) (us := []) (kvs := []) g1' g2 g3 zaB g5 g6 hp0 hpg (by rw [zaz npa.symm, zaB]) rfl .nil g7) (fun b hb => ?_) (.refl _) (fun b o e => ?_) (fun _ _ _ _ => rfl))
    ·rw [zaz (fun z => hb (List.mem_singleton.mpr z)), zaz (zaq e hp)]; exact e
    ·rcases List.mem_cons.mp hb with rfl | hb
     ·exact .inl (List.mem_singleton.mpr rfl)
     ·rw [List.mem_singleton.mp hb]; exact .inr hp
    ·rw [zaz (zaq e g3), zaz (zaq e hpg)]; exact A.gh b o e
  ·cases h
 ·cases h⟩
def zc6 (c f : Str) (i : Nat) (fk fv : zxe) : zxa := fun ρ => (fv ρ).bind fun d => (fk ρ).bind fun kd => (zm6 kd).bind fun k => match ρ[i]? with
 | some (some (.objd c' fs n kvs)) => if c' = c /\ n = f /\ fs.lookup f = none /\ kvs.length < 100000 then some (.nx, ρ.set i (some (.objd c fs n (zjm kvs k d)))) else none
 | _ => none
theorem zl0 {vs : List (Str × V)} {f : Str} {w : V} (h : vs.lookup f = none) : (vs ++ [(f, w)]).lookup f = some w := by
 induction vs with
 | nil => simp [List.lookup]
 | cons p r ih =>
  obtain ⟨g, x⟩ := p
  by_cases e : f = g
  ·subst e; simp [List.lookup] at h
  ·have hb : (f == g) = false := by simpa using e
   simp only [List.cons_append, List.lookup, hb] at h ⊢
   exact ih h
theorem zms (i : Nat) (hu : X.A.units + 66 < cLine) (hc : CF J X.K cl attrs) (hf : zxc ∈ attrs) {vp ap : Pos} {ke : Expr} (hk : DE J X ke fk) (hv' : DE J X value fv) (hN : X.N[i]? = some x := by rfl) (hv : zvn X.env.scope x := by first | exact Or.inl rfl | exact Or.inr (Or.inl rfl) | exact Or.inr (Or.inr rfl)) (hd : (x == ("__debug__" : Str)) = false := by decide)
  (hcd : (x == ("__classdict__" : Str)) = false := by decide) (hb : attributeBase (.Name x vp) zxc X.env (eval (.Name x vp) X.env) = eval (.Name x vp) X.env := by rfl) (hs : swapsWith value (some (.Subscript (.Attribute (.Name x vp) zxc ap) ke pos')) pos.line X.env = pure false := by rfl) :
  DS J X (.Assign [.Subscript (.Attribute (.Name x vp) zxc ap) ke pos'] value pos) (zc6 cl zxc i fk fv) := ⟨(zpu (by omega) (zlH (zfw hN hv hd hcd) hb) hk.1 hv'.1 hs).imp fun E σ H => by
 rintro ⟨G₀, H₀, G, ρ, flw, ρ', A, h, k⟩
 unfold zc6 at h
 obtain ⟨d, hd, ha⟩ := oBd h
 clear h
 obtain ⟨kd, hkd, hb1⟩ := oBd ha
 clear ha
 obtain ⟨kk, hkk, hq⟩ := oBd hb1
 clear hb1
 split at hq
 ·rename_i c' fs n kvs hi
  split at hq
  ·rename_i hz
   obtain ⟨rfl, rfl, hz2, hz3⟩ := hz
   cases hq
   obtain ⟨C, q1, q2, q3⟩ := hc.ex
   refine ⟨G₀, H₀, G, ρ, d, A, hd, fun v G1 H1 s1 r1 => ?_⟩
   have A1 := A.step s1
   obtain ⟨w, fp, h1, h2⟩ := A1.get hi
   cases h2 with
   | objd g1 g2 g3 g4 g5 g6 y1 y2 y3 y4 y5 g7 =>
    rename_i a C' dx p vs us
    have g1' := g1
    rw [q1] at g1
    cases g1
    have hl : vs.lookup n = none := by
     rcases zb8 (k := n) g5 g6 with ⟨_, z2⟩ | ⟨d', v', z1, _, _⟩
     ·exact z2
     ·rw [z1] at hz2; cases hz2
    refine ⟨_, h1, a, C, dx, _, .ref p, rfl, g4, q2, q3 n hf, zl0 hl, G₀, H₀, G1, ρ, kd, A1, hkd, fun u G2 H2 s2 r2 => ?_⟩
    have A2 := A1.step s2
    have eu := zhW r2 hkk
    subst eu
    have hp2 : H2 p = some (.dK us) := s2.hh _ _ y3
    have ha2 : H2 a = some (.ins C dx (vs ++ [(n, .ref p)])) := s2.hh _ _ g4
    have ga2 : G2 a = none := (s2.out _ _ g4).trans g3
    have gp2 : G2 p = none := (s2.out _ _ y3).trans y2
    have npa : a ≠ p := znE ha2 hp2 (by intro z; cases z)
    have hlen : us.length = kvs.length := by simpa using congrArg List.length y4
    obtain ⟨w1, w2⟩ := zov (k := kk) (r1.mono s2.gg) y4 (y5.mono s2.gg)
    refine ⟨p, _, rfl, zsg.k hp2 (by have := sizeLine_eq; omega), ?_⟩
    refine k σ G2 _ (s1.gg.trans s2.gg) (A2.ch hi h1 (.objd g1' g2 ga2 ha2 g5 (g6.mono s2.gg) y1 gp2 hp2 y4 (y5.mono s2.gg) g7) (fun b o e hb => ?_) (.objd (p := p) g1' g2 ga2 (by rw [zaz npa]; exact ha2) g5 (g6.mono s2.gg) y1 gp2 zaB w1 w2 g7) (fun b hb => .inl hb) (.refl _) (fun b o e => ?_) (fun _ _ _ _ => rfl))
    ·rw [zaz (fun z => hb (by rw [z]; exact List.mem_cons_of_mem _ List.mem_cons_self))]; exact e
    ·rw [zaz (zaq e gp2)]; exact A2.gh b o e
  ·cases hq
 ·cases hq⟩
def zlq : Slot -> Option D
 | .obj c fs => some (.ins c fs)
 | .objd c fs n kvs => some (.ins c (fs ++ [(n, .dk kvs)]))
 | _ => none
theorem At.done {K : PySem.W.Frag} {G₀ H₀ G H : zxg} {ρ : zaV} {σ : zxd} (A : At J K G₀ H₀ G H ρ σ) {i : Nat} {s : Slot} {d : D} (hi : ρ[i]? = some (some s)) (hd : zlq s = some d) : ∃ a G', J.self = some a /\ Step G₀ H₀ G' H /\ Rep J K G' (.ref a) d := by
 obtain ⟨v, fp, h1, h2⟩ := A.get hi
 cases h2 with
 | sh _ => cases hd
 | own _ _ _ _ => cases hd
 | odk _ _ _ _ _ => cases hd
 | odt _ _ _ _ _ => cases hd
 | tlo _ _ _ _ _ _ => cases hd
 | pin _ => cases hd
 | obj g1 g2 g3 g4 g5 g6 g7 =>
  cases hd
  rename_i a C dx vs fs
  have sm : zb5 G (zt0 G a (.ins C dx vs)) := fun b o e => by rw [zaz (zaq e g3)]; exact e
  refine ⟨a, zt0 G a (.ins C dx vs), g7, ⟨A.st.hh, A.st.gg.trans sm, fun b o e => ?_, fun b o e => ?_⟩, .ins zaB g1 g5 (g6.mono sm)⟩
  ·by_cases hb : b = a
   ·subst hb; rw [zaB] at e; cases e; exact g4
   ·rw [zaz hb] at e; exact A.gh b o e
  ·rw [zaz (zaq e g2)]; exact A.st.out b o e
 | objd g1 g2 g3 g4 g5 g6 y1 y2 y3 y4 y5 g7 =>
  cases hd
  rename_i n a C dx p vs fs us kvs
  have npa : a ≠ p := znE g4 y3 (by intro z; cases z)
  have sm : zb5 G (zt0 (zt0 G p (.dK us)) a (.ins C dx (vs ++ [(n, .ref p)]))) := fun b o e => by rw [zaz (zaq e g3), zaz (zaq e y2)]; exact e
  refine ⟨a, _, g7, ⟨A.st.hh, A.st.gg.trans sm, fun b o e => ?_, fun b o e => ?_⟩, .ins (us := vs ++ [(n, .ref p)]) (fs := fs ++ [(n, .dk kvs)]) zaB g1 (by simp [g5]) ?_⟩
  ·by_cases hb : b = a
   ·subst hb; rw [zaB] at e; cases e; exact g4
   ·rw [zaz hb] at e
    by_cases hb' : b = p
    ·subst hb'; rw [zaB] at e; cases e; exact y3
    ·rw [zaz hb'] at e; exact A.gh b o e
  ·rw [zaz (zaq e g2), zaz (zaq e y1)]; exact A.st.out b o e
  ·have r2 : Rep J K (zt0 (zt0 G p (.dK us)) a (.ins C dx (vs ++ [(n, .ref p)]))) (.ref p) (.dk kvs) := .dk (us := us) (by rw [zaz npa.symm, zaB]) y4 (y5.mono sm)
   simpa using (g6.mono sm).append (.cons r2 .nil)
end
end L2
end
section
namespace L2
open PySem PySem.Spec PyProof.Rows
def Cn.mk1 (J : Cn) (x : Addr) : Cn := ⟨J.cls, some x⟩
section
variable {J : Cn} {P : Program} {w : World} {K : PySem.W.Frag} {mg : Str -> Option Value} {base : Heap} {c : Str} {attrs : List Str} {x : Addr}
theorem Rep.to1 {G : zxg} {v : V} {d : D} (x : Addr) (r : Rep J K G v d) : Rep (J.mk1 x) K G v d := Rep.re (J := J) (J' := J.mk1 x) rfl r
theorem Rep.of1 {G : zxg} {v : V} {d : D} {x : Addr} (r : Rep (J.mk1 x) K G v d) : Rep J K G v d := Rep.re (J := J.mk1 x) (J' := J) rfl r
theorem Reps.of1 {G : zxg} {v : List V} {d : List D} {x : Addr} (r : Reps (J.mk1 x) K G v d) : Reps J K G v d := Reps.re (J := J.mk1 x) (J' := J) rfl r
theorem CF.re (h : CF J K c attrs) (x : Addr) : CF (J.mk1 x) K c attrs := ⟨h.ex⟩
theorem zqX {n : Nat} {F : List D -> Option D} {vs : List V} {H : zxg} {Q : zw3} {E : zwV} (x : Addr) (h : zut (J.mk1 x) K n F vs H Q E) : zut J K n F vs H Q E := by
 obtain ⟨G, ds, d, h1, h2, h3, h4, k⟩ := h
 exact ⟨G, ds, d, h1, h2.of1, h3, h4, fun v G' H' s r => k v G' H' s (r.to1 x)⟩
theorem Cal.re {y : Str} {n k : Nat} {F : List D -> Option D} (C : Cal J P w K mg base y n k F) (x : Addr) : Cal (J.mk1 x) P w K mg base y n k F := by
 obtain ⟨f, fd, ps, h1, h2, h3, h4⟩ := C.ex
 exact ⟨f, fd, ps, h1.imp fun vs H Q E q => zqX x q, h2, h3, h4⟩
structure CalM (J : Cn) (P : Program) (w : World) (K : PySem.W.Frag) (mg : Str -> Option Value) (base : Heap) (c m : Str) (n k : Nat) (F : List D -> Option D) : Prop where
 ex : ∃ C f fd ps, J.cls c = some C /\ Cls K C /\ Meth K C m f /\ FnOk P w K mg base zvX k f fd ps (zut J K n F) /\ zd4 K fd ps []
def zus (J : Cn) (K : PySem.W.Frag) (C : Addr) (n : Nat) (F : List D -> Option D) : zwI := fun vs H Q _ => ∃ x dx H1 G ds d us, vs = .ref x :: us /\ H = zt0 (zt0 H1 dx (.own x)) x (.ins C dx []) /\ H1 x = none /\ H1 dx = none /\ dx ≠ x /\ zb5 G H1 /\ Reps J K G us ds /\ ds.length = n /\ F ds = some d /\
 ∀ G' H', Step G H1 G' H' -> Rep J K G' (.ref x) d -> Q .non H'
structure CalI (J : Cn) (P : Program) (w : World) (K : PySem.W.Frag) (mg : Str -> Option Value) (base : Heap) (c : Str) (n k : Nat) (F : List D -> Option D) : Prop where
 ex : ∃ C f fd ps, J.cls c = some C /\ zwH K C f /\ mg c = some (.ref C) /\ FnOk P w K mg base zvX k f fd ps (zus J K C n F) /\ zd4 K fd ps []
end
section
variable {J : Cn} {X : Cx} {e o : Expr} {es : List Expr} {fo : zxe} {fr : zw4} {pos p apos : Pos} {c m : Str}
def zdz (c m : Str) (F : List D -> Option D) (fo : zxe) (fr : zw4) : zxe := fun ρ => (fo ρ).bind fun d => match d with
 | .ins c' fs => if c' = c /\ fs.lookup m = none then (fr ρ).bind fun ds => F (d :: ds) else none
 | _ => none
theorem zmI {n k j : Nat} {F : List D -> Option D} {pl : Sem Bool} (C : CalM J X.prog X.w X.K X.mg X.base c m (n + 1) k F) (hr : Room j X.A) (hk : k <= j) (ho : DE J X o fo) (ha : DA J X (e :: es) fr) (hn : ∀ ρ ds, fr ρ = some ds -> ds.length = n)
  (hst : starEach (e :: es) X.env = (false, eval e X.env) :: starEach es X.env := by rfl) (hpl : (backTo pos (starEach es X.env)).any (·.1) = false := by rfl)
  (ht : eval (.Call (.Attribute o m apos) (e :: es) [] pos) X.env = (do
   let ov ← eval o X.env
   standAt apos.atName
   let (f, first) ← holding [ov] (getMethod ov m pl)
   callWith pos f first (backTo pos (starEach (e :: es) X.env)) (backToKw pos (keywordEach [] X.env))) := by rfl) :
  DE J X (.Call (.Attribute o m apos) (e :: es) [] pos) (zdz c m F fo fr) := ⟨by
 obtain ⟨Ca, f, fd, ps, h0, h1, h2, h3, h4⟩ := C.ex
 refine (zjp ho.1 h1 h2 h3 (hr.mono hk) h4 .nil zjr ha.1 hst hpl ht).imp fun σ H Q => ?_
 rintro ⟨G₀, H₀, G, ρ, d, A, h, k⟩
 unfold zdz at h
 obtain ⟨x, hx, hq⟩ := oBd h
 clear h
 refine ⟨G₀, H₀, G, ρ, x, A, hx, fun v G1 H1 s1 r1 => ?_⟩
 split at hq
 ·rename_i c' fs
  split at hq
  ·rename_i hz
   obtain ⟨rfl, hz2⟩ := hz
   obtain ⟨ds, hds, hF⟩ := oBd hq
   have r1' := r1
   cases r1 with
   | ins g1 g2 g3 g4 =>
    rw [h0] at g2
    cases g2
    rename_i _ _ us0
    have hl : List.lookup m us0 = none := by
     rcases zb8 (k := m) g3 g4 with ⟨_, z2⟩ | ⟨d', v', z1, _, _⟩
     ·exact z2
     ·rw [z1] at hz2; cases hz2
    refine ⟨_, _, _, rfl, s1.gh _ _ g1, hl, G₀, H₀, G1, ρ, ds, A.step s1, hds, fun vs G2 H2 s2 r2 => ?_⟩
    show zut J X.K (n + 1) F (_ :: (vs ++ [])) H2 Q zwm
    rw [List.append_nil]
    exact ⟨G2, _, d, s2.gh, .cons (r1'.mono s2.gg) r2, by rw [List.length_cons, hn ρ ds hds], hF, fun v G' H' s r => k v G' H' ((s1.trans s2).trans s) r⟩
  ·cases hq
 ·cases hq⟩
theorem zqs {n k j : Nat} {F : List D -> Option D} (C : CalI J X.prog X.w X.K X.mg X.base c n k F) (hr : Room j X.A) (hk : k + 1 <= j) (hg : zwU X c) (ha : DA J X (e :: es) fr) (hn : ∀ ρ ds, fr ρ = some ds -> ds.length = n)
  (hdb : (c == ("__debug__" : Str)) = false := by decide) (he : starEach (e :: es) X.env = (false, eval e X.env) :: starEach es X.env := by rfl) (hpl : (backTo pos (starEach es X.env)).any (·.1) = false := by rfl) :
  DE J X (.Call (.Name c p) (e :: es) [] pos) (zxh F fr) := ⟨by
 obtain ⟨Ca, f, fd, ps, h0, h1, h2, h3, h4⟩ := C.ex
 refine (zpD h1 h3 (hr.mono hk) hg h2 h4 .nil zjr ha.1 hdb he hpl).imp fun σ H Q => ?_
 rintro ⟨G₀, H₀, G, ρ, d, A, h, k⟩
 unfold zxh at h
 obtain ⟨ds, hd, hq⟩ := oBd h
 refine ⟨G₀, H₀, G, ρ, ds, A, hd, fun vs G1 H1 s1 r1 x dx hx hdx hne => ?_⟩
 rw [List.append_nil]
 exact ⟨x, dx, H1, G1, ds, d, vs, rfl, rfl, hx, hdx, hne, s1.gh, r1, hn ρ ds hd, hq, fun G' H' s r => ⟨rfl, k _ G' H' (s1.trans s) r⟩⟩⟩
end
def zqH (n : Nat) (c : Str) (g : zxa) : List D -> Option D := fun ds => (g (some (.obj c []) :: ds.map (fun d => some (Slot.sh d)) ++ List.replicate n none)).bind fun r => match r.1 with
 | .nx => match r.2[0]? with
  | some (some s) => zlq s
  | _ => none
 | _ => none
section
variable {J : Cn} {P : Program} {w : World} {K : PySem.W.Frag} {mg : Str -> Option Value} {base : Heap} {c : Str} {attrs : List Str}
theorem Fun.okI {x qual : Str} {st : Stmt} {f C : Addr} {fd : FuncData} {N ps : List Str} {s0 : Str} {k : Nat} {g : zxa} (F : Fun K x qual st f fd) (S : FnScope N (s0 :: ps) (zag st)) (hC : J.cls c = some C)
  (hbody : ∀ (y : Addr) (cdv : Value) (A : Around) (outer : List Env) (s : Shared) (H : zxg) (E : zwV), Room k (A.deeper (envOfC qual (zag st) s.heap.objs.size f cdv)) ->
   DSs (J.mk1 y) (zih zvX P w K mg base N qual (zag st) f cdv A outer s H E).nox (zaX st) g) : FnOk P w K mg base zvX (k + 1) f fd (s0 :: ps) (zus J K C ps.length (zqH (N.length - (ps.length + 1)) c g)) := by
 refine F.ok S (fun vs H Q E h => ?_) (fun cdv A outer s H vs Q E hr h => ?_)
 ·obtain ⟨y, dx, H1, G, ds, d, us, rfl, _, _, _, _, _, r, hl, _⟩ := h
  rw [List.length_cons, r.length, hl, List.length_cons]
 ·obtain ⟨y, dx, H1, G, ds, d, us, rfl, rfl, hx, hdx, hne, gh, r, hl, hd, k⟩ := h
  refine ⟨_, (hbody y cdv A outer s _ E hr).1, ?_⟩
  unfold zqH at hd
  obtain ⟨⟨zxc, ρ'⟩, hg, hd⟩ := oBd hd
  have s1 := Step.newOwn (o := .own y) gh hdx
  have hx1 : (zt0 H1 dx (.own y)) y = none := by rw [zaz (Ne.symm hne)]; exact hx
  have s2 := s1.trans (Step.newOwn (o := .ins C dx []) s1.gh hx1)
  have hlen : us.length = ds.length := r.length
  have A0 : At (J.mk1 y) K G H1 G (zt0 (zt0 H1 dx (.own y)) y (.ins C dx [])) (some (.obj c []) :: ds.map (fun d => some (Slot.sh d)) ++ List.replicate (N.length - (ps.length + 1)) none) (zeI N (.ref y :: us)) := by
   refine ⟨s2, by simp [zeI, hlen, hl], fun i => if i = 0 then [y] else [], fun i t e => ?_, fun i j t u hij e1 e2 b hb => ?_⟩
   ·cases i with
    | zero =>
     cases e
     exact ⟨.ref y, rfl, .obj (vs := []) (fs := []) hC hx (gh.free hx) zaB rfl .nil rfl⟩
    | succ i =>
     have e : (ds.map (fun d => some (Slot.sh d)) ++ List.replicate (N.length - (ps.length + 1)) none)[i]? = some (some t) := e
     by_cases hi : i < ds.length
     ·rw [List.getElem?_append_left (by simpa using hi), List.getElem?_map] at e
      obtain ⟨d', hd', e⟩ := oMd e
      cases e
      obtain ⟨v, hv, rv⟩ := r.get hd'
      refine ⟨v, ?_, .sh (rv.to1 y)⟩
      unfold zeI
      show ((us.map some) ++ _)[i]? = some (some v)
      rw [List.getElem?_append_left (by rw [List.length_map, hlen]; exact hi), List.getElem?_map, hv]
      rfl
     ·rw [List.getElem?_append_right (by simpa using hi), List.getElem?_replicate] at e
      split at e <;> cases e
   ·have hb : b ∈ (if i = 0 then [y] else []) := hb
    show b ∉ (if j = 0 then [y] else [])
    by_cases hi : i = 0
    ·subst hi
     rw [if_neg (Ne.symm hij)]
     exact fun z => by cases z
    ·rw [if_neg hi] at hb; cases hb
  refine ⟨G, H1, G, _, zxc, ρ', A0, hg, fun σ' G' H' sm A' => ?_⟩
  cases zxc with
  | nx =>
   simp only at hd
   split at hd
   ·rename_i sl hs
    obtain ⟨a, G2, e1, st2, rp⟩ := A'.done hs hd
    cases e1
    exact k G2 H' st2 rp.of1
   ·cases hd
  | rt d' => cases hd
  | ow d' => cases hd
  | nw d' => cases hd
  | od d' => cases hd
  | bk => cases hd
  | ct => cases hd
structure DfnM (K : PySem.W.Frag) (C : Addr) (c m qual : Str) (st : Stmt) : Prop where
 ex : ∃ f fd, Fun K m qual st f fd /\ PySem.W.findIn K (.ref C) m = some (some (.ref f)) /\ PySem.W.isFn K (.ref f) = true
structure ClsOk (J : Cn) (K : PySem.W.Frag) (mg : Str -> Option Value) (c : Str) (C : Addr) : Prop where
 cn : J.cls c = some C
 cl : Cls K C
 mgC : mg c = some (.ref C)
 makes : PySem.W.makesIn K C = true
 kp : PySem.W.keepIn K (.ref C) = true
theorem DfnM.cal {m qual : Str} {C : Addr} {st : Stmt} {N ps : List Str} {k : Nat} {g : zxa} (O : ClsOk J K mg c C) (F : DfnM K C c m qual st) (S : FnScope N ps (zag st))
  (hb : ∀ (zw7 doc pm : Value) (an : Option Addr) (cdv ct : Value) (us : List Value), us.length = ps.length -> bindArgs (PySem.W.fnOf m qual (zbN st) (zaX st) (zag st) .none zw7 doc pm an cdv ct) ⟨us, []⟩ = pure (ps.zip us))
  (hbody : ∀ (f : Addr) (cdv : Value) (A : Around) (outer : List Env) (s : Shared) (H : zxg) (E : zwV), Room k (A.deeper (envOfC qual (zag st) s.heap.objs.size f cdv)) ->
   DSs J (zih zvX P w K mg base N qual (zag st) f cdv A outer s H E).nox (zaX st) g) : CalM J P w K mg base c m ps.length (k + 1) (zb3 (N.length - ps.length) g) := by
 obtain ⟨f, fd, h1, h2, h3⟩ := F.ex
 exact ⟨C, f, fd, ps, O.cn, O.cl, ⟨h2, h3, h1.kp⟩, h1.okD S (hbody f), h1.binds hb⟩
theorem DfnM.calI {qual : Str} {C : Addr} {st : Stmt} {N ps : List Str} {s0 : Str} {k : Nat} {g : zxa} (O : ClsOk J K mg c C) (F : DfnM K C c "__init__" qual st) (S : FnScope N (s0 :: ps) (zag st))
  (hb : ∀ (zw7 doc pm : Value) (an : Option Addr) (cdv ct : Value) (us : List Value), us.length = (s0 :: ps).length -> bindArgs (PySem.W.fnOf "__init__" qual (zbN st) (zaX st) (zag st) .none zw7 doc pm an cdv ct) ⟨us, []⟩ = pure ((s0 :: ps).zip us))
  (hbody : ∀ (f y : Addr) (cdv : Value) (A : Around) (outer : List Env) (s : Shared) (H : zxg) (E : zwV), Room k (A.deeper (envOfC qual (zag st) s.heap.objs.size f cdv)) ->
   DSs (J.mk1 y) (zih zvX P w K mg base N qual (zag st) f cdv A outer s H E).nox (zaX st) g) : CalI J P w K mg base c ps.length (k + 1) (zqH (N.length - (ps.length + 1)) c g) := by
 obtain ⟨f, fd, h1, h2, h3⟩ := F.ex
 exact ⟨C, f, fd, s0 :: ps, O.cn, ⟨O.makes, h2, h3, O.kp⟩, O.mgC, h1.okI S O.cn (hbody f), h1.binds hb⟩
theorem ClsOk.cf {C : Addr} (O : ClsOk J K mg c C) (h : ∀ f ∈ attrs, zfC K C f) : CF J K c attrs := ⟨C, O.cn, O.cl, h⟩
end
end L2
end
section
namespace ST
open PySem
structure Pr where
 j : Nat
 more : Nat
 i : Nat
 pt : Nat
def zvm (M : Nat) (p : Pr) : Pr := if p.more > 0 then { p with j := p.j + 1, more := p.more - 1 } else
 { j := (SetTable.leap M p.i p.pt).1, more := SetTable.runEnd M (SetTable.leap M p.i p.pt).1 - (SetTable.leap M p.i p.pt).1, i := (SetTable.leap M p.i p.pt).1, pt := (SetTable.leap M p.i p.pt).2 }
def zup (M : Nat) (h : Int) : Pr := { j := SetTable.bits h % (M + 1), more := SetTable.runEnd M (SetTable.bits h % (M + 1)) - SetTable.bits h % (M + 1), i := SetTable.bits h % (M + 1), pt := SetTable.bits h }
def zxf (M : Nat) (h : Int) : Nat -> Pr
 | 0 => zup M h
 | n + 1 => zvm M (zxf M h n)
def zxi (M : Nat) (h : Int) (n : Nat) : Nat := (zxf M h n).j
def zw6 (M : Nat) (h : Int) : Nat -> Nat × Nat
 | 0 => (SetTable.bits h % (M + 1), SetTable.bits h)
 | r + 1 => SetTable.leap M (zw6 M h r).1 (zw6 M h r).2
def zjR (M : Nat) (x : Nat × Nat) : Pr := { j := x.1, more := SetTable.runEnd M x.1 - x.1, i := x.1, pt := x.2 }
theorem zkl (M : Nat) (h : Int) (n : Nat) : ∀ k, zxf M h (n + k) = (Nat.repeat (zvm M) k (zxf M h n))
 | 0 => rfl
 | k + 1 => by rw [← Nat.add_assoc, zxf, zkl M h n k]; rfl
theorem zpi (M i : Nat) : SetTable.runEnd M i - i <= 9 := by
 unfold SetTable.runEnd
 split <;> omega
theorem znd (M : Nat) : ∀ (k : Nat) (p : Pr), k <= p.more -> Nat.repeat (zvm M) k p = { p with j := p.j + k, more := p.more - k }
 | 0, p, _ => rfl
 | k + 1, p, h => by
  rw [Nat.repeat, znd M k p (by omega)]
  unfold zvm
  rw [if_pos (by show p.more - k > 0; omega)]
  simp only [Nat.sub_sub, Nat.add_assoc]
theorem zon (M : Nat) (h : Int) : ∀ r, ∃ n, n <= 10 * r /\ zxf M h n = zjR M (zw6 M h r)
 | 0 => ⟨0, Nat.le_refl _, rfl⟩
 | r + 1 => by
  obtain ⟨n, hn, e⟩ := zon M h r
  have hl := zpi M (zw6 M h r).1
  refine ⟨n + (SetTable.runEnd M (zw6 M h r).1 - (zw6 M h r).1) + 1, by omega, ?_⟩
  have e2 := znd M (SetTable.runEnd M (zw6 M h r).1 - (zw6 M h r).1) (zjR M (zw6 M h r)) (Nat.le_refl _)
  rw [zxf, zkl, e, e2]
  unfold zvm
  rw [if_neg (by show ¬ ((SetTable.runEnd M (zw6 M h r).1 - (zw6 M h r).1) - (SetTable.runEnd M (zw6 M h r).1 - (zw6 M h r).1) > 0); omega)]
  rfl
theorem zqA (h : Int) : SetTable.bits h < 2 ^ 64 := by
 unfold SetTable.bits
 have h1 := Int.emod_nonneg h (show (2 ^ 64 : Int) ≠ 0 by decide)
 have h2 := Int.emod_lt_of_pos h (show (0 : Int) < 2 ^ 64 by decide)
 omega
theorem zrc (M : Nat) (h : Int) : ∀ r, (zw6 M h r).2 = SetTable.bits h / 32 ^ r
 | 0 => by simp [zw6]
 | r + 1 => by
  show (zw6 M h r).2 / 32 = _
  rw [zrc M h r, Nat.div_div_eq_div_mul, Nat.pow_succ]
theorem zpq (M : Nat) (h : Int) {r : Nat} (hr : 13 <= r) : (zw6 M h r).2 = 0 := by
 rw [zrc]
 refine Nat.div_eq_of_lt (Nat.lt_of_lt_of_le (zqA h) ?_)
 exact Nat.le_trans (show 2 ^ 64 <= 32 ^ 13 by decide) (Nat.pow_le_pow_right (by decide) hr)
def zxc (M i : Nat) : Nat := (i * 5 + 1) % (M + 1)
def zuE (M : Nat) : Nat -> Nat -> Nat
 | 0, i => i
 | m + 1, i => zxc M (zuE M m i)
theorem zlZ (M : Nat) (h : Int) : ∀ m, (zw6 M h (13 + m)).1 = zuE M m (zw6 M h 13).1
 | 0 => rfl
 | m + 1 => by
  show (SetTable.leap M (zw6 M h (13 + m)).1 (zw6 M h (13 + m)).2).1 = _
  rw [zpq M h (by omega), zlZ M h m]
  simp [SetTable.leap, zuE, zxc]
theorem zhK (M i : Nat) (a : Nat) : ∀ b, zuE M (a + b) i = zuE M b (zuE M a i)
 | 0 => rfl
 | b + 1 => by rw [← Nat.add_assoc, zuE, zhK M i a b]; rfl
def zsJ (M : Nat) : Nat -> Nat -> List Nat
 | 0, _ => []
 | n + 1, i => i :: zsJ M n (zxc M i)
theorem zkb (M : Nat) : ∀ m i, zuE M (m + 1) i = zuE M m (zxc M i)
 | 0, _ => rfl
 | m + 1, i => by rw [zuE, zkb M m i]; rfl
theorem zkc (M : Nat) : ∀ (n i j : Nat), j ∈ zsJ M n i -> ∃ m, m < n /\ zuE M m i = j
 | 0, _, _, h => nomatch h
 | n + 1, i, j, h => by
  rcases List.mem_cons.mp h with e | h
  ·exact ⟨0, Nat.succ_pos _, e.symm⟩
  ·obtain ⟨m, hm, e⟩ := zkc M n (zxc M i) j h
   exact ⟨m + 1, by omega, by rw [zkb]; exact e⟩
structure Full (M : Nat) : Prop where
 all : ∀ j, j <= M -> ∃ m, m < M + 1 /\ zuE M m 0 = j
 back : zuE M (M + 1) 0 = 0
def zvd (M : Nat) : Bool := (List.range (M + 1)).all (fun j => (zsJ M (M + 1) 0).contains j) && zuE M (M + 1) 0 == 0
theorem zhQ {M : Nat} (h : zvd M = true) : Full M := by
 unfold zvd at h
 rw [Bool.and_eq_true, List.all_eq_true] at h
 refine ⟨fun j hj => ?_, by simpa using h.2⟩
 have := h.1 j (List.mem_range.mpr (by omega))
 exact zkc M (M + 1) 0 j (by simpa using this)
theorem zrW : Full 7 := zhQ (by decide +kernel)
theorem zrX : Full 31 := zhQ (by decide +kernel)
theorem zqj : Full 127 := zhQ (by decide +kernel)
theorem zqi : Full 511 := zhQ (by decide +kernel)
theorem Full.reach {M : Nat} (F : Full M) {i j : Nat} (hi : i <= M) (hj : j <= M) : ∃ m, m <= M /\ zuE M m i = j := by
 obtain ⟨a, ha, ea⟩ := F.all i hi
 obtain ⟨b, hb, eb⟩ := F.all j hj
 by_cases h : a <= b
 ·refine ⟨b - a, by omega, ?_⟩
  rw [← ea, ← zhK, show a + (b - a) = b by omega, eb]
 ·refine ⟨M + 1 - a + b, by omega, ?_⟩
  rw [← ea, ← zhK, show a + (M + 1 - a + b) = (M + 1) + b by omega, zhK, F.back, eb]
theorem zp4 (M : Nat) (h : Int) : ∀ r, (zw6 M h r).1 <= M
 | 0 => Nat.lt_succ_iff.mp (Nat.mod_lt _ (Nat.succ_pos _))
 | r + 1 => Nat.lt_succ_iff.mp (Nat.mod_lt _ (Nat.succ_pos _))
theorem Full.covers {M : Nat} (F : Full M) (h : Int) {j : Nat} (hj : j <= M) : ∃ n, n < 10 * (M + 15) /\ zxi M h n = j := by
 obtain ⟨m, hm, e⟩ := F.reach (zp4 M h 13) hj
 obtain ⟨n, hn, en⟩ := zon M h (13 + m)
 refine ⟨n, by omega, ?_⟩
 unfold zxi
 rw [en]
 show (zw6 M h (13 + m)).1 = j
 rw [zlZ, e]
theorem zrO (M : Nat) (h : Int) : ∀ n, (zxf M h n).j + (zxf M h n).more <= M
 | 0 => by
  have := zp4 M h 0
  show (zw6 M h 0).1 + (SetTable.runEnd M (zw6 M h 0).1 - (zw6 M h 0).1) <= M
  unfold SetTable.runEnd
  split <;> omega
 | n + 1 => by
  have ih := zrO M h n
  rw [zxf]
  unfold zvm
  split
  ·show (zxf M h n).j + 1 + ((zxf M h n).more - 1) <= M
   omega
  ·show (SetTable.leap M (zxf M h n).i (zxf M h n).pt).1 + (SetTable.runEnd M (SetTable.leap M (zxf M h n).i (zxf M h n).pt).1 - (SetTable.leap M (zxf M h n).i (zxf M h n).pt).1) <= M
   have : (SetTable.leap M (zxf M h n).i (zxf M h n).pt).1 <= M := Nat.lt_succ_iff.mp (Nat.mod_lt _ (Nat.succ_pos _))
   unfold SetTable.runEnd
   split <;> omega
theorem ztb (M : Nat) (h : Int) (n : Nat) : zxi M h n <= M := Nat.le_trans (Nat.le_add_right _ _) (zrO M h n)
theorem Full.first {M : Nat} (F : Full M) (h : Int) (occ : Nat -> Bool) (hf : ∃ j, j <= M /\ occ j = false) : ∃ n, n < 10 * (M + 15) /\ occ (zxi M h n) = false /\ ∀ m, m < n -> occ (zxi M h m) = true := by
 obtain ⟨j, hj, hof⟩ := hf
 obtain ⟨n, hn, e⟩ := F.covers h hj
 have key : ∀ n, n < 10 * (M + 15) -> occ (zxi M h n) = false -> ∃ n, n < 10 * (M + 15) /\ occ (zxi M h n) = false /\ ∀ m, m < n -> occ (zxi M h m) = true := by
  intro n
  induction n using Nat.strongRecOn with
  | ind n ih =>
   intro hn ho
   by_cases hx : ∃ m, m < n /\ occ (zxi M h m) = false
   ·obtain ⟨m, hm, hm2⟩ := hx
    exact ih m hm (by omega) hm2
   ·refine ⟨n, hn, ho, fun m hm => ?_⟩
    cases q : occ (zxi M h m) with
    | true => rfl
    | false => exact absurd ⟨m, hm, q⟩ hx
 exact key n hn (by rw [e]; exact hof)
end ST
end
section
namespace ST
open PySem
theorem zic (xs : Array Nat) (j : Nat) (hs : xs.toList.Pairwise (· < ·)) : ∀ (fuel lo hi : Nat), hi - lo <= fuel -> lo <= hi -> hi <= xs.size -> (∀ i, i < lo -> ∀ v, xs[i]? = some v -> v < j) -> (∀ i, hi <= i -> ∀ v, xs[i]? = some v -> j <= v) ->
  (SetTable.below.go xs j fuel lo hi <= xs.size) /\ (∀ i, i < SetTable.below.go xs j fuel lo hi -> ∀ v, xs[i]? = some v -> v < j) /\ ∀ i, SetTable.below.go xs j fuel lo hi <= i -> ∀ v, xs[i]? = some v -> j <= v
 | 0, lo, hi, hf, hl, hh, h1, h2 => by
  have e : lo = hi := by omega
  subst e
  exact ⟨hh, h1, h2⟩
 | fuel + 1, lo, hi, hf, hl, hh, h1, h2 => by
  have mono : ∀ a b va vb, a < b -> xs[a]? = some va -> xs[b]? = some vb -> va < vb := fun a b va vb hab ha hb => by
   have := List.pairwise_iff_getElem.mp hs a b
   obtain ⟨a1, a2⟩ := Array.getElem?_eq_some_iff.mp ha
   obtain ⟨zwE, zxj⟩ := Array.getElem?_eq_some_iff.mp hb
   have q := this (by simpa using a1) (by simpa using zwE) hab
   simpa [a2, zxj] using q
  unfold SetTable.below.go
  by_cases hlt : lo < hi
  ·rw [if_pos hlt]
   have hm1 : lo <= (lo + hi) / 2 := by omega
   have hm2 : (lo + hi) / 2 < hi := by omega
   have hget : ∃ v, xs[(lo + hi) / 2]? = some v := ⟨xs[(lo + hi) / 2]'(by omega), by simp [show (lo + hi) / 2 < xs.size by omega]⟩
   obtain ⟨v, hv⟩ := hget
   have hd : xs.getD ((lo + hi) / 2) j = v := by simp [Array.getD_eq_getD_getElem?, hv]
   dsimp only
   rw [hd]
   by_cases hvj : v < j
   ·rw [if_pos hvj]
    refine zic xs j hs fuel _ _ (by omega) (by omega) hh (fun i hi' w hw => ?_) h2
    rcases Nat.lt_or_ge i ((lo + hi) / 2) with hi2 | hi2
    ·exact Nat.lt_trans (mono i _ w v hi2 hw hv) hvj
    ·have e : i = (lo + hi) / 2 := by omega
     subst e
     rw [hv] at hw; cases hw; exact hvj
   ·rw [if_neg hvj]
    refine zic xs j hs fuel _ _ (by omega) (by omega) (by omega) h1 fun i hi' w hw => ?_
    rcases Nat.lt_or_ge ((lo + hi) / 2) i with hi2 | hi2
    ·exact Nat.le_trans (by omega) (Nat.le_of_lt (mono _ i v w hi2 hv hw))
    ·have e : i = (lo + hi) / 2 := by omega
     subst e
     rw [hv] at hw; cases hw; omega
  ·rw [if_neg hlt]
   have e : lo = hi := by omega
   subst e
   exact ⟨hh, h1, h2⟩
theorem zib (xs : Array Nat) (j : Nat) (hs : xs.toList.Pairwise (· < ·)) : SetTable.below xs j <= xs.size /\ (∀ i, i < SetTable.below xs j -> ∀ v, xs[i]? = some v -> v < j) /\ ∀ i, SetTable.below xs j <= i -> ∀ v, xs[i]? = some v -> j <= v :=
 zic xs j hs xs.size 0 xs.size (Nat.le_refl _) (Nat.zero_le _) (Nat.le_refl _) (fun i h => absurd h (Nat.not_lt_zero _)) fun i h v hv => by
  have := (Array.getElem?_eq_some_iff.mp hv).1
  omega
theorem zgL (xs : Array Nat) (j i : Nat) (hs : xs.toList.Pairwise (· < ·)) (h : xs[i]? = some j) : SetTable.below xs j = i := by
 obtain ⟨h0, h1, h2⟩ := zib xs j hs
 rcases Nat.lt_trichotomy (SetTable.below xs j) i with hl | hl | hl
 ·have hi := (Array.getElem?_eq_some_iff.mp h).1
  have hg : xs[SetTable.below xs j]? = some (xs[SetTable.below xs j]'(by omega)) := by simp [show SetTable.below xs j < xs.size by omega]
  have q1 := h2 _ (Nat.le_refl _) _ hg
  have := List.pairwise_iff_getElem.mp hs (SetTable.below xs j) i (by simp; omega) (by simpa using hi) hl
  obtain ⟨_, e⟩ := Array.getElem?_eq_some_iff.mp h
  simp only [Array.getElem_toList] at this
  omega
 ·exact hl
 ·have := h1 i hl j h
  omega
structure Tb (t : SetTable) (es : Array (Int × Value)) : Prop where
 full : Full t.mask
 sz : t.place.size = es.size
 dm : t.dummies = #[]
 ri : t.place.toList.Pairwise (· < ·)
 le : ∀ j ∈ t.place.toList, j <= t.mask
 few : es.size * 5 < t.mask * 3
 rc : ∀ (i j : Nat) (h : Int) (x : Value), t.place[i]? = some j -> es[i]? = some (h, x) -> ∃ n, zxi t.mask h n = j /\ ∀ m, m < n -> zxi t.mask h m ∈ t.place.toList
section
variable {t : SetTable} {es : Array (Int × Value)}
theorem Tb.live (T : Tb t es) {j i : Nat} (h : t.place[i]? = some j) : t.slot j = .live i := by
 unfold SetTable.slot
 rw [zgL _ _ _ T.ri h]
 simp [h]
theorem Tb.empty (T : Tb t es) {j : Nat} (h : j ∉ t.place.toList) : t.slot j = .empty := by
 unfold SetTable.slot
 have h1 : t.place[SetTable.below t.place j]? ≠ some j := fun e => h (by
  rw [← Array.getElem?_toList] at e
  exact List.mem_of_getElem? e)
 have h2 : SetTable.has t.dummies j = false := by rw [T.dm]; rfl
 simp [h1, h2]
theorem Tb.occ (T : Tb t es) {j : Nat} (h : j ∈ t.place.toList) : ∃ i : Nat, t.place[i]? = some j := by
 obtain ⟨i, hi⟩ := List.mem_iff_getElem?.mp h
 exact ⟨i, by rw [← Array.getElem?_toList]; exact hi⟩
theorem Tb.fits (T : Tb t es) : t.fits es.size = true := by
 have h1 := T.sz
 have h2 := T.few
 simp only [SetTable.fits, SetTable.fill, T.dm, Array.size_empty, Bool.and_eq_true, beq_iff_eq, decide_eq_true_eq]
 omega
theorem zf3 : ∀ (a b : List Nat), a.Nodup -> (∀ x ∈ a, x ∈ b) -> a.length <= b.length
 | [], _, _, _ => Nat.zero_le _
 | x :: r, b, nd, h => by
  have hx := h x List.mem_cons_self
  have nd' := List.nodup_cons.mp nd
  have := zf3 r (b.erase x) nd'.2 fun y hy => (List.mem_erase_of_ne (show y ≠ x from fun e => nd'.1 (by rw [← e]; exact hy))).mpr (h y (List.mem_cons_of_mem _ hy))
  have hl := List.length_erase_of_mem hx
  have hp : 0 < b.length := List.length_pos_of_mem hx
  rw [List.length_cons]
  omega
theorem Tb.free (T : Tb t es) : ∃ j, j <= t.mask /\ decide (j ∈ t.place.toList) = false := by
 by_cases hx : ∃ j, j <= t.mask /\ j ∉ t.place.toList
 ·obtain ⟨j, h1, h2⟩ := hx
  exact ⟨j, h1, decide_eq_false h2⟩
 ·exfalso
  have all : ∀ j, j <= t.mask -> j ∈ t.place.toList := fun j hj => Classical.byContradiction fun hn => hx ⟨j, hj, hn⟩
  have h1 := zf3 (List.range (t.mask + 1)) t.place.toList List.nodup_range fun j hj => all j (by have := List.mem_range.mp hj; omega)
  have h2 := T.sz
  have h3 := T.few
  simp only [List.length_range, Array.length_toList] at h1
  omega
theorem Tb.first (T : Tb t es) (h : Int) : ∃ n, n < 10 * (t.mask + 15) /\ zxi t.mask h n ∉ t.place.toList /\ ∀ m, m < n -> zxi t.mask h m ∈ t.place.toList := by
 obtain ⟨n, h1, h2, h3⟩ := T.full.first h (fun j => decide (j ∈ t.place.toList)) T.free
 exact ⟨n, h1, of_decide_eq_false h2, fun m hm => of_decide_eq_true (h3 m hm)⟩
def zcA (p : Pr) : SetTable.Probe := { j := p.j, more := p.more, i := p.i, perturb := p.pt, dummy := none }
theorem zoU (t : SetTable) (p : Pr) : t.advance (zcA p) = zcA (zvm t.mask p) := by
 unfold SetTable.advance zvm zcA
 by_cases h : p.more > 0
 ·simp only [h, if_true]
 ·simp only [h, if_false]
theorem Tb.probe_go (T : Tb t es) (hashAt : Nat -> Int) (h : Int) {n0 : Nat} (hf : zxi t.mask h n0 ∉ t.place.toList) (ho : ∀ m, m < n0 -> zxi t.mask h m ∈ t.place.toList) : ∀ (fuel n : Nat), n <= n0 -> n0 < n + fuel ->
  (∃ n' i, n <= n' /\ n' < n0 /\ t.place[i]? = some (zxi t.mask h n') /\ hashAt i = h /\ (∀ m i, n <= m -> m < n' -> t.place[i]? = some (zxi t.mask h m) -> hashAt i ≠ h) /\ SetTable.probe.go t hashAt h fuel (zcA (zxf t.mask h n)) = some (.candidate (zxi t.mask h n') i (zcA (zxf t.mask h (n' + 1))))) \/
  ((∀ m i, n <= m -> m < n0 -> t.place[i]? = some (zxi t.mask h m) -> hashAt i ≠ h) /\ SetTable.probe.go t hashAt h fuel (zcA (zxf t.mask h n)) = some (.empty (zxi t.mask h n0) none))
 | 0, n, h1, h2 => by omega
 | fuel + 1, n, h1, h2 => by
  unfold SetTable.probe.go
  by_cases hn : n = n0
  ·subst hn
   right
   refine ⟨fun m i a b => by omega, ?_⟩
   have hs : t.slot (zcA (zxf t.mask h n)).j = .empty := T.empty hf
   rw [hs]
   rfl
  ·obtain ⟨i, hi⟩ := T.occ (ho n (by omega))
   have hs : t.slot (zcA (zxf t.mask h n)).j = .live i := T.live hi
   rw [hs]
   dsimp only
   by_cases hh : hashAt i = h
   ·left
    refine ⟨n, i, Nat.le_refl _, by omega, hi, hh, fun m i a b => by omega, ?_⟩
    rw [if_pos (by simpa using hh), zoU]
    rfl
   ·rw [if_neg (by simpa using hh), zoU]
    have inj : ∀ i', t.place[i']? = some (zxi t.mask h n) -> i' = i := fun i' h' => by
     rw [← zgL _ _ _ T.ri h', ← zgL _ _ _ T.ri hi]
    have ext : ∀ {b : Nat}, (∀ m i, n + 1 <= m -> m < b -> t.place[i]? = some (zxi t.mask h m) -> hashAt i ≠ h) -> ∀ m i, n <= m -> m < b -> t.place[i]? = some (zxi t.mask h m) -> hashAt i ≠ h := fun {b} q m i' a c d => by
     by_cases e : m = n
     ·subst e
      rw [inj i' d]; exact hh
     ·exact q m i' (by omega) c d
    rcases T.probe_go hashAt h hf ho fuel (n + 1) (by omega) (by omega) with ⟨n', i', a, b, c, d, e, f⟩ | ⟨e, f⟩
    ·exact .inl ⟨n', i', by omega, b, c, d, ext e, f⟩
    ·exact .inr ⟨ext e, f⟩
theorem zcs {α : Type} (xs : Array α) (p : Nat) (x : α) (hp : p <= xs.size) : (SetTable.insertAt xs p x).toList = xs.toList.take p ++ x :: xs.toList.drop p := by
 unfold SetTable.insertAt
 simp [Array.toList_extract, List.extract_eq_take_drop]
 exact List.take_of_length_le (by simp)
theorem zhp {α : Type} (l : List α) (p : Nat) (x : α) (hp : p <= l.length) (i : Nat) : (l.take p ++ x :: l.drop p)[i]? = if i < p then l[i]? else if i = p then some x else l[i - 1]? := by
 by_cases h1 : i < p
 ·rw [if_pos h1, List.getElem?_append_left (by rw [List.length_take]; omega), List.getElem?_take_of_lt h1]
 ·rw [if_neg h1, List.getElem?_append_right (by rw [List.length_take]; omega), List.length_take, Nat.min_eq_left hp]
  by_cases h2 : i = p
  ·rw [if_pos h2, h2]; simp
  ·rw [if_neg h2]
   obtain ⟨k, hk⟩ : ∃ k, i - p = k + 1 := ⟨i - p - 1, by omega⟩
   rw [hk, List.getElem?_cons_succ, List.getElem?_drop]
   congr 1
   omega
theorem zfc {α : Type} (l : List α) (p : Nat) (x y : α) : y ∈ l.take p ++ x :: l.drop p ↔ y = x \/ y ∈ l := by
 rw [List.mem_append, List.mem_cons]
 constructor
 ·rintro (h | h | h)
  ·exact .inr (List.mem_of_mem_take h)
  ·exact .inl h
  ·exact .inr (List.mem_of_mem_drop h)
 ·rintro (h | h)
  ·exact .inr (.inl h)
  ·have : y ∈ l.take p ++ l.drop p := by rw [List.take_append_drop]; exact h
   rcases List.mem_append.mp this with h | h
   ·exact .inl h
   ·exact .inr (.inr h)
theorem Tb.put (T : Tb t es) {h : Int} {x : Value} {n0 : Nat} (hf : zxi t.mask h n0 ∉ t.place.toList) (ho : ∀ m, m < n0 -> zxi t.mask h m ∈ t.place.toList) (few : (es.size + 1) * 5 < t.mask * 3) (pl : Bool) :
  Tb { (t.put (zxi t.mask h n0)).1 with plain := pl } (SetTable.insertAt es (t.put (zxi t.mask h n0)).2 (h, x)) := by
 obtain ⟨b0, zwE, zxj⟩ := zib t.place (zxi t.mask h n0) T.ri
 have bes : SetTable.below t.place (zxi t.mask h n0) <= es.size := by rw [← T.sz]; exact b0
 have pl1 : (SetTable.insertAt t.place (SetTable.below t.place (zxi t.mask h n0)) (zxi t.mask h n0)).toList = t.place.toList.take (SetTable.below t.place (zxi t.mask h n0)) ++ zxi t.mask h n0 :: t.place.toList.drop (SetTable.below t.place (zxi t.mask h n0)) := zcs _ _ _ b0
 have el1 : (SetTable.insertAt es (SetTable.below t.place (zxi t.mask h n0)) (h, x)).toList = es.toList.take (SetTable.below t.place (zxi t.mask h n0)) ++ (h, x) :: es.toList.drop (SetTable.below t.place (zxi t.mask h n0)) := zcs _ _ _ bes
 have szp : (SetTable.insertAt t.place (SetTable.below t.place (zxi t.mask h n0)) (zxi t.mask h n0)).size = t.place.size + 1 := by
  rw [← Array.length_toList, pl1]; simp; omega
 have sze : (SetTable.insertAt es (SetTable.below t.place (zxi t.mask h n0)) (h, x)).size = es.size + 1 := by
  rw [← Array.length_toList, el1]; simp; omega
 refine ⟨T.full, ?_, ?_, ?_, ?_, ?_, ?_⟩
 ·show (SetTable.insertAt t.place _ _).size = _
  rw [szp]
  show _ = (SetTable.insertAt es (SetTable.below t.place (zxi t.mask h n0)) (h, x)).size
  rw [sze, T.sz]
 ·show (if SetTable.has t.dummies (zxi t.mask h n0) = true then _ else t.dummies) = #[]
  rw [T.dm]; rfl
 ·show (SetTable.insertAt t.place (SetTable.below t.place (zxi t.mask h n0)) (zxi t.mask h n0)).toList.Pairwise (· < ·)
  rw [pl1, List.pairwise_append, List.pairwise_cons]
  have tk : ∀ a ∈ t.place.toList.take (SetTable.below t.place (zxi t.mask h n0)), a < zxi t.mask h n0 := fun a ha => by
   obtain ⟨i, hi⟩ := List.mem_iff_getElem?.mp ha
   have hi' : i < SetTable.below t.place (zxi t.mask h n0) := by
    have := (List.getElem?_eq_some_iff.mp hi).1
    rw [List.length_take] at this; omega
   rw [List.getElem?_take_of_lt hi', Array.getElem?_toList] at hi
   exact zwE i hi' a hi
  have dr : ∀ a ∈ t.place.toList.drop (SetTable.below t.place (zxi t.mask h n0)), zxi t.mask h n0 < a := fun a ha => by
   obtain ⟨i, hi⟩ := List.mem_iff_getElem?.mp ha
   rw [List.getElem?_drop, Array.getElem?_toList] at hi
   have h1 := zxj _ (Nat.le_add_right _ i) a hi
   rcases Nat.lt_or_ge (zxi t.mask h n0) a with q | q
   ·exact q
   ·exact absurd (by rw [← Array.getElem?_toList] at hi; have e : a = zxi t.mask h n0 := (by omega); rw [e] at hi; exact List.mem_of_getElem? hi) hf
  refine ⟨T.ri.sublist (List.take_sublist _ _), ⟨dr, T.ri.sublist (List.drop_sublist _ _)⟩, fun a ha b hb => ?_⟩
  rcases List.mem_cons.mp hb with e | hb
  ·rw [e]; exact tk a ha
  ·exact Nat.lt_trans (tk a ha) (dr b hb)
 ·intro j hj
  have hj' : j ∈ (SetTable.insertAt t.place (SetTable.below t.place (zxi t.mask h n0)) (zxi t.mask h n0)).toList := hj
  rw [pl1, zfc] at hj'
  rcases hj' with e | hj'
  ·rw [e]; exact ztb _ _ _
  ·exact T.le j hj'
 ·show (SetTable.insertAt es (SetTable.below t.place (zxi t.mask h n0)) (h, x)).size * 5 < t.mask * 3
  rw [sze]; exact few
 ·intro i j h' x' e1 e2
  have e1' : (SetTable.insertAt t.place (SetTable.below t.place (zxi t.mask h n0)) (zxi t.mask h n0)).toList[i]? = some j := by rw [Array.getElem?_toList]; exact e1
  have e2' : (SetTable.insertAt es (SetTable.below t.place (zxi t.mask h n0)) (h, x)).toList[i]? = some (h', x') := by rw [Array.getElem?_toList]; exact e2
  rw [pl1, zhp _ _ _ (by simpa using b0)] at e1'
  rw [el1, zhp _ _ _ (by simpa using bes)] at e2'
  have up : ∀ {n : Nat}, (∀ m, m < n -> zxi t.mask h' m ∈ t.place.toList) -> ∀ m, m < n -> zxi t.mask h' m ∈ (SetTable.insertAt t.place (SetTable.below t.place (zxi t.mask h n0)) (zxi t.mask h n0)).toList := fun q m hm => by
   rw [pl1, zfc]; exact .inr (q m hm)
  by_cases c1 : i < SetTable.below t.place (zxi t.mask h n0)
  ·rw [if_pos c1] at e1' e2'
   rw [Array.getElem?_toList] at e1' e2'
   obtain ⟨n, hn, q⟩ := T.rc i j h' x' e1' e2'
   exact ⟨n, hn, up q⟩
  ·rw [if_neg c1] at e1' e2'
   by_cases c2 : i = SetTable.below t.place (zxi t.mask h n0)
   ·rw [if_pos c2] at e1' e2'
    cases e1'
    cases e2'
    exact ⟨n0, rfl, up ho⟩
   ·rw [if_neg c2] at e1' e2'
    rw [Array.getElem?_toList] at e1' e2'
    obtain ⟨n, hn, q⟩ := T.rc _ j h' x' e1' e2'
    exact ⟨n, hn, up q⟩
end
end ST
end
section
namespace ST
open PySem
def zcr (owner : Array (Option Nat)) (j : Nat) : Bool := (owner.getD j (some 0)).isNone
theorem zlz {M : Nat} {h : Int} {n r : Nat} (e : zxf M h n = zjR M (zw6 M h r)) {k : Nat} (hk : k < SetTable.runEnd M (zw6 M h r).1 + 1 - (zw6 M h r).1) : zxi M h (n + k) = (zw6 M h r).1 + k := by
 unfold zxi
 rw [zkl, e, znd M k _ (by show k <= SetTable.runEnd M (zw6 M h r).1 - (zw6 M h r).1; omega)]
 rfl
theorem znl {M : Nat} {h : Int} {n r : Nat} (e : zxf M h n = zjR M (zw6 M h r)) : zxf M h (n + (SetTable.runEnd M (zw6 M h r).1 + 1 - (zw6 M h r).1)) = zjR M (zw6 M h (r + 1)) := by
 have hge : (zw6 M h r).1 <= SetTable.runEnd M (zw6 M h r).1 := by unfold SetTable.runEnd; split <;> omega
 have e2 := znd M (SetTable.runEnd M (zw6 M h r).1 - (zw6 M h r).1) (zjR M (zw6 M h r)) (Nat.le_refl _)
 rw [show n + (SetTable.runEnd M (zw6 M h r).1 + 1 - (zw6 M h r).1) = n + (SetTable.runEnd M (zw6 M h r).1 - (zw6 M h r).1) + 1 by omega, zxf, zkl, e, e2]
 unfold zvm
 rw [if_neg (by show ¬ ((SetTable.runEnd M (zw6 M h r).1 - (zw6 M h r).1) - (SetTable.runEnd M (zw6 M h r).1 - (zw6 M h r).1) > 0); omega)]
 rfl
theorem zmo {M : Nat} {h : Int} (owner : Array (Option Nat)) {rs : Nat} (hfr : zcr owner (zw6 M h rs).1 = true) : ∀ (fuel r n : Nat), zxf M h n = zjR M (zw6 M h r) -> r <= rs -> rs < r + fuel -> (∀ m, m < n -> zcr owner (zxi M h m) = false) ->
  ∃ n', zcr owner (zxi M h n') = true /\ (∀ m, m < n' -> zcr owner (zxi M h m) = false) /\ SetTable.layClean.free M owner fuel (zw6 M h r).1 (zw6 M h r).2 = some (zxi M h n')
 | 0, r, n, _, h1, h2, _ => by omega
 | fuel + 1, r, n, e, h1, h2, h3 => by
  unfold SetTable.layClean.free
  cases hf : (List.range (SetTable.runEnd M (zw6 M h r).1 + 1 - (zw6 M h r).1)).find? (fun k => (owner.getD ((zw6 M h r).1 + k) (some 0)).isNone) with
  | some k =>
   have hk := List.mem_range.mp (List.mem_of_find?_eq_some hf)
   have hp : zcr owner ((zw6 M h r).1 + k) = true := by
    have := List.find?_some hf
    exact this
   refine ⟨n + k, by rw [zlz e hk]; exact hp, fun m hm => ?_, ?_⟩
   ·rcases Nat.lt_or_ge m n with c | c
    ·exact h3 m c
    ·obtain ⟨d, rfl⟩ : ∃ d, m = n + d := ⟨m - n, by omega⟩
     rw [zlz e (by omega)]
     obtain ⟨as, bs, hab, hno⟩ := (List.find?_eq_some_iff_append.mp hf).2
     have hd : d ∈ as := by
      have hl : as = List.range k := by
       have hlen : as.length = k := by
        have : (List.range (SetTable.runEnd M (zw6 M h r).1 + 1 - (zw6 M h r).1))[as.length]? = some k := by rw [hab]; simp
        rw [List.getElem?_range] at this
        ·exact Option.some.inj this
        ·have := congrArg List.length hab
         simp at this
         omega
       have := congrArg (List.take k) hab
       rw [List.take_range, Nat.min_eq_left (by omega), ← hlen, List.take_left'] at this
       ·rw [hlen] at this; exact this.symm
       ·rfl
      rw [hl]; exact List.mem_range.mpr (by omega)
     have := hno d hd
     exact Bool.eq_false_iff.mpr (fun z => by rw [show (owner.getD ((zw6 M h r).1 + d) (some 0)).isNone = true from z] at this; cases this)
   ·rw [zlz e hk]
  | none =>
   have hn : ∀ k, k < SetTable.runEnd M (zw6 M h r).1 + 1 - (zw6 M h r).1 -> zcr owner (zxi M h (n + k)) = false := fun k hk => by
    rw [zlz e hk]
    have := List.find?_eq_none.mp hf k (List.mem_range.mpr hk)
    exact Bool.eq_false_iff.mpr this
   have hge : (zw6 M h r).1 <= SetTable.runEnd M (zw6 M h r).1 := by unfold SetTable.runEnd; split <;> omega
   have hr : r ≠ rs := fun z => by
    subst z
    have := hn 0 (by omega)
    rw [zlz e (by omega), Nat.add_zero, hfr] at this
    cases this
   exact zmo owner hfr fuel (r + 1) _ (znl e) (by omega) (by omega) fun m hm => by
    rcases Nat.lt_or_ge m n with c | c
    ·exact h3 m c
    ·obtain ⟨d, rfl⟩ : ∃ d, m = n + d := ⟨m - n, by omega⟩
     exact hn d (by omega)
theorem Full.free {M : Nat} (F : Full M) (h : Int) (owner : Array (Option Nat)) (hf : ∃ j, j <= M /\ zcr owner j = true) :
  ∃ n, zcr owner (zxi M h n) = true /\ (∀ m, m < n -> zcr owner (zxi M h m) = false) /\ SetTable.layClean.free M owner (SetTable.turns M) (SetTable.bits h % (M + 1)) (SetTable.bits h) = some (zxi M h n) := by
 obtain ⟨j, hj, hjf⟩ := hf
 obtain ⟨m, hm, e⟩ := F.reach (zp4 M h 13) hj
 have hl : (zw6 M h (13 + m)).1 = j := by rw [zlZ, e]
 exact zmo owner (rs := 13 + m) (by rw [hl]; exact hjf) (SetTable.turns M) 0 0 rfl (Nat.zero_le _) (by unfold SetTable.turns; omega) fun m hm => absurd hm (Nat.not_lt_zero _)
structure Own (M : Nat) (hs : List Int) (owner : Array (Option Nat)) : Prop where
 sz : owner.size = M + 1
 lt : ∀ (j k : Nat), owner[j]? = some (some k) -> k < hs.length
 on : ∀ k, k < hs.length -> ∃ j : Nat, owner[j]? = some (some k)
 inj : ∀ (j j' k : Nat), owner[j]? = some (some k) -> owner[j']? = some (some k) -> j = j'
 rc : ∀ (j k : Nat) h, owner[j]? = some (some k) -> hs[k]? = some h -> ∃ n, zxi M h n = j /\ ∀ m, m < n -> zcr owner (zxi M h m) = false
theorem zdg {owner : Array (Option Nat)} {j : Nat} : zcr owner j = true ↔ owner[j]? = some none := by
 unfold zcr
 rw [Array.getD_eq_getD_getElem?]
 cases e : owner[j]? with
 | none => simp
 | some o => cases o <;> simp
theorem Own.empty (M : Nat) : Own M [] (Array.replicate (M + 1) none) := by
 have no : ∀ (j k : Nat), (Array.replicate (M + 1) (none : Option Nat))[j]? = some (some k) -> False := fun j k h => by
  rw [Array.getElem?_replicate] at h
  split at h <;> cases h
 exact ⟨by simp, fun j k h => (no j k h).elim, fun k h => absurd h (Nat.not_lt_zero _), fun j _ k h _ => (no j k h).elim, fun j k _ h _ => (no j k h).elim⟩
theorem Own.room {M : Nat} {hs : List Int} {owner : Array (Option Nat)} (O : Own M hs owner) (hr : hs.length <= M) : ∃ j, j <= M /\ zcr owner j = true := by
 by_cases hx : ∃ j, j <= M /\ zcr owner j = true
 ·exact hx
 ·exfalso
  have all : ∀ j, j <= M -> ∃ k, owner[j]? = some (some k) := fun j hj => by
   have h1 : zcr owner j ≠ true := fun z => hx ⟨j, hj, z⟩
   have h2 : j < owner.size := by rw [O.sz]; omega
   cases q : owner[j] with
   | none => exact absurd (zdg.mpr (by simp [h2, q])) h1
   | some k => exact ⟨k, by simp [h2, q]⟩
  have pig := zf3 ((List.range (M + 1)).map fun j => ((owner[j]?).join).getD 0) (List.range hs.length) ?_ ?_
  ·rw [List.length_map, List.length_range, List.length_range] at pig
   omega
  ·refine List.nodup_iff_pairwise_ne.mpr (List.pairwise_map.mpr (List.Pairwise.imp_of_mem ?_ List.nodup_range))
   intro a b ha hb hab e
   obtain ⟨k, hk⟩ := all a (by have := List.mem_range.mp ha; omega)
   obtain ⟨k', hk'⟩ := all b (by have := List.mem_range.mp hb; omega)
   simp only [hk, hk', Option.join_some, Option.getD_some] at e
   subst e
   exact hab (O.inj a b k hk hk')
  ·intro x hx'
   obtain ⟨j, hj, rfl⟩ := List.mem_map.mp hx'
   obtain ⟨k, hk⟩ := all j (by have := List.mem_range.mp hj; omega)
   simp only [hk, Option.join_some, Option.getD_some]
   exact List.mem_range.mpr (O.lt j k hk)
theorem Own.more {M : Nat} {hs : List Int} {owner : Array (Option Nat)} (O : Own M hs owner) {h : Int} {n : Nat} (hf : zcr owner (zxi M h n) = true) (ho : ∀ m, m < n -> zcr owner (zxi M h m) = false) :
  Own M (hs ++ [h]) (owner.setIfInBounds (zxi M h n) (some hs.length)) := by
 have hlt : zxi M h n < owner.size := by rw [O.sz]; have := ztb M h n; omega
 have hold := zdg.mp hf
 have get : ∀ j : Nat, (owner.setIfInBounds (zxi M h n) (some hs.length))[j]? = if j = zxi M h n then some (some hs.length) else owner[j]? := fun j => by
  rw [Array.getElem?_setIfInBounds]
  by_cases e : zxi M h n = j
  ·subst e; simp [hlt]
  ·rw [if_neg e, if_neg (Ne.symm e)]
 have stay : ∀ {j k : Nat}, owner[j]? = some (some k) -> (owner.setIfInBounds (zxi M h n) (some hs.length))[j]? = some (some k) := fun {j k} q => by
  rw [get, if_neg]
  ·exact q
  ·intro e; rw [e, hold] at q; cases q
 have notfree : ∀ {j : Nat}, zcr owner j = false -> zcr (owner.setIfInBounds (zxi M h n) (some hs.length)) j = false := fun {j} q => by
  refine Bool.eq_false_iff.mpr fun z => ?_
  have z' := zdg.mp z
  rw [get] at z'
  split at z'
  ·cases z'
  ·rw [zdg.mpr z'] at q; cases q
 refine ⟨by simp [O.sz], fun j k q => ?_, fun k hk => ?_, fun j j' k q q' => ?_, fun j k h' q q' => ?_⟩
 ·rw [get] at q
  rw [List.length_append, List.length_singleton]
  split at q
  ·cases q; omega
  ·have := O.lt j k q; omega
 ·rw [List.length_append, List.length_singleton] at hk
  by_cases e : k = hs.length
  ·exact ⟨zxi M h n, by rw [get, if_pos rfl, e]⟩
  ·obtain ⟨j, hj⟩ := O.on k (by omega)
   exact ⟨j, stay hj⟩
 ·rw [get] at q q'
  split at q
  ·rename_i c
   cases q
   split at q'
   ·rename_i c'; rw [c, c']
   ·have := O.lt j' _ q'; omega
  ·split at q'
   ·cases q'
    have := O.lt j _ q; omega
   ·exact O.inj j j' k q q'
 ·rw [get] at q
  split at q
  ·rename_i c
   cases q
   rw [List.getElem?_append_right (Nat.le_refl _)] at q'
   simp at q'
   subst q'
   exact ⟨n, c.symm, fun m hm => notfree (ho m hm)⟩
  ·have hk := O.lt j k q
   rw [List.getElem?_append_left hk] at q'
   obtain ⟨n', e, r⟩ := O.rc j k h' q q'
   exact ⟨n', e, fun m hm => notfree (r m hm)⟩
theorem Full.lays {M : Nat} (F : Full M) (hs : Array Int) (hr : hs.size <= M) : ∃ owner, SetTable.layClean M hs = some owner /\ Own M hs.toList owner := by
 have all : ∀ (zcM done : List Int) (owner : Array (Option Nat)), Own M done owner -> (done ++ zcM).length <= M -> ∃ owner', Own M (done ++ zcM) owner' /\
   zcM.foldl (fun (acc : Option (Array (Option Nat) × Nat)) h => do
    let (owner, k) ← acc
    let j ← SetTable.layClean.free M owner (SetTable.turns M) (SetTable.bits h % (M + 1)) (SetTable.bits h)
    pure (owner.setIfInBounds j (some k), k + 1)) (some (owner, done.length)) = some (owner', (done ++ zcM).length) := by
  intro zcM
  induction zcM with
  | nil => intro done owner O _; exact ⟨owner, by rw [List.append_nil]; exact O, by simp⟩
  | cons h r ih =>
   intro done owner O hl
   obtain ⟨n, h1, h2, h3⟩ := F.free h owner (O.room (by simp at hl; omega))
   have O' := O.more h1 h2
   obtain ⟨owner', O2, e⟩ := ih (done ++ [h]) _ O' (by simpa using hl)
   refine ⟨owner', by simpa using O2, ?_⟩
   rw [List.foldl_cons]
   have e1 : (do
    let (owner, k) ← some (owner, done.length)
    let j ← SetTable.layClean.free M owner (SetTable.turns M) (SetTable.bits h % (M + 1)) (SetTable.bits h)
    pure (owner.setIfInBounds j (some k), k + 1) : Option (Array (Option Nat) × Nat)) = some (owner.setIfInBounds (zxi M h n) (some done.length), done.length + 1) := by
    show (SetTable.layClean.free M owner (SetTable.turns M) (SetTable.bits h % (M + 1)) (SetTable.bits h) >>= fun j => pure (owner.setIfInBounds j (some done.length), done.length + 1)) = _
    rw [h3]; rfl
   rw [e1]
   rw [List.length_append, List.length_singleton] at e
   rw [e]
   simp
 obtain ⟨owner', O, e⟩ := all hs.toList [] _ (Own.empty M) (by simpa using hr)
 refine ⟨owner', ?_, by simpa using O⟩
 unfold SetTable.layClean
 rw [← Array.foldl_toList]
 have e' := congrArg (Option.map (·.1)) e
 exact e'
end ST
end
section
namespace ST
open PySem
theorem zoG {α β : Type} (f : α -> Option β) : ∀ (l : List α), (∀ k ∈ l, ∃ y, f k = some y) -> ∀ i : Nat, (l.filterMap f)[i]? = (l[i]?).bind f
 | [], _, i => by simp
 | k :: r, h, i => by
  obtain ⟨y, hy⟩ := h k List.mem_cons_self
  rw [List.filterMap_cons_some hy]
  cases i with
  | zero => simp [hy]
  | succ i => simp only [List.getElem?_cons_succ]; exact zoG f r (fun k hk => h k (List.mem_cons_of_mem _ hk)) i
theorem zoF {α β : Type} (f : α -> Option β) : ∀ (l : List α), (∀ k ∈ l, ∃ y, f k = some y) -> (l.filterMap f).length = l.length
 | [], _ => rfl
 | k :: r, h => by
  obtain ⟨y, hy⟩ := h k List.mem_cons_self
  rw [List.filterMap_cons_some hy, List.length_cons, List.length_cons, zoF f r fun k hk => h k (List.mem_cons_of_mem _ hk)]
def zds (M : Nat) (owner : Array (Option Nat)) : List (Nat × Nat) := (List.range (M + 1)).filterMap fun j => (owner.getD j none).map (j, ·)
theorem zcP {M : Nat} {owner : Array (Option Nat)} (hsz : owner.size = M + 1) {j k : Nat} : (j, k) ∈ zds M owner ↔ owner[j]? = some (some k) := by
 unfold zds
 rw [List.mem_filterMap]
 constructor
 ·rintro ⟨j', hj', e⟩
  rw [Array.getD_eq_getD_getElem?] at e
  cases q : owner[j']? with
  | none => rw [q] at e; cases e
  | some o =>
   rw [q] at e
   cases o with
   | none => cases e
   | some k' => cases e; exact q
 ·intro q
  have hj : j < owner.size := (Array.getElem?_eq_some_iff.mp q).1
  exact ⟨j, List.mem_range.mpr (by omega), by rw [Array.getD_eq_getD_getElem?, q]; rfl⟩
theorem zgn (M : Nat) (owner : Array (Option Nat)) : ((zds M owner).map (·.1)).Pairwise (· < ·) := by
 unfold zds
 rw [List.pairwise_map]
 refine List.Pairwise.filterMap _ ?_ (List.pairwise_lt_range (n := M + 1))
 intro a a' haa b hb b' hb'
 obtain ⟨k, _, rfl⟩ := oMd hb
 obtain ⟨k', _, rfl⟩ := oMd hb'
 exact haa
theorem zkV {M : Nat} {hs : List Int} {owner : Array (Option Nat)} (O : Own M hs owner) : ((zds M owner).map (·.2)).Nodup := by
 have h1 := List.pairwise_map.mp (zgn M owner)
 refine List.nodup_iff_pairwise_ne.mpr (List.pairwise_map.mpr (List.Pairwise.imp_of_mem ?_ h1))
 rintro ⟨j, k⟩ ⟨j', k'⟩ ha hb hlt e
 have e' : k = k' := e
 subst e'
 have := O.inj j j' k ((zcP O.sz).mp ha) ((zcP O.sz).mp hb)
 have hlt' : j < j' := hlt
 omega
theorem znJ {M : Nat} {hs : List Int} {owner : Array (Option Nat)} (O : Own M hs owner) : (zds M owner).length = hs.length := by
 have h1 := zf3 ((zds M owner).map (·.2)) (List.range hs.length) (zkV O) fun k hk => by
  obtain ⟨⟨j, k'⟩, hm, rfl⟩ := List.mem_map.mp hk
  exact List.mem_range.mpr (O.lt j k' ((zcP O.sz).mp hm))
 have h2 := zf3 (List.range hs.length) ((zds M owner).map (·.2)) List.nodup_range fun k hk => by
  obtain ⟨j, hj⟩ := O.on k (List.mem_range.mp hk)
  exact List.mem_map.mpr ⟨(j, k), (zcP O.sz).mpr hj, rfl⟩
 rw [List.length_map, List.length_range] at h1 h2
 omega
theorem Full.relaid {t : SetTable} {es : Array (Int × Value)} {wanted : Nat} (F : Full (SetTable.sizeAbove wanted - 1)) (few : es.size * 5 < (SetTable.sizeAbove wanted - 1) * 3) :
  ∃ t' order, t.relaid (es.map (·.1)) wanted = some (t', order) /\ (order.filterMap (es[·]?)).size = es.size /\ Tb t' (order.filterMap (es[·]?)) /\ (∀ e, e ∈ (order.filterMap (es[·]?)).toList ↔ e ∈ es.toList) /\ t'.mask = SetTable.sizeAbove wanted - 1 /\ t'.led = t.led := by
 generalize hM : SetTable.sizeAbove wanted - 1 = M at F few
 obtain ⟨owner, hl, O⟩ := F.lays (es.map (·.1)) (by simp; omega)
 have hlen : (es.map (·.1)).toList.length = es.size := by simp
 have llen : (zds M owner).length = es.size := by rw [znJ O, hlen]
 refine ⟨{ mask := M, place := ((zds M owner).map (·.1)).toArray, dummies := #[], finger := t.finger, led := t.led, moves := t.movedTo M, plain := t.plain }, ((zds M owner).map (·.2)).toArray, ?_, ?_⟩
 ·unfold SetTable.relaid
  rw [hM]
  unfold SetTable.laid
  rw [hl]
  rfl
 ·have hall : ∀ k ∈ (zds M owner).map (·.2), ∃ y, es[k]? = some y := fun k hk => by
   obtain ⟨⟨j, k'⟩, hm, rfl⟩ := List.mem_map.mp hk
   have := O.lt j k' ((zcP O.sz).mp hm)
   rw [hlen] at this
   exact ⟨es[k'], by simp [this]⟩
  have etl : (Array.filterMap (fun x => es[x]?) ((zds M owner).map (·.2)).toArray).toList = ((zds M owner).map (·.2)).filterMap (fun x => es[x]?) := by simp
  have esz : (Array.filterMap (fun x => es[x]?) ((zds M owner).map (·.2)).toArray).size = es.size := by
   rw [← Array.length_toList, etl, zoF _ _ hall, List.length_map, llen]
  refine ⟨esz, ⟨F, ?_, rfl, ?_, ?_, ?_, ?_⟩, fun e => ?_, rfl, rfl⟩
  ·rw [esz]; simp [llen]
  ·show ((zds M owner).map (·.1)).toArray.toList.Pairwise (· < ·)
   exact zgn M owner
  ·intro j hj
   have hj' : j ∈ (zds M owner).map (·.1) := hj
   obtain ⟨⟨j', k⟩, hm, rfl⟩ := List.mem_map.mp hj'
   have := (Array.getElem?_eq_some_iff.mp ((zcP O.sz).mp hm)).1
   rw [O.sz] at this
   show j' <= M
   omega
  ·rw [esz]; exact few
  ·intro i j h x e1 e2
   have e1' : ((zds M owner).map (·.1))[i]? = some j := by simpa using e1
   rw [← Array.getElem?_toList, etl, zoG _ _ hall, List.getElem?_map] at e2
   rw [List.getElem?_map] at e1'
   obtain ⟨⟨j', k⟩, hm, rfl⟩ := oMd e1'
   rw [hm] at e2
   have e2' : es[k]? = some (h, x) := e2
   have ho := (zcP O.sz).mp (List.mem_of_getElem? hm)
   obtain ⟨n, hn, q⟩ := O.rc j' k h ho (by simp [e2'])
   refine ⟨n, hn, fun m hm' => ?_⟩
   have hnf := q m hm'
   have hle := ztb M h m
   have hlt : zxi M h m < owner.size := by rw [O.sz]; omega
   cases c : owner[zxi M h m] with
   | none =>
    rw [zdg.mpr (by simp [hlt, c])] at hnf; cases hnf
   | some k' =>
    show zxi M h m ∈ (zds M owner).map (·.1)
    exact List.mem_map.mpr ⟨(zxi M h m, k'), (zcP O.sz).mpr (by simp [hlt, c]), rfl⟩
  ·rw [etl, List.mem_filterMap]
   constructor
   ·rintro ⟨k, _, hk⟩
    rw [← Array.getElem?_toList] at hk
    exact List.mem_of_getElem? hk
   ·intro he
    obtain ⟨k, hk⟩ := List.mem_iff_getElem?.mp he
    rw [Array.getElem?_toList] at hk
    have hlt := (Array.getElem?_eq_some_iff.mp hk).1
    obtain ⟨j, hj⟩ := O.on k (by rw [hlen]; exact hlt)
    exact ⟨k, List.mem_map.mpr ⟨(j, k), (zcP O.sz).mpr hj, rfl⟩, hk⟩
def zwH (M : Nat) : Prop := M = 7 \/ M = 31 \/ M = 127 \/ M = 511
theorem zwH.full {M : Nat} (h : zwH M) : Full M := by
 rcases h with h | h | h | h <;> subst h
 ·exact zrW
 ·exact zrX
 ·exact zqj
 ·exact zqi
theorem zwH.grow {M n : Nat} (h : zwH M) (h1 : n * 5 < M * 3) (h2 : ¬ (n + 1) * 5 < M * 3) (hn : n <= 300) : zwH (SetTable.sizeAbove (SetTable.grown (n + 1)) - 1) /\ (n + 1) * 5 < (SetTable.sizeAbove (SetTable.grown (n + 1)) - 1) * 3 /\ SetTable.sizeAbove (SetTable.grown (n + 1)) <= 512 := by
 rcases h with h | h | h | h <;> subst h
 ·have : n = 4 := by omega
  subst this
  exact ⟨.inr (.inl (by decide)), by decide, by decide⟩
 ·have : n = 18 := by omega
  subst this
  exact ⟨.inr (.inr (.inl (by decide))), by decide, by decide⟩
 ·have : n = 76 := by omega
  subst this
  exact ⟨.inr (.inr (.inr (by decide))), by decide, by decide⟩
 ·omega
end ST
end
section
namespace ST
open PySem PySem.Spec PyProof.Rows
section
variable {prog : Program} {w : World} {A : Around} {R : Result -> Shared -> Prop} {I : Addr} {fp wr : List Addr} {G : Array GenState -> Array GenState -> Prop} {n : Nat} {P : Nat -> Value -> Prop} {zxd : Nat -> Shared -> Prop}
def ztu (prog : Program) (w : World) (A : Around) (S : Addr) (Ba : Heap -> Prop) (P : Nat -> Value -> Prop) (n : Nat) (zxi : Nat -> Obj -> Prop) : Prop :=
 ∀ (i : Nat) (v : Value) (s : Shared) (o : Obj) (Q : Bool -> Shared -> Prop) (E : Value -> Shared -> Prop), i < n -> P i v -> s.heap.get? S = some o -> zxi i o -> Ba s.heap ->
  (∀ b h' tk o', s.toks <= tk -> Heap.SameBut S s.heap h' -> h'.get? S = some o' -> zxi (i + 1) o' -> Q b { s with heap := h', toks := tk }) -> wpAny (model prog w) A (setAdd S v) Q E s
theorem zng (W : WalksS prog w A.in1 I fp wr G n P zxd) (S : Addr) (hSf : S ∉ fp) (Ba : Heap -> Prop) (hBa : ∀ h h', Ba h -> (∀ b o, b ∉ S :: wr -> h.get? b = some o -> h'.get? b = some o) -> Ba h') (zxi : Nat -> Obj -> Prop) (hadd : ztu prog w A.in1 S Ba P n zxi) :
  ∀ (k i : Nat) (s : Shared) (o : Obj), n - i = k -> i <= n -> zxd i s -> s.heap.get? S = some o -> zxi i o -> Ba s.heap ->
   (∀ s' o', Moved (S :: wr) G s s' -> s'.heap.get? S = some o' -> zxi n o' -> R (.ok (.ret .none)) s') ->
   codeAny (model prog w) A (.builtin "set.update.loop" ⟨[.ref S, .ref I], []⟩) R s := by
 have hSw : S ∉ wr := fun h => hSf (W.sub _ h)
 have hsub : ∀ b ∈ wr, b ∈ S :: wr := fun b hb => List.mem_cons_of_mem _ hb
 intro k
 induction k with
 | zero =>
  intro i s o hk hi hst hS hJ hB hR
  have hin : i = n := by omega
  subst hin
  refine codeAny_builtin F.entry_set_update_loop ?_
  rw [Around.under_plainId F.plain_set_update_loop _]
  show wpAny _ A.in1 (pyNext (.ref I) >>= _) _ _ s
  refine wpAny_bind (W.done s _ _ hst fun s' hm => ?_)
  show wpAny _ A.in1 (ret Value.none) _ _ s'
  exact wpAny_pure (hR s' o (hm.mono hsub) (hm.heap S _ hSw hS) hJ)
 | succ k ih =>
  intro i s o hk hi hst hS hJ hB hR
  have hlt : i < n := by omega
  refine codeAny_builtin F.entry_set_update_loop ?_
  rw [Around.under_plainId F.plain_set_update_loop _]
  show wpAny _ A.in1 (pyNext (.ref I) >>= _) _ _ s
  refine wpAny_bind (W.item i s _ _ hlt hst fun v s' hP hst' hm => ?_)
  show wpAny _ A.in1 (holding [v] (setAdd S v) >>= _) _ _ s'
  refine wpAny_bind (wpAny_holding ?_)
  refine hadd i v s' o _ _ hlt hP (hm.heap S _ hSw hS) hJ (hBa _ _ hB fun b o hb e => hm.heap b o (fun z => hb (hsub b z)) e) fun b h' tk o' htk hsb hS' hJ' => ?_
  refine wpAny_pure ⟨plainId_quiet F.plain_set_update_loop _, ih (i + 1) _ o' (by omega) hlt (W.frame _ s' _ _ hst' htk fun b hb o e => ?_) hS' hJ' ?_ fun s'' o'' hm'' hS'' hJ'' => ?_⟩
  ·rw [hsb.2 b (fun h : b = S => hSf (by rw [← h]; exact hb))]; exact e
  ·refine hBa _ _ (hBa _ _ hB fun b o hb e => hm.heap b o (fun z => hb (hsub b z)) e) fun b o hb e => ?_
   show h'.get? b = some o
   rw [hsb.2 b (fun h : b = S => hb (by rw [h]; exact List.mem_cons_self))]; exact e
  ·refine hR s'' o'' (Moved.trans W.gtrans ((hm.mono hsub).then_heap htk fun b o hb e => ?_) hm'') hS'' hJ''
   rw [hsb.2 b (fun h : b = S => hb (by rw [h]; exact List.mem_cons_self))]; exact e
end
section
variable {prog : Program} {w : World} {A : Around} {E : Value -> Shared -> Prop} {s : Shared}
set_option maxRecDepth 100000 in
set_option maxHeartbeats 3200000 in
theorem zfB {l : Addr} {items : Array Value} {Q : Value -> Shared -> Prop} (hh : A.handled = none) (hl : s.heap.IsList l items) (zxi : Nat -> Obj -> Prop)
  (hJ0 : ∀ led : Bool, zxi 0 { cls := .type "set", dict := none, data := .set #[] 0 (.fresh 0 0 led) })
  (hadd : ∀ A' : Around, A'.units <= A.units + 16 -> ztu prog w A' s.heap.objs.size (fun h => ∀ b o, b < s.heap.objs.size -> s.heap.get? b = some o -> h.get? b = some o) (fun i v => items[i]? = some v) items.size zxi)
  (h : ∀ (h' : Heap) (tk : Nat) (o : Obj), h'.get? s.heap.objs.size = some o -> zxi items.size o ->
   (∀ b o, b < s.heap.objs.size -> s.heap.get? b = some o -> h'.get? b = some o) -> Q (.ref s.heap.objs.size) { s with heap := h', toks := tk }) :
  wpAny (model prog w) A (call (.type "set") [.ref l]) Q E s := by
 obtain ⟨c, tl, hmro⟩ := F.called_set.mro
 have hmade := F.called_set.made
 have hsub := F.called_set.sub
 refine wpAny_call (codeAny_of_tree ?_)
 show wpAny _ _ (callAny (.type "set") _) _ _ _
 refine wpAny_pure ⟨Code.quiet_builtin _ (by decide +kernel), codeAny_builtin F.entry_type_call ?_⟩
 rw [Around.under_plain (weight_type_call_type "set" [.ref l] []) rfl]
 have h1 := F.called_set.notType
 have h2 := F.called_set.canCreate
 have hct := F.typeCall_set_1 (.ref l)
 repeat (any_goals (first | assumption | wp_step))
 refine codeAny_mono (code_set_new_1 (.ref l) (E := E) (Q₁ := fun obj s₁ => ∃ led : Bool, obj = .ref s.heap.objs.size /\ s₁ = { s with heap := s.heap.push { cls := .type "set", dict := none, data := .set #[] 0 (.fresh 0 0 led) } }) fun led => ⟨led, rfl, rfl⟩) fun r s₁ hr => ?_
 cases r with
 | error e => exact hr
 | ok zxc =>
  cases zxc with
  | ret obj =>
   obtain ⟨led, rfl, rfl⟩ := hr
   have hS : (s.heap.push { cls := .type "set", dict := none, data := .set #[] 0 (.fresh 0 0 led) }).get? s.heap.objs.size = some { cls := .type "set", dict := none, data := .set #[] 0 (.fresh 0 0 led) } := Heap.get?_push_size _ rfl
   have hT : Shared.TypeIs { s with heap := s.heap.push { cls := .type "set", dict := none, data := .set #[] 0 (.fresh 0 0 led) } } (.ref s.heap.objs.size) "set" := ⟨_, hS, rfl⟩
   have hli := F.called_set.init.lookup
   have hbi := F.called_set.init.bind (.ref s.heap.objs.size)
   repeat (any_goals (first | assumption | wp_step))
   refine codeAny_mono (codeAny_call_builtin (R := wants (fun r s₂ => r = .none /\ ∃ h' tk o, s₂ = { s with heap := h', toks := tk } /\ h'.get? s.heap.objs.size = some o /\ zxi items.size o /\
     (∀ b o, b < s.heap.objs.size -> s.heap.get? b = some o -> h'.get? b = some o)) E) F.called_set.init.plain F.entry_set_init (check_set_init_1 hT ?_)) fun r₂ s₂ hr₂ => ?_
   ·obtain ⟨ol, hol, hcl, nl, hdl⟩ := hl
    obtain ⟨ocls, odict, odata, oslots⟩ := ol
    simp only at hcl hdl
    subst hcl; subst hdl
    have hol' : (s.heap.push { cls := .type "set", dict := none, data := .set #[] 0 (.fresh 0 0 led) }).get? l = some { cls := .type "list", dict := odict, data := .seq items nl, slots := oslots } := Heap.get?_push_of_some _ hol
    have hsls := F.sub_list_set
    have hslf := F.sub_list_frozenset
    have hne : (Value.type "list" == Value.type "dict") = false := by decide
    have hl1 : (s.heap.push { cls := .type "set", dict := none, data := .set #[] 0 (.fresh 0 0 led) }).IsList l items := ⟨_, hol', rfl, nl, rfl⟩
    unfold Builtin.«set.__init__» noKeywords Builtin.Frozenset.updateFrom
    generalize hPI : pyIter = zwC
    wp_walk
    subst hPI
    refine wpAny_pyIter_list hl1 ?_
    refine wpAny_bind (wpAny_runValue ?_)
    have hlS : l < s.heap.objs.size := Heap.lt_size hol
    have hh3 : A.in1.in1.in1.handled = none := by simp [hh]
    have hneI : l ≠ (s.heap.push { cls := .type "set", dict := none, data := .set #[] 0 (.fresh 0 0 led) }).objs.size := by
     rw [Heap.size_push]; exact Nat.ne_of_lt (Nat.lt_succ_of_lt hlS)
    have hSf : s.heap.objs.size ∉ [(s.heap.push { cls := .type "set", dict := none, data := .set #[] 0 (.fresh 0 0 led) }).objs.size, l] := by
     rw [Heap.size_push]; simp only [List.mem_cons, List.mem_singleton, List.not_mem_nil, or_false, not_or]
     exact ⟨Nat.ne_of_lt (Nat.lt_succ_self _), Nat.ne_of_gt hlS⟩
    have hget : ((s.heap.push { cls := .type "set", dict := none, data := .set #[] 0 (.fresh 0 0 led) }).push { cls := .type "list_iterator", data := .fields #[.ref l, .int 0 0] }).get? s.heap.objs.size
       = some { cls := .type "set", dict := none, data := .set #[] 0 (.fresh 0 0 led) } := Heap.get?_push_of_some _ hS
    refine zng ((Walks.list hh3 _ l hneI items).toS) s.heap.objs.size
     hSf (fun h => ∀ b o, b < s.heap.objs.size -> s.heap.get? b = some o -> h.get? b = some o) (fun h h' hB hk b o hb e => hk b o ?_ (hB b o hb e)) zxi (hadd _ (by show A.units + 3 <= _; omega)) (items.size - 0) 0 _ _ (by omega) (Nat.zero_le _)
     ⟨⟨_, Heap.get?_push_size _ rfl, rfl, rfl⟩, (hl1.push _)⟩ hget (hJ0 led) (fun b o hb e => Heap.get?_push_of_some _ (Heap.get?_push_of_some _ e)) ?hR
    ·have hb1 : b ≠ s.heap.objs.size := Nat.ne_of_lt hb
     have hb2 : b ≠ (s.heap.push { cls := .type "set", dict := none, data := .set #[] 0 (.fresh 0 0 led) }).objs.size := by
      rw [Heap.size_push]; exact Nat.ne_of_lt (Nat.lt_succ_of_lt hb)
     simp only [List.mem_cons, List.mem_singleton, List.not_mem_nil, or_false, not_or]; exact ⟨hb1, hb2⟩
    case hR =>
     intro s' o' hm hS' hJ'
     obtain ⟨h', g', d', tk', os'⟩ := s'
     have eg : g' = s.gens := hm.gens
     have ed : d' = s.drawn := hm.drawn
     have eo : os' = s.os := hm.os
     subst eg; subst ed; subst eo
     show wpAny _ _ _ _ _ _
     refine wpAny_pure ?_
     show wpAny _ _ (ret Value.none) _ _ _
     refine wpAny_pure ⟨rfl, h', tk', o', rfl, hS', hJ', fun b o hb e => ?_⟩
     have hb1 : b ≠ s.heap.objs.size := Nat.ne_of_lt hb
     have hb2 : b ≠ (s.heap.push { cls := .type "set", dict := none, data := .set #[] 0 (.fresh 0 0 led) }).objs.size := by
      rw [Heap.size_push]; exact Nat.ne_of_lt (Nat.lt_succ_of_lt hb)
     exact hm.heap b o (by simp only [List.mem_cons, List.mem_singleton, List.not_mem_nil, or_false, not_or]; exact ⟨hb1, hb2⟩) (Heap.get?_push_of_some _ (Heap.get?_push_of_some _ e))
   ·cases r₂ with
    | error e => exact hr₂
    | ok fl₂ =>
     cases fl₂ with
     | ret r =>
      obtain ⟨rfl, h', tk, o', rfl, hS', hJ', hk'⟩ := hr₂
      repeat (any_goals (first | assumption | wp_step))
      exact h _ _ _ hS' hJ' hk'
     | _ => exact hr₂.elim
  | _ => exact hr.elim
end
end ST
end
section
namespace ST
open PySem PySem.Spec PyProof.Rows
def dd {κ : Type} [DecidableEq κ] (l : List κ) : List κ := l.foldl (fun a k => if k ∈ a then a else a ++ [k]) []
theorem zjJ {κ : Type} [DecidableEq κ] (l : List κ) (k : κ) : dd (l ++ [k]) = if k ∈ dd l then dd l else dd l ++ [k] := by
 unfold dd; rw [List.foldl_append]; rfl
theorem ziQ {κ : Type} [DecidableEq κ] (l : List κ) : (dd l).length <= l.length := by
 have key : ∀ (l a : List κ), (l.foldl (fun a k => if k ∈ a then a else a ++ [k]) a).length <= a.length + l.length := by
  intro l
  induction l with
  | nil => intro a; exact Nat.le_refl _
  | cons k r ih =>
   intro a
   rw [List.foldl_cons]
   refine Nat.le_trans (ih _) ?_
   split
   ·simp only [List.length_cons]; omega
   ·simp only [List.length_append, List.length_cons, List.length_nil]; omega
 have := key l []
 simpa [dd] using this
section
variable {prog : Program} {w : World} {κ : Type} [DecidableEq κ] {knd : KeyKind prog w κ} {A : Around} {E : Value -> Shared -> Prop} {s : Shared}
theorem zfe {ks : List κ} {a : Addr} {Q : Bool -> Shared -> Prop} (hk : IsTupleKey knd s.heap ks a) (hsc : ∀ v k, knd.is k v = true -> v.scannable = true) (h : ∀ b, Q b s) : wpAny (model prog w) A (hashByValue 8 (.ref a)) Q E s := by
 have hT := hk.typeIs
 obtain ⟨o, items, n, ho, _, hd, hi⟩ := hk
 unfold hashByValue
 refine wpAny_bind (wpAny_specialOf hT F.slot_tuple_hash.lookup ?_)
 refine wpAny_bind (wpAny_seqItems ho hd ?_)
 refine wpAny_bind ?_
 show wpAny _ _ (forIn items _ _) _ _ s
 rw [← Array.forIn_toList]
 have hall : ∀ v ∈ items.toList, v.scannable = true := by
  have : ∀ {x : List κ} {vs : List Value}, ItemsAre knd x vs -> ∀ v ∈ vs, v.scannable = true := by
   intro x vs q
   induction q with
   | nil => intro v hv; cases hv
   | cons h1 _ ih =>
    intro v hv
    rcases List.mem_cons.mp hv with rfl | hv
    ·exact hsc _ _ h1
    ·exact ih v hv
  exact this hi
 refine wpAny_forIn_list _ (fun zcM r s' => s' = s /\ ∀ v ∈ zcM, v.scannable = true) _ ?_ ?_ _ _ ⟨rfl, hall⟩
 ·rintro v zcM r s' ⟨rfl, hv⟩
  rw [hashByValue_scannable _ (hv v List.mem_cons_self)]
  refine wpAny_bind (wpAny_pure ?_)
  cases hp : plainKind v with
  | true =>
   simp only [Bool.not_true, Bool.false_eq_true, if_false]
   exact wpAny_pure ⟨rfl, fun u hu' => hv u (List.mem_cons_of_mem _ hu')⟩
  | false =>
   simp only [Bool.not_false, if_true]
   first | exact wpAny_pure (wpAny_pure (h _)) | exact wpAny_pure (h _) | exact wpAny_bind (wpAny_pure (wpAny_pure (wpAny_pure (h _))))
 ·rintro ⟨r1, r2⟩ s' ⟨rfl, _⟩
  first | exact wpAny_pure (h _) | (cases r1 <;> exact wpAny_pure (h _))
theorem zeK {ks : List κ} {a : Addr} {Q : Bool -> Shared -> Prop} (hk : IsTupleKey knd s.heap ks a) (h : Q false s) : wpAny (model prog w) A (ofAClassStatement 8 (.ref a)) Q E s := by
 have hT := hk.typeIs
 obtain ⟨o, items, n, ho, _, hd, hi⟩ := hk
 unfold ofAClassStatement
 refine wpAny_bind (wpAny_typeOf hT ?_)
 dsimp only
 rw [if_pos (by decide)]
 refine wpAny_bind (wpAny_pure ?_)
 simp only [Bool.not_true, Bool.false_eq_true, if_false]
 refine wpAny_bind (wpAny_seqItems ho hd ?_)
 refine wpAny_bind ?_
 show wpAny _ _ (forIn items _ _) _ _ s
 rw [← Array.forIn_toList]
 refine wpAny_forIn_list _ (fun zcM r s' => r.1 = none /\ s' = s /\ ∀ v ∈ zcM, carriedByValue v = true) _ ?_ ?_ _ _ ⟨rfl, rfl, hi.byValue⟩
 ·rintro v zcM r s' ⟨hr, rfl, hv⟩
  have e : ofAClassStatement 7 v = pure false := by
   have := hv v List.mem_cons_self
   cases v with
   | ref b => simp [carriedByValue] at this
   | _ => rfl
  rw [e]
  refine wpAny_bind (wpAny_pure ?_)
  simp only [Bool.false_eq_true, if_false]
  exact wpAny_pure ⟨rfl, rfl, fun u hu' => hv u (List.mem_cons_of_mem _ hu')⟩
 ·rintro ⟨r1, r2⟩ s' ⟨hr, rfl, _⟩
  simp only at hr
  subst hr
  exact wpAny_pure h
theorem zqP {ks : List κ} {a : Addr} {Q : Bool -> Shared -> Prop} (hk : IsTupleKey knd s.heap ks a) (st : List Value) (hst : ∀ y ∈ st, ∃ k b, y = .ref b /\ IsTupleKey knd s.heap k b) (h : Q false s) : wpAny (model prog w) A (searchCouldBeSeen (.ref a) st) Q E s := by
 unfold searchCouldBeSeen
 refine wpAny_bind ?_
 refine wpAny_forIn_list _ (fun zcM r s' => r.1 = none /\ s' = s /\ ∀ y ∈ zcM, ∃ k b, y = .ref b /\ IsTupleKey knd s.heap k b) _ ?_ ?_ _ _ ⟨rfl, rfl, hst⟩
 ·rintro v zcM r s' ⟨hr, rfl, hv⟩
  obtain ⟨k, b, rfl, hb⟩ := hv v List.mem_cons_self
  dsimp only
  split
  ·exact wpAny_pure ⟨rfl, rfl, fun u hu' => hv u (List.mem_cons_of_mem _ hu')⟩
  ·refine wpAny_bind (wpAny_eqIsQuiet_tuple hk ?_)
   simp only [Bool.not_true, Bool.false_eq_true, if_false]
   refine wpAny_bind (wpAny_eqIsQuiet_tuple hb ?_)
   simp only [Bool.not_true, Bool.false_eq_true, if_false]
   refine wpAny_bind (zeK hk ?_)
   simp only [Bool.false_eq_true, if_false]
   refine wpAny_bind (zeK hb ?_)
   simp only [Bool.false_eq_true, if_false]
   exact wpAny_pure ⟨rfl, rfl, fun u hu' => hv u (List.mem_cons_of_mem _ hu')⟩
 ·rintro ⟨r1, r2⟩ s' ⟨hr, rfl, _⟩
  simp only at hr
  subst hr
  exact wpAny_pure h
end
end ST
end
section
namespace ST
open PySem PySem.Spec PyProof.Rows
theorem zge {t : SetTable} {es : Array (Int × Value)} (T : Tb t es) {hashAt : Nat -> Int} {h : Int} {p : SetTable.Probe} {r : Option SetTable.Met} {n n0 : Nat} (hp : t.probe hashAt h p = r) (hpp : p = zcA (zxf t.mask h n)) (hn : n <= n0) (hn0 : n0 < 10 * (t.mask + 15))
  (hf : zxi t.mask h n0 ∉ t.place.toList) (ho : ∀ m, m < n0 -> zxi t.mask h m ∈ t.place.toList) :
  (∃ n' i, n <= n' /\ n' < n0 /\ t.place[i]? = some (zxi t.mask h n') /\ hashAt i = h /\ (∀ m i, n <= m -> m < n' -> t.place[i]? = some (zxi t.mask h m) -> hashAt i ≠ h) /\ r = some (.candidate (zxi t.mask h n') i (zcA (zxf t.mask h (n' + 1))))) \/
  ((∀ m i, n <= m -> m < n0 -> t.place[i]? = some (zxi t.mask h m) -> hashAt i ≠ h) /\ r = some (.empty (zxi t.mask h n0) none)) := by
 subst hpp
 subst hp
 unfold SetTable.probe
 exact T.probe_go hashAt h hf ho (10 * SetTable.turns t.mask) n hn (by unfold SetTable.turns; omega)
theorem zjo {t : SetTable} {es : Array (Int × Value)} (T : Tb t es) {hashAt : Nat -> Int} {h : Int} {p : SetTable.Probe} {n n0 : Nat} (hp : ∀ met, t.probe hashAt h p = some met -> False) (hpp : p = zcA (zxf t.mask h n)) (hn : n <= n0) (hn0 : n0 < 10 * (t.mask + 15))
  (hf : zxi t.mask h n0 ∉ t.place.toList) (ho : ∀ m, m < n0 -> zxi t.mask h m ∈ t.place.toList) : False := by
 rcases zge T (r := t.probe hashAt h p) rfl hpp hn hn0 hf ho with ⟨n', i, _, _, _, _, _, g6⟩ | ⟨_, g2⟩
 ·exact hp _ g6
 ·exact hp _ g2
section
variable {prog : Program} {w : World} {κ : Type} [DecidableEq κ] {knd : KeyKind prog w κ} {A : Around} {E : Value -> Shared -> Prop} {s : Shared}
def zsf (knd : KeyKind prog w κ) (h : Heap) (es : Array (Int × Value)) : Prop := ∀ (i : Nat) e, es[i]? = some e -> ∃ k b, e = (tupleKeyHash knd k, .ref b) /\ IsTupleKey knd h k b
theorem zwH.odd {M : Nat} (h : zwH M) : (M % 2 == 0) = false := by
 rcases h with rfl | rfl | rfl | rfl <;> rfl
theorem zlv {S a : Addr} {o : Obj} {es : Array (Int × Value)} {ep : Nat} {t : SetTable} {k : List κ} {n0 : Nat} {Q : SetFound -> Shared -> Prop} (hu : A.units < cLine) (ho : s.heap.get? S = some o) (hd : o.data = .set es ep t) (T : Tb t es) (hM : zwH t.mask)
  (hk : IsTupleKey knd s.heap k a) (he : zsf knd s.heap es) (hf : zxi t.mask (tupleKeyHash knd k) n0 ∉ t.place.toList) (hocc : ∀ m, m < n0 -> zxi t.mask (tupleKeyHash knd k) m ∈ t.place.toList) (hn0 : n0 < 10 * (t.mask + 15))
  (hyes : ∀ (i : Nat) (b : Addr), es[i]? = some (tupleKeyHash knd k, .ref b) -> IsTupleKey knd s.heap k b -> Q (.there none) s)
  (hno : (∀ (i : Nat) (b : Addr), es[i]? = some (tupleKeyHash knd k, .ref b) -> ¬ IsTupleKey knd s.heap k b) -> Q (.free (zxi t.mask (tupleKeyHash knd k) n0) false) s) :
  ∀ (fuel n : Nat) (stand : Option SetTable.Probe), n0 - n < fuel -> n <= n0 -> (stand.getD (t.probeStart (tupleKeyHash knd k)) = zcA (zxf t.mask (tupleKeyHash knd k) n)) ->
   (∀ (m i : Nat) (b : Addr), m < n -> t.place[i]? = some (zxi t.mask (tupleKeyHash knd k) m) -> es[i]? = some (tupleKeyHash knd k, .ref b) -> ¬ IsTupleKey knd s.heap k b) ->
   wpAny (model prog w) A (setSearchFrom S (.ref a) (tupleKeyHash knd k) true fuel stand) Q E s := by
 intro fuel
 induction fuel with
 | zero => intro n stand h1; omega
 | succ fuel ih =>
  intro n stand h1 h2 hs hw
  unfold setSearchFrom
  refine wpAny_bind (wpAny_setState_of ho hd T.fits ?_)
  dsimp only
  have hg : t.gaveWay = false := hM.odd
  rw [hg]
  simp only [Bool.false_eq_true, if_false]
  split
  ·rename_i met hp
   rcases zge T hp hs h2 hn0 hf hocc with ⟨n', i, g1, g2, g3, g4, g5, g6⟩ | ⟨g1, g2⟩
   ·cases g6
    have hi : i < es.size := by
     have := (Array.getElem?_eq_some_iff.mp g3).1
     rw [T.sz] at this
     exact this
    have hei : es[i]? = some es[i] := by simp [hi]
    obtain ⟨k', b, e1, hb⟩ := he i _ hei
    rw [e1] at hei
    have hh : tupleKeyHash knd k' = tupleKeyHash knd k := by
     have g4' : ((es[i]?).map (·.1)).getD 0 = tupleKeyHash knd k := g4
     rw [hei] at g4'
     exact g4'
    rw [hh] at hei
    have zcM : wpAny (model prog w) A (do
      let some (_, y) := es[i]? | unsupported "internal:set-entry"
      let equal ← holding [y] (eqBool y (.ref a))
      let (es', _, t') ← setState S
      if true && equal then return .there none
      let some same := t'.sameMemory t.moves t.mask | unsupported "set.changed-during-lookup:is-the-new-block-at-the-old-address"
      let still ← match (if same then t'.slot (zxi t.mask (tupleKeyHash knd k) n') else .empty) with
       | .live i' => match es'[i']? with
        | some (_, y') => do pure (if ← isSame y' y then some i' else none)
        | none => pure none
       | _ => pure none
      match still with
      | none => rule "set.search.anew"; setSearchFrom S (.ref a) (tupleKeyHash knd k) true fuel none
      | some i' => if equal then return .there (some i') else setSearchFrom S (.ref a) (tupleKeyHash knd k) true fuel (some (zcA (zxf t.mask (tupleKeyHash knd k) (n' + 1))))) Q E s := by
     rw [hei]
     dsimp only
     refine wpAny_bind (wpAny_holding (wpAny_eqBool_tuple hu hb hk ?_))
     refine wpAny_bind (wpAny_setState_of ho hd T.fits ?_)
     dsimp only
     by_cases hkk : k' = k
     ·subst hkk
      rw [decide_eq_true rfl]
      simp only [Bool.true_and, if_true]
      exact wpAny_pure (hyes i b hei hb)
     ·rw [decide_eq_false hkk]
      simp only [Bool.true_and, Bool.false_eq_true, if_false]
      have hsm : t.sameMemory t.moves t.mask = some true := by unfold SetTable.sameMemory; simp
      rw [hsm]
      dsimp only
      simp only [if_true]
      rw [T.live g3]
      dsimp only
      rw [hei]
      dsimp only
      refine wpAny_bind (wpAny_isSame_ref_self ?_)
      simp only [if_true]
      refine wpAny_bind (wpAny_pure ?_)
      dsimp only
      refine ih (n' + 1) _ (by omega) (by omega) rfl ?_
      intro m zwo zxj hm hp2 he2
      by_cases h3 : m < n
      ·exact hw m zwo zxj h3 hp2 he2
      ·by_cases h4 : m = n'
       ·subst h4
        have ei : zwo = i := by
         have q1 := T.live hp2
         have q2 := T.live g3
         rw [q1] at q2
         injection q2
        subst ei
        rw [hei] at he2
        cases he2
        exact fun z => hkk (hb.inj z)
       ·exfalso
        refine g5 m zwo (by omega) (by omega) hp2 ?_
        show ((es[zwo]?).map (·.1)).getD 0 = _
        rw [he2]
        rfl
    cases hled : t.led with
    | true =>
     simp only [Bool.not_true, Bool.false_eq_true, if_false]
     exact zcM
    | false =>
     simp only [Bool.not_false, if_true]
     refine wpAny_bind (zqP hk _ (fun y hy => ?_) ?_)
     ·obtain ⟨e, he1, rfl⟩ := List.mem_map.mp hy
      have he2 : e ∈ es.toList := by
       have := Array.mem_toList_iff.mp he1
       rw [Array.mem_filter] at this
       exact Array.mem_toList_iff.mpr this.1
      obtain ⟨j, hj, ej⟩ := List.mem_iff_getElem.mp he2
      obtain ⟨zwR, zxj, q1, q2⟩ := he j e (by rw [← Array.getElem?_toList, List.getElem?_eq_getElem hj, ej])
      exact ⟨zwR, zxj, by rw [q1], q2⟩
     ·simp only [Bool.false_eq_true, if_false]
      exact zcM
   ·cases g2
    dsimp only
    refine wpAny_pure (hno fun i b hei hb => ?_)
    have hi : i < es.size := (Array.getElem?_eq_some_iff.mp hei).1
    have hpi : t.place[i]? = some t.place[i]! := by
     have : i < t.place.size := by rw [T.sz]; exact hi
     simp [this]
    obtain ⟨m, q1, q2⟩ := T.rc i _ _ _ hpi hei
    have hmem : zxi t.mask (tupleKeyHash knd k) m ∈ t.place.toList := by
     rw [q1]
     rw [← Array.getElem?_toList] at hpi
     exact List.mem_of_getElem? hpi
    have hm : m < n0 := by
     rcases Nat.lt_trichotomy m n0 with z | z | z
     ·exact z
     ·subst z; exact absurd hmem hf
     ·exact absurd (q2 n0 z) hf
    by_cases h3 : m < n
    ·exact hw m i b h3 (by rw [q1]; exact hpi) hei hb
    ·refine g1 m i (by omega) hm (by rw [q1]; exact hpi) ?_
     show ((es[i]?).map (·.1)).getD 0 = _
     rw [hei]
     rfl
  ·rename_i hp
   exact (zjo T hp hs h2 hn0 hf hocc).elim
structure TS (knd : KeyKind prog w κ) (h : Heap) (ks : List (List κ)) (o : Obj) : Prop where
 cls : o.ExactSet
 ex : ∃ es ep t, o.data = .set es ep t /\ Tb t es /\ zwH t.mask /\ zsf knd h es /\ es.size = (dd ks).length /\ (∀ k ∈ dd ks, ∃ (i : Nat) (b : Addr), es[i]? = some (tupleKeyHash knd k, .ref b) /\ IsTupleKey knd h k b) /\ ∀ (i : Nat) (k : List κ) (b : Addr), es[i]? = some (tupleKeyHash knd k, .ref b) -> IsTupleKey knd h k b -> k ∈ dd ks
theorem IsTupleKey.mono {h h' : Heap} {k : List κ} {a : Addr} (x : IsTupleKey knd h k a) (q : ∀ o, h.get? a = some o -> h'.get? a = some o) : IsTupleKey knd h' k a := by
 obtain ⟨o, items, n, h1, h2⟩ := x
 exact ⟨o, items, n, q o h1, h2⟩
theorem zeu {es : Array (Int × Value)} {e : Int × Value} : e ∈ es.toList ↔ ∃ i : Nat, es[i]? = some e := by
 constructor
 ·intro h
  obtain ⟨i, hi, q⟩ := List.mem_iff_getElem.mp h
  exact ⟨i, by rw [← Array.getElem?_toList, List.getElem?_eq_getElem hi, q]⟩
 ·rintro ⟨i, h⟩
  rw [← Array.getElem?_toList] at h
  exact List.mem_of_getElem? h
theorem zpX {h0 : Heap} {ks : List (List κ)} {k : List κ} {a : Addr} {es es' : Array (Int × Value)} (hk : IsTupleKey knd h0 k a) (hE : zsf knd h0 es) (hsz : es.size = (dd ks).length) (hin : ∀ k ∈ dd ks, ∃ (i : Nat) (b : Addr), es[i]? = some (tupleKeyHash knd k, .ref b) /\ IsTupleKey knd h0 k b)
  (hout : ∀ (i : Nat) (k : List κ) (b : Addr), es[i]? = some (tupleKeyHash knd k, .ref b) -> IsTupleKey knd h0 k b -> k ∈ dd ks) (hnew : k ∉ dd ks) (mem : ∀ e, e ∈ es'.toList ↔ e = (tupleKeyHash knd k, .ref a) \/ e ∈ es.toList) (size : es'.size = es.size + 1) :
  zsf knd h0 es' /\ es'.size = (dd (ks ++ [k])).length /\ (∀ k' ∈ dd (ks ++ [k]), ∃ (i : Nat) (b : Addr), es'[i]? = some (tupleKeyHash knd k', .ref b) /\ IsTupleKey knd h0 k' b) /\ ∀ (i : Nat) (k' : List κ) (b : Addr), es'[i]? = some (tupleKeyHash knd k', .ref b) -> IsTupleKey knd h0 k' b -> k' ∈ dd (ks ++ [k]) := by
 rw [zjJ, if_neg hnew]
 refine ⟨fun i e he => ?_, by rw [size, hsz, List.length_append, List.length_singleton], fun k' hk' => ?_, fun i k' b he hb => ?_⟩
 ·rcases (mem e).mp (zeu.mpr ⟨i, he⟩) with rfl | q
  ·exact ⟨k, a, rfl, hk⟩
  ·obtain ⟨j, q⟩ := zeu.mp q
   exact hE j e q
 ·rcases List.mem_append.mp hk' with q | q
  ·obtain ⟨i, b, q1, q2⟩ := hin k' q
   obtain ⟨j, q3⟩ := zeu.mp ((mem _).mpr (.inr (zeu.mpr ⟨i, q1⟩)))
   exact ⟨j, b, q3, q2⟩
  ·rw [List.mem_singleton.mp q]
   obtain ⟨j, q3⟩ := zeu.mp ((mem _).mpr (.inl rfl))
   exact ⟨j, a, q3, hk⟩
 ·rcases (mem _).mp (zeu.mpr ⟨i, he⟩) with q | q
  ·have e : b = a := by have := (Prod.mk.inj q).2; injection this
   subst e
   exact List.mem_append.mpr (.inr (List.mem_singleton.mpr (hb.inj hk)))
  ·obtain ⟨j, q⟩ := zeu.mp q
   exact List.mem_append.mpr (.inl (hout j k' b q hb))
theorem zhb {h : Heap} {S : Addr} {o : Obj} {es es' : Array (Int × Value)} {ep : Nat} {t t' : SetTable} (ho : h.get? S = some o) (hd : o.data = .set es ep t) : (h.update S (Obj.putSet es' t')).get? S = some { o with data := .set es' (ep + 1) t' } := by
 have q := Heap.get?_update_self (Obj.putSet es' t') ho (by rw [putSet_of es' t' hd]; rfl)
 rwa [putSet_of es' t' hd] at q
set_option maxHeartbeats 1000000 in
theorem zm3 {S a : Addr} {o : Obj} {h0 : Heap} {ks : List (List κ)} {k : List κ} {Q : Bool -> Shared -> Prop} (hsc : ∀ v k, knd.is k v = true -> v.scannable = true) (hu : A.units < cLine) (ho : s.heap.get? S = some o) (T : TS knd h0 ks o) (hk : IsTupleKey knd h0 k a)
  (hB : ∀ b o, h0.get? b = some o -> s.heap.get? b = some o) (hlen : ks.length <= 300)
  (h : ∀ b h' tk o', s.toks <= tk -> Heap.SameBut S s.heap h' -> h'.get? S = some o' -> TS knd h0 (ks ++ [k]) o' -> Q b { s with heap := h', toks := tk }) : wpAny (model prog w) A (setAdd S (.ref a)) Q E s := by
 obtain ⟨hc, es, ep, t, hd, TB, hM, hE, hsz, hin, hout⟩ := T
 have up : ∀ {k : List κ} {b : Addr}, IsTupleKey knd h0 k b -> IsTupleKey knd s.heap k b := fun q => IsTupleKey.mono q fun o e => hB _ _ e
 have down : ∀ {k k' : List κ} {b : Addr}, IsTupleKey knd h0 k' b -> IsTupleKey knd s.heap k b -> k = k' := fun q1 q2 => q2.inj (up q1)
 have hE' : zsf knd s.heap es := fun i e he => by
  obtain ⟨k, b, q1, q2⟩ := hE i e he
  exact ⟨k, b, q1, up q2⟩
 have hddl := ziQ ks
 obtain ⟨n0, f1, f2, f3⟩ := TB.first (tupleKeyHash knd k)
 unfold setAdd
 refine wpAny_holding (wpAny_bind (wpAny_pyHash_tuple hu (up hk) ?_))
 unfold setAddHashed setAddHashedIn
 refine wpAny_holding (wpAny_bind (wpAny_setState_of (s := { s with toks := s.toks + (k.length + 1) }) ho hd TB.fits ?_))
 dsimp only
 rw [show byScan (.ref a) es = false from rfl]
 simp only [Bool.false_eq_true, if_false]
 unfold setSearch
 refine wpAny_bind (zlv (s := { s with toks := s.toks + (k.length + 1) }) hu ho hd TB hM (up hk) hE' f2 f3 f1 (fun i b hei hb => ?_) (fun hall => ?_) 100000 0 none ?_ (Nat.zero_le _) rfl (fun m i b hm => by omega))
 ·
  dsimp only
  obtain ⟨k', b', q1, q2⟩ := hE i _ hei
  have : b' = b := by
   have := (Prod.mk.inj q1).2
   injection this with e
   exact e.symm
  subst this
  have ek := down q2 hb
  subst ek
  have hmem := hout i k _ hei q2
  refine wpAny_pure (h false s.heap _ o (by show s.toks <= s.toks + (k.length + 1); omega) (Heap.SameBut.refl S s.heap) ho ⟨hc, es, ep, t, hd, TB, hM, hE, ?_⟩)
  rw [zjJ, if_pos hmem]
  exact ⟨hsz, hin, hout⟩
 ·
  dsimp only
  have hnew : k ∉ dd ks := fun hm => by
   obtain ⟨i, b, q1, q2⟩ := hin k hm
   exact hall i b q1 (up q2)
  have hpl : SetTable.below t.place (zxi t.mask (tupleKeyHash knd k) n0) <= es.size := by
   have := (zib t.place (zxi t.mask (tupleKeyHash knd k) n0) TB.ri).1
   rw [TB.sz] at this
   exact this
  have hmaskle : t.mask <= 511 := by rcases hM with e | e | e | e <;> omega
  have hmem : ∀ e, e ∈ (SetTable.insertAt es (SetTable.below t.place (zxi t.mask (tupleKeyHash knd k) n0)) (tupleKeyHash knd k, Value.ref a)).toList ↔ e = (tupleKeyHash knd k, Value.ref a) \/ e ∈ es.toList := fun e => by
   rw [zcs _ _ _ hpl]
   exact zfc _ _ _ _
  have hsize : (SetTable.insertAt es (SetTable.below t.place (zxi t.mask (tupleKeyHash knd k) n0)) (tupleKeyHash knd k, Value.ref a)).size = es.size + 1 := by
   have := congrArg List.length (zcs es _ (tupleKeyHash knd k, Value.ref a) hpl)
   simp only [Array.length_toList, List.length_append, List.length_cons, List.length_take, List.length_drop] at this
   omega
  have hpsz : (SetTable.insertAt t.place (SetTable.below t.place (zxi t.mask (tupleKeyHash knd k) n0)) (zxi t.mask (tupleKeyHash knd k) n0)).size = es.size + 1 := by
   have := congrArg List.length (zcs t.place _ (zxi t.mask (tupleKeyHash knd k) n0) (by rw [TB.sz]; exact hpl))
   have h3 := TB.sz
   simp only [Array.length_toList, List.length_append, List.length_cons, List.length_take, List.length_drop] at this
   omega
  refine wpAny_bind (wpAny_setState_of (s := { s with toks := s.toks + (k.length + 1) }) ho hd TB.fits ?_)
  dsimp only
  have fin : ∀ (es' : Array (Int × Value)) (t' : SetTable) (h' : Heap) (o' : Obj), Tb t' es' -> zwH t'.mask -> (∀ e, e ∈ es'.toList ↔ e = (tupleKeyHash knd k, Value.ref a) \/ e ∈ es.toList) -> es'.size = es.size + 1 -> Heap.SameBut S s.heap h' -> h'.get? S = some o' -> o'.ExactSet -> (∃ ep', o'.data = .set es' ep' t') -> Q true { s with heap := h', toks := s.toks + (k.length + 1) } := fun es' t' h' o' q1 q2 q3 q4 q5 q6 q7 q8 => by
   obtain ⟨ep', q8⟩ := q8
   obtain ⟨w1, w2, w3, w4⟩ := zpX hk hE hsz hin hout hnew q3 q4
   exact h true h' _ o' (by omega) q5 q6 ⟨q7, es', ep', t', q8, q1, q2, w1, w2, w3, w4⟩
  have zcM : ∀ pl : Bool, wpAny (model prog w) A (do
    storeSet S (SetTable.insertAt es (t.put (zxi t.mask (tupleKeyHash knd k) n0)).2 (tupleKeyHash knd k, Value.ref a)) { (t.put (zxi t.mask (tupleKeyHash knd k) n0)).1 with plain := pl }
    if (!false && SetTable.tooFull { (t.put (zxi t.mask (tupleKeyHash knd k) n0)).1 with plain := pl }) = true then do
     setRelay S (SetTable.grown (es.size + 1))
     pure true
    else pure true) Q E { s with toks := s.toks + (k.length + 1) } := fun pl => by
   refine wpAny_bind (wpAny_storeSet_of (s := { s with toks := s.toks + (k.length + 1) }) ho hd ?_ (by show (SetTable.insertAt es (SetTable.below t.place (zxi t.mask (tupleKeyHash knd k) n0)) (tupleKeyHash knd k, Value.ref a)).size <= sizeLine; rw [hsize, sizeLine_eq]; omega))
   have hg1 := zhb (es' := SetTable.insertAt es (t.put (zxi t.mask (tupleKeyHash knd k) n0)).2 (tupleKeyHash knd k, Value.ref a)) (t' := { (t.put (zxi t.mask (tupleKeyHash knd k) n0)).1 with plain := pl }) ho hd
   have hsb1 := Heap.SameBut.update s.heap S (Obj.putSet (SetTable.insertAt es (t.put (zxi t.mask (tupleKeyHash knd k) n0)).2 (tupleKeyHash knd k, Value.ref a)) { (t.put (zxi t.mask (tupleKeyHash knd k) n0)).1 with plain := pl })
   have hdum : (t.put (zxi t.mask (tupleKeyHash knd k) n0)).1.dummies = #[] := by
    show (if SetTable.has t.dummies _ then _ else t.dummies) = #[]
    rw [TB.dm]
    rfl
   have hfill : SetTable.fill { (t.put (zxi t.mask (tupleKeyHash knd k) n0)).1 with plain := pl } = es.size + 1 := by
    show (SetTable.insertAt t.place _ _).size + (t.put (zxi t.mask (tupleKeyHash knd k) n0)).1.dummies.size = _
    rw [hdum]
    exact hpsz
   by_cases few : (es.size + 1) * 5 < t.mask * 3
   ·have hfull : SetTable.tooFull { (t.put (zxi t.mask (tupleKeyHash knd k) n0)).1 with plain := pl } = false := by
     unfold SetTable.tooFull
     rw [hfill]
     exact decide_eq_false (by show ¬ ((es.size + 1) * 5 ≥ t.mask * 3); omega)
    rw [hfull]
    simp only [Bool.not_false, Bool.and_false, Bool.false_eq_true, if_false]
    refine wpAny_pure (fin _ _ _ _ (TB.put (x := .ref a) f2 f3 few pl) hM hmem hsize hsb1 hg1 hc ⟨_, rfl⟩)
   ·have hfull : SetTable.tooFull { (t.put (zxi t.mask (tupleKeyHash knd k) n0)).1 with plain := pl } = true := by
     unfold SetTable.tooFull
     rw [hfill]
     exact decide_eq_true (by show ((es.size + 1) * 5 ≥ t.mask * 3); omega)
    rw [hfull]
    simp only [Bool.not_false, Bool.and_true, if_true]
    obtain ⟨m1, m2, m3⟩ := hM.grow TB.few few (by omega)
    have hes1 : (SetTable.insertAt es (t.put (zxi t.mask (tupleKeyHash knd k) n0)).2 (tupleKeyHash knd k, Value.ref a)).size = es.size + 1 := hsize
    obtain ⟨t', order, r1, r2, r3, r4, r5, r6⟩ := Full.relaid (t := { (t.put (zxi t.mask (tupleKeyHash knd k) n0)).1 with plain := pl }) (es := SetTable.insertAt es (t.put (zxi t.mask (tupleKeyHash knd k) n0)).2 (tupleKeyHash knd k, Value.ref a)) m1.full (by rw [hes1]; exact m2)
    unfold setRelay
    have hfits : SetTable.fits { (t.put (zxi t.mask (tupleKeyHash knd k) n0)).1 with plain := pl } (SetTable.insertAt es (t.put (zxi t.mask (tupleKeyHash knd k) n0)).2 (tupleKeyHash knd k, Value.ref a)).size = true := by
     unfold SetTable.fits
     rw [hfill, hes1, Bool.and_eq_true]
     have := TB.few
     exact ⟨by rw [beq_iff_eq]; exact hpsz, decide_eq_true (by show es.size + 1 <= t.mask; omega)⟩
    refine wpAny_bind ?_
    refine wpAny_bind (wpAny_setState_of (s := { s with heap := _, toks := s.toks + (k.length + 1) }) hg1 rfl hfits ?_)
    dsimp only
    rw [if_neg (by rw [sizeLine_eq]; omega), r1]
    refine wpAny_bind ?_
    show wpAny _ _ (if ((order.filterMap ((SetTable.insertAt es (t.put (zxi t.mask (tupleKeyHash knd k) n0)).2 (tupleKeyHash knd k, Value.ref a))[·]?)).size != (SetTable.insertAt es (t.put (zxi t.mask (tupleKeyHash knd k) n0)).2 (tupleKeyHash knd k, Value.ref a)).size) = true then _ else _) _ _ _
    rw [if_neg (by rw [r2]; simp)]
    refine wpAny_pure ?_
    dsimp only
    refine wpAny_storeSet_of (s := { s with heap := _, toks := s.toks + (k.length + 1) }) hg1 rfl ?_ (by rw [r2, hes1, sizeLine_eq]; omega)
    refine wpAny_pure (fin _ t' _ _ r3 (by rw [r5]; exact m1) (fun e => (r4 e).trans (hmem e)) (by rw [r2, hes1]) (hsb1.trans (Heap.SameBut.update _ S _)) (zhb hg1 rfl) hc ⟨_, rfl⟩)
  split
  ·refine wpAny_bind (zfe (s := { s with toks := s.toks + (k.length + 1) }) (up hk) hsc fun bv => ?_)
   cases bv
   ·exact zcM false
   ·exact zcM _
  ·refine wpAny_bind (wpAny_pure ?_)
   exact zcM _
 ·show n0 - 0 < 100000
  have : t.mask <= 511 := by rcases hM with e | e | e | e <;> omega
  omega
end
end ST
end
section
namespace L2
open PySem PySem.Spec PyProof.Rows ST
instance (priority := high) keyBEq : BEq zvK := instBEqOfDecidableEq
instance (priority := high) keyLaw : LawfulBEq zvK := inferInstanceAs (@LawfulBEq zvK instBEqOfDecidableEq)
def ztt (n : Nat) (o : Obj) : Prop := o.ExactSet /\ ∃ es ep t, o.data = .set es ep t /\ t.fits es.size = true /\ es.size = n
def zoV (p : Addr) (n : Nat) : HO := .ext fun h => ∃ o, h.get? p = some o /\ ztt n o
section
variable {X : Cx}
theorem zki {P : Program} {w : World} (v : Value) (k : zvK) (h : (zaW P w).is k v = true) : v.scannable = true := by
 rcases zbq h with ⟨i, t, rfl, rfl⟩ | ⟨x, t, rfl, rfl⟩ <;> rfl
def ztK : List V -> zxg -> zw3 -> Prop := fun xs H Q => ∃ a vs, xs = [.ref a] /\ H a = some (.lst vs) /\ vs.length <= 300 /\
 ((∃ ks : List zvK, vs = ks.map zw7 /\ ∀ p, H p = none -> Q (.ref p) (zt0 H p (zoV p (dd ks).length))) \/
 (∃ ts : List (List zvK), vs.length = ts.length /\ (∀ (i : Nat) t, ts[i]? = some t -> ∃ b, vs[i]? = some (.ref b) /\ H b = some (.tup (t.map zw7))) /\ ∀ p, H p = none -> Q (.ref p) (zt0 H p (zoV p (dd ts).length))))
theorem zn9 (hc : X.calm = true) (hu : X.A.units + 66 < cLine) : zeZ X (.type "set") ztK := by
 intro pins s σ H xs us Q I r h
 obtain ⟨a, vs, rfl, ha, hl, h⟩ := h
 obtain ⟨u, rfl, ru⟩ := zfY r
 cases ru
 obtain ⟨its, rv, pl, hz⟩ := I.list (.inl (.inl ha))
 have hlen := rv.length
 have hsz : its.toArray.size = vs.length := by rw [List.size_toArray, hlen]
 have fin : ∀ (n : Nat) (h' : Heap) (tk : Nat) (o : Obj), h'.get? s.heap.objs.size = some o -> ztt n o -> (∀ b o, b < s.heap.objs.size -> s.heap.get? b = some o -> h'.get? b = some o) ->
   (∀ p, H p = none -> Q (.ref p) (zt0 H p (zoV p n))) -> zwP X pins σ Q (.ref s.heap.objs.size) { s with heap := h', toks := tk } := fun n h' tk o ho hn hk q => by
  refine ⟨.ref s.heap.objs.size, _, I.laid (a := s.heap.objs.size) (o := zoV s.heap.objs.size n) (fun b u e => hk b u (Heap.lt_size e) e) (Nat.le_refl _) ?_, rfl, q _ I.fresh⟩
  refine ⟨⟨o, ho, hn⟩, ⟨o, ho⟩, fun h1 h2 hp hk2 => ?_⟩
  obtain ⟨o1, q1, q2⟩ := hp
  exact ⟨o1, hk2 o1 q1, q2⟩
 rcases h with ⟨ks, rfl, q⟩ | ⟨ts, ht, hts, q⟩
 ·
  have hkl : ks.length = its.length := by rw [← hlen, List.length_map]
  refine zfB (I.ok.hd hc) pl.isList (fun i o => o.SetObjOf (zaW X.prog X.w) (fun k => decide (k ∈ dd (ks.take i))) (dd (ks.take i)).length) (fun led => ?_) (fun A' hA' i v sh o Q' E' hi hv ho hJ hB hQ => ?_) fun h' tk o ho hJ hk => ?_
  ·have := setObjOf_fresh (knd := zaW X.prog X.w) led
   simpa [dd] using this
  ·have hi' : i < ks.length := by rw [List.size_toArray] at hi; omega
   obtain ⟨u2, hu2, ru2⟩ := rv.get (i := i) (x := zw7 ks[i]) (by simp [hi'])
   have ev : v = u2 := by
    have hv' : its[i]? = some v := by simpa using hv
    rw [hu2] at hv'
    exact (Option.some.inj hv').symm
   subst ev
   have hkey := zjA (P := X.prog) (w := X.w) ru2
   have hle : (dd (ks.take i)).length <= 300 := by
    have h1 := ziQ (ks.take i)
    rw [List.length_take] at h1
    rw [List.length_map] at hl
    omega
   unfold setAdd
   refine wpAny_holding (wpAny_bind ((zaW X.prog X.w).pyHash hkey ?_))
   refine wpAny_setAddHashed_of (knd := zaW X.prog X.w) (s := { sh with toks := sh.toks + 1 }) hkey (zki _ _ hkey) (hJ.setOf ho (by unfold scanBound; omega)) (by unfold scanBound; omega) fun h' hsb hS2 => ?_
   obtain ⟨o', ho', hso⟩ := hS2.objOf
   refine hQ _ h' _ o' (Nat.le_succ _) hsb ho' ?_
   have htk : ks.take (i + 1) = ks.take i ++ [ks[i]] := by rw [List.take_succ, List.getElem?_eq_getElem hi']; rfl
   show Obj.SetObjOf (zaW X.prog X.w) o' (fun k => decide (k ∈ dd (List.take (i + 1) ks))) (dd (List.take (i + 1) ks)).length
   rw [htk, zjJ]
   by_cases hm : ks[i] ∈ dd (ks.take i)
   ·rw [if_pos hm]
    rw [if_pos (by simpa using hm)] at hso
    have e : (fun k' => decide (k' ∈ dd (ks.take i)) || decide (k' = ks[i])) = fun k' => decide (k' ∈ dd (ks.take i)) := by
     funext k'
     by_cases hk' : k' = ks[i]
     ·subst hk'; simp [hm]
     ·simp [hk']
    rw [e] at hso
    exact hso
   ·rw [if_neg hm]
    rw [if_neg (by simpa using hm)] at hso
    have e : (fun k' => decide (k' ∈ dd (ks.take i)) || decide (k' = ks[i])) = fun k' => decide (k' ∈ dd (ks.take i) ++ [ks[i]]) := by
     funext k'
     rw [Bool.eq_iff_iff]
     simp
    rw [e] at hso
    simpa using hso
  ·have e : ks.take its.toArray.size = ks := by rw [List.size_toArray, ← hkl]; exact List.take_length
   rw [e] at hJ
   have hS := hJ.setOf ho (by have := ziQ ks; rw [List.length_map] at hl; unfold scanBound; omega)
   obtain ⟨o1, es, ep, t, v0, v1, v2, _, _, _, v3, v4⟩ := hS
   rw [ho] at v0
   cases v0
   exact fin _ h' tk o ho ⟨v1, es, ep, t, v2, v3, v4⟩ hk q
 ·
  have hkl : ts.length = its.length := by rw [← hlen, ht]
  refine zfB (I.ok.hd hc) pl.isList (fun i o => ST.TS (zaW X.prog X.w) s.heap (ts.take i) o) (fun led => ?_) (fun A' hA' i v sh o Q' E' hi hv ho hJ hB hQ => ?_) fun h' tk o ho hJ hk => ?_
  ·refine ⟨⟨rfl, rfl, rfl⟩, #[], 0, SetTable.fresh 0 0 led, rfl, ?_, .inl rfl, fun i e he => by simp at he, rfl, fun k hk => by simp [dd] at hk, fun i k b he => by simp at he⟩
   exact ⟨zrW, rfl, rfl, by simp [SetTable.fresh], by simp [SetTable.fresh], by simp [SetTable.fresh], fun i j h x hp => by simp [SetTable.fresh] at hp⟩
  ·have hi' : i < ts.length := by rw [List.size_toArray] at hi; omega
   obtain ⟨b, hb1, hb2⟩ := hts i ts[i] (by simp [hi'])
   obtain ⟨u2, hu2, ru2⟩ := rv.get hb1
   have ev : v = u2 := by
    have hv' : its[i]? = some v := by simpa using hv
    rw [hu2] at hv'
    exact (Option.some.inj hv').symm
   subst ev
   cases ru2
   have hkey := zgs I.hok hb2
   have htk : ts.take (i + 1) = ts.take i ++ [ts[i]] := by rw [List.take_succ, List.getElem?_eq_getElem hi']; rfl
   refine zm3 (fun v k => zki v k) (by omega) ho hJ hkey (fun b' o' e => hB b' o' (Heap.lt_size e) e) (by rw [List.length_take]; have := hl; omega) fun bb h' tk o' h1 h2 h3 h4 => hQ bb h' tk o' h1 h2 h3 (by show ST.TS _ _ (List.take (i + 1) ts) o'; rw [htk]; exact h4)
  ·have e : ts.take its.toArray.size = ts := by rw [List.size_toArray, ← hkl]; exact List.take_length
   rw [e] at hJ
   obtain ⟨hc', es, ep, t, w1, w2, w3, w4, w5, w6, w7⟩ := hJ
   exact fin _ h' tk o ho ⟨hc', es, ep, t, w1, w2.fits, w5⟩ hk q
theorem zjK : zeZ X (.builtin "len") (fun xs H Q => ∃ p n, xs = [.ref p] /\ H p = some (zoV p n) /\ n <= 300 /\ Q (.int n) H) := by
 intro pins s σ H xs us Q I r h
 obtain ⟨p, n, rfl, hp, hn, q⟩ := h
 obtain ⟨u, rfl, ru⟩ := zfY r
 cases ru
 obtain ⟨⟨o, ho, hex, es, ep, t, w1, w2, w3⟩, _, _⟩ := I.hok p _ hp
 exact call_len_set ho hex w1 w2 (by omega) ⟨.int n, H, I.tok _, ⟨_, by rw [w3]⟩, q⟩
end
end L2
end
section
namespace L2
open PySem PySem.Spec PyProof.Rows ST
def zeg : List D -> Option (List (List zvK))
 | [] => some []
 | .tup t :: r => (zff t).bind fun k => (zeg r).map (k :: ·)
 | _ :: _ => none
theorem zha {J : Cn} {K : PySem.W.Frag} {G H : zxg} (gh : zb5 G H) : ∀ {vs : List V} {ds : List D} {ts : List (List zvK)}, Reps J K G vs ds -> zeg ds = some ts -> vs.length = ts.length /\ ∀ (i : Nat) t, ts[i]? = some t -> ∃ b, vs[i]? = some (.ref b) /\ H b = some (.tup (t.map zw7))
 | _, [], ts, r, h => by cases r; cases h; exact ⟨rfl, fun i t e => by simp at e⟩
 | _, d :: ds, ts, .cons h1 h2, h => by
  cases d with
  | tup t =>
   unfold zeg at h
   obtain ⟨k, hk, h⟩ := oBd h
   obtain ⟨zs, hz, rfl⟩ := oMd h
   obtain ⟨a, us, rfl, ha, ra⟩ := h1.tup_inv
   have e := zdY ra hk
   subst e
   obtain ⟨q1, q2⟩ := zha gh h2 hz
   refine ⟨by rw [List.length_cons, List.length_cons, q1], fun i t' e => ?_⟩
   cases i with
   | zero => cases e; exact ⟨a, rfl, gh _ _ ha⟩
   | succ i => exact q2 i t' e
  | _ => cases h
def zfb : D -> Option D
 | .lst l => if l.length <= 300 then match zff l with
  | some ks => some (.int (dd ks).length)
  | none => (zeg l).map fun ts => .int (dd ts).length
  else none
 | _ => none
section
variable {J : Cn} {X : Cx} {e : Expr} {f : zxe} {pos p p2 pos2 : Pos}
theorem zmJ (hc : X.calm = true) (hu : X.A.units + 66 < cLine) (hgl : zwU X "len") (hml : X.mg "len" = none) (hgs : zwU X "set") (hms : X.mg "set" = none) (h : DE J X e f)
  (h1 : starEach ([.Call (.Name "set" p2) [e] [] pos2] : List Expr) X.env = (false, eval (.Call (.Name "set" p2) [e] [] pos2) X.env) :: starEach [] X.env := by rfl) (h2 : (backTo pos (starEach [] X.env)).any (·.1) = false := by rfl)
  (h3 : starEach ([e] : List Expr) X.env = (false, eval e X.env) :: starEach [] X.env := by rfl) (h4 : (backTo pos2 (starEach [] X.env)).any (·.1) = false := by rfl) :
  DE J X (.Call (.Name "len" p) [.Call (.Name "set" p2) [e] [] pos2] [] pos) (zwE zfb f) := ⟨by
 refine (zka zjK hgl hml (by rfl) (zdK (zgf (zn9 hc hu) hgs hms (by rfl) (zdK h.1 zfx h3) (by decide) (by decide) h3 h4) zfx h1) (by decide) (by decide) h1 h2).imp fun σ H Q => ?_
 rintro ⟨G₀, H₀, G, ρ, d, A, hq, k⟩
 unfold zwE at hq
 obtain ⟨x, hx, hl⟩ := oBd hq
 clear hq
 refine ⟨G₀, H₀, G, ρ, x, A, hx, fun v G1 H1 s1 r1 => ?_⟩
 unfold zfb at hl
 split at hl
 ·rename_i l
  split at hl
  ·rename_i hz
   obtain ⟨a, vs, rfl, ha, ra⟩ := r1.lst_inv
   have go : ∀ (n : Nat), n <= 300 -> d = .int n -> ∀ p, H1 p = none -> ∃ p' n', [V.ref p] = [V.ref p'] /\ (zt0 H1 p (zoV p n)) p' = some (zoV p' n') /\ n' <= 300 /\ Q (.int n') (zt0 H1 p (zoV p n)) := fun n hn ed p hp => by
    subst ed
    refine ⟨p, n, rfl, zaB, hn, k _ G1 _ (s1.trans (Step.newOwn s1.gh hp)) (.int _)⟩
   refine ⟨a, vs, rfl, s1.gh _ _ ha, by rw [ra.length]; exact hz, ?_⟩
   split at hl
   ·rename_i ks hk
    refine .inl ⟨ks, zdY ra hk, go _ ?_ (Option.some.inj hl).symm⟩
    have h5 := ziQ ks
    have h6 : ks.length = l.length := by
     have := zdY ra hk
     rw [← ra.length, this, List.length_map]
    omega
   ·obtain ⟨ts, ht, e1⟩ := oMd hl
    obtain ⟨q1, q2⟩ := zha s1.gh ra ht
    refine .inr ⟨ts, q1, q2, go _ ?_ e1.symm⟩
    have h5 := ziQ ts
    have h6 := ra.length
    omega
  ·cases hl
 ·cases hl⟩
end
end L2
end
section
namespace DT
open PySem PySem.Spec PyProof.Rows
theorem zpP : typeLookup (.type "list") "keys" = pure none := by rw [typeLookup_type, builtinLookup_eq_fast]; kernel_rfl
theorem zpQ : typeLookup (.type "list") "__getattr__" = pure none := by rw [typeLookup_type, builtinLookup_eq_fast]; kernel_rfl
theorem zlU {l : Addr} {u : Tok} {R : Result -> Shared -> Prop} {prog : Program} {w : World} {A : Around} {s : Shared} {xs : Array Value} {n : Nat} (hx : s.heap.get? l = some { cls := .type "list", data := .seq xs n }) (hA : A.handled = none)
  (h : ∀ h' tk e, Heap.NewAttrErr s.heap h' e (.ref l) "keys" -> R (.error (.ref e)) { s with heap := h', toks := tk }) :
  codeAny (model prog w) A (.call (.builtin "list.__getattribute__") ⟨[.ref l, .str "keys" u], []⟩) R s := by
 obtain ⟨hp, g, d, tk, os⟩ := s
 have hT : (⟨hp, g, d, tk, os⟩ : Shared).TypeIs (.ref l) "list" := ⟨_, hx, rfl⟩
 have f1 := zpP
 refine codeAny_call_builtin F.slot_list_getattribute.plain F.entry_list_ga (F.slot_list_getattribute.check _ _ _ _ _ _ _ _ hT (F.args_list_getattribute_2 _ _) ?_)
 unfold Builtin.«object.__getattribute__»
 repeat (any_goals (first | assumption | wp_step))
 have hsz : (Str.ofString "keys").length + 100 <= sizeLine := by rw [PySem.ofString_length]; decide
 refine wpAny_raiseAttrError (A := A.in1) hA h ?_
 exact attrMsg_fits (by decide +kernel) hsz
set_option maxHeartbeats 4000000 in
theorem zl9 {l : Addr} {Q : Option Value -> Shared -> Prop} {prog : Program} {w : World} {A : Around} {E : Value -> Shared -> Prop} {s : Shared} {xs : Array Value} {n : Nat} (hx : s.heap.get? l = some { cls := .type "list", data := .seq xs n }) (hA : A.handled = none)
  (h : ∀ h' tk, (∀ b zw9, s.heap.get? b = some zw9 -> h'.get? b = some zw9) -> Q none { s with heap := h', toks := tk }) :
  wpAny (model prog w) A (getAttr? (.ref l) "keys") Q E s := by
 obtain ⟨hp, g, d, tk, os⟩ := s
 have hT : ∀ tk', (⟨hp, g, d, tk', os⟩ : Shared).TypeIs (.ref l) "list" := fun _ => ⟨_, hx, rfl⟩
 have f1 := sub_AttributeError
 have f2 := F.slot_list_getattribute.lookup
 have f3 := F.slot_list_getattribute.bind (.ref l)
 have f5 := zpQ
 unfold getAttr? getAttrBy?
 refine wpAny_bind (wpAny_mkText ?_)
 refine wpAny_bind (wpAny_attempt ?_)
 unfold getAttrBy
 refine wpAny_holding (wpAny_bind (wpAny_typeOf (hT _) (wpAny_bind (wpAny_of_eq f2 ?_))))
 show wpAny _ _ (getAttrByItsOwn _ _ _ _ _ _) _ _ _
 unfold getAttrByItsOwn
 refine wpAny_bind (m := hookBefore (Value.type "list")) (wpAny_pure ?_)
 refine wpAny_bind (wpAny_attempt (wpAny_holding ?_))
 show wpAny _ _ (boundAndCalled _ _ _) _ _ _
 unfold boundAndCalled
 refine wpAny_bind (wpAny_of_eq f3 ?_)
 refine wpAny_call (zlU (s := ⟨hp, g, d, tk + 1, os⟩) hx hA fun h' tk' e hn => ?_)
 obtain ⟨t', u', he⟩ := hn.there
 have hE : Shared.TypeIs ⟨h', g, d, tk', os⟩ (.ref e) "AttributeError" := ⟨_, he, rfl⟩
 show wpAny _ _ (getattributeRaised _ _ _ _ _ _ _) _ _ _
 unfold getattributeRaised
 refine wpAny_bind (wpAny_isInstance hE f1 ?_)
 simp only [if_true]
 refine wpAny_bind (m := hookBehind (Value.type "list") none) (wpAny_of_eq f5 ?_)
 unfold hookOrError attributeErrorLeaves
 simp only [Bool.not_false, if_true]
 refine wpAny_bind (wpAny_throw ?_)
 refine wpAny_bind (wpAny_isInstance hE f1 ?_)
 simp only [if_true]
 exact wpAny_pure (h h' tk' hn.keeps)
end DT
end
section
namespace DT
open PySem PySem.Spec PyProof.Rows
theorem zhr : entryFor table "dict.update.loop" = some Builtin.«dict.update.loop» := entryFor_of_tree (by kernel_rfl)
theorem zdU : plainId "dict.update.loop" = true := by decide +kernel
section
variable {prog : Program} {w : World} {A : Around} {R : Result -> Shared -> Prop} {I : Addr} {fp wr : List Addr} {G : Array GenState -> Array GenState -> Prop} {n : Nat} {P : Nat -> Value -> Prop} {zxd : Nat -> Shared -> Prop}
def zsh (prog : Program) (w : World) (A : Around) (S : Addr) (h0 : Heap) (P : Nat -> Value -> Prop) (n : Nat) (zxi : Nat -> Obj -> Prop) : Prop :=
 ∀ (i : Nat) (b : Addr) (kv vv : Value) (s : Shared) (o : Obj) (Q : Unit -> Shared -> Prop) (E : Value -> Shared -> Prop), i < n -> P i (.ref b) -> h0.IsTuple b #[kv, vv] -> s.heap.get? S = some o -> zxi i o -> (∀ b o, b < h0.objs.size -> h0.get? b = some o -> s.heap.get? b = some o) ->
  (∀ h' tk o', s.toks <= tk -> Heap.SameBut S s.heap h' -> h'.get? S = some o' -> zxi (i + 1) o' -> Q () { s with heap := h', toks := tk }) -> wpAny (model prog w) A (dictSet S kv vv) Q E s
theorem zmA (W : WalksS prog w A.in1 I fp wr G n P zxd) (S : Addr) (hSf : S ∉ fp) (h0 : Heap) (hS0 : h0.objs.size <= S) (hw0 : ∀ b ∈ wr, h0.objs.size <= b) (zxi : Nat -> Obj -> Prop) (hadd : zsh prog w A.in1 S h0 P n zxi) (hP : ∀ i v, P i v -> ∃ b kv vv, v = .ref b /\ h0.IsTuple b #[kv, vv]) :
  ∀ (k i : Nat) (c : Int) (s : Shared) (o : Obj), n - i = k -> i <= n -> zxd i s -> s.heap.get? S = some o -> zxi i o -> (∀ b o, b < h0.objs.size -> h0.get? b = some o -> s.heap.get? b = some o) ->
   (∀ s' o', Moved (S :: wr) G s s' -> s'.heap.get? S = some o' -> zxi n o' -> R (.ok (.ret .none)) s') ->
   codeAny (model prog w) A (.builtin "dict.update.loop" ⟨[.ref S, .ref I, rawInt c, .none], []⟩) R s := by
 have hSw : S ∉ wr := fun h => hSf (W.sub _ h)
 have hsub : ∀ b ∈ wr, b ∈ S :: wr := fun b hb => List.mem_cons_of_mem _ hb
 have keep : ∀ {h h' : Heap}, (∀ b o, b < h0.objs.size -> h0.get? b = some o -> h.get? b = some o) -> (∀ b o, b ∉ S :: wr -> h.get? b = some o -> h'.get? b = some o) -> ∀ b o, b < h0.objs.size -> h0.get? b = some o -> h'.get? b = some o := fun q1 q2 b o hb e => q2 b o (fun z => by
  rcases List.mem_cons.mp z with z | z
  ·rw [z] at hb; exact absurd hb (Nat.not_lt.mpr hS0)
  ·exact absurd hb (Nat.not_lt.mpr (hw0 b z))) (q1 b o hb e)
 intro k
 induction k with
 | zero =>
  intro i c s o hk hi hst hS hJ hB hR
  have hin : i = n := by omega
  subst hin
  refine codeAny_builtin zhr ?_
  rw [Around.under_plainId zdU _]
  show wpAny _ A.in1 (pyNext (.ref I) >>= _) _ _ s
  refine wpAny_bind (W.done s _ _ hst fun s' hm => ?_)
  show wpAny _ A.in1 (Builtin.Dict.addKeywords S [] >>= _) _ _ s'
  exact wpAny_bind (wpAny_pure (wpAny_pure (hR s' o (hm.mono hsub) (hm.heap S _ hSw hS) hJ)))
 | succ k ih =>
  intro i c s o hk hi hst hS hJ hB hR
  have hlt : i < n := by omega
  refine codeAny_builtin zhr ?_
  rw [Around.under_plainId zdU _]
  show wpAny _ A.in1 (pyNext (.ref I) >>= _) _ _ s
  refine wpAny_bind (W.item i s _ _ hlt hst fun v s' hPv hst' hm => ?_)
  obtain ⟨b, kv, vv, rfl, hb⟩ := hP i v hPv
  have hB' := keep hB fun b o hb e => hm.heap b o (fun z => hb (hsub b z)) e
  obtain ⟨zw9, hob, hoc, nn, hod⟩ := hb
  have hob' : s'.heap.get? b = some zw9 := hB' b zw9 (Heap.lt_size hob) hob
  have hTb : s'.TypeIs (.ref b) "tuple" := ⟨_, hob', hoc⟩
  show wpAny _ A.in1 (holding [Value.ref b] _ >>= _) _ _ s'
  refine wpAny_bind (wpAny_holding ?_)
  refine wpAny_bind ?_
  refine wpAny_tryCatch ?_
  unfold Builtin.Dict.pairItems
  refine wpAny_bind (wpAny_typeOf hTb ?_)
  rw [if_pos (by decide)]
  refine wpAny_bind (wpAny_seqItems hob' hod (wpAny_pure ?_))
  show wpAny _ A.in1 (holding [kv, vv] (dictSet S kv vv)) _ _ s'
  refine wpAny_holding (hadd i b kv vv s' o _ _ hlt hPv ⟨zw9, hob, hoc, nn, hod⟩ (hm.heap S _ hSw hS) hJ hB' fun h' tk o' htk hsb hS' hJ' => ?_)
  refine wpAny_pure ⟨plainId_quiet zdU _, ih (i + 1) (c + 1) _ o' (by omega) hlt (W.frame _ s' _ _ hst' htk fun b hb o e => ?_) hS' hJ' ?_ fun s'' o'' hm'' hS'' hJ'' => ?_⟩
  ·rw [hsb.2 b (fun h : b = S => hSf (by rw [← h]; exact hb))]; exact e
  ·refine keep hB' fun b o hb e => ?_
   show h'.get? b = some o
   rw [hsb.2 b (fun h : b = S => hb (by rw [h]; exact List.mem_cons_self))]; exact e
  ·refine hR s'' o'' (Moved.trans W.gtrans ((hm.mono hsub).then_heap htk fun b o hb e => ?_) hm'') hS'' hJ''
   rw [hsb.2 b (fun h : b = S => hb (by rw [h]; exact List.mem_cons_self))]; exact e
end
section
variable {prog : Program} {w : World} {A : Around} {E : Value -> Shared -> Prop} {s : Shared}
theorem call_dict_gen {l : Addr} {items : Array Value} {c : Nat} {Q : Value -> Shared -> Prop} (hh : A.handled = none) (hl : s.heap.get? l = some { cls := .type "list", data := .seq items c }) (zxi : Nat -> Obj -> Prop)
  (hJ0 : zxi 0 { cls := .type "dict", data := .dict #[] })
  (hadd : ∀ A' : Around, A'.units <= A.units + 16 -> zsh prog w A' s.heap.objs.size s.heap (fun i v => items[i]? = some v) items.size zxi)
  (hP : ∀ (i : Nat) (v : Value), items[i]? = some v -> ∃ b kv vv, v = .ref b /\ s.heap.IsTuple b #[kv, vv])
  (h : ∀ (h' : Heap) (tk : Nat) (o : Obj), h'.get? s.heap.objs.size = some o -> zxi items.size o ->
   (∀ b o, b < s.heap.objs.size -> s.heap.get? b = some o -> h'.get? b = some o) -> Q (.ref s.heap.objs.size) { s with heap := h', toks := tk }) :
  wpAny (model prog w) A (call (.type "dict") [.ref l]) Q E s := by
 refine callType_codes (Q₁ := fun obj s₁ => obj = .ref s.heap.objs.size /\ s₁ = { s with heap := s.heap.push { cls := .type "dict", data := .dict #[] } }) F.kt_called_dict (F.kt_typeCall_dict_1 _) F.entry_dict_init (kt_code_dict_new _ ⟨rfl, rfl⟩) ?_
 rintro obj s₁ ⟨rfl, rfl⟩
 have hnew : (s.heap.push { cls := .type "dict", data := .dict #[] }).get? s.heap.objs.size = some { cls := .type "dict", data := .dict #[] } := Heap.get?_push_size _ rfl
 have hl1 : (s.heap.push { cls := .type "dict", data := .dict #[] }).get? l = some { cls := .type "list", data := .seq items c } := Heap.get?_push_of_some _ hl
 have hT : Shared.TypeIs { s with heap := s.heap.push { cls := .type "dict", data := .dict #[] } } (.ref s.heap.objs.size) "dict" := ⟨_, hnew, rfl⟩
 have hTl : Shared.TypeIs { s with heap := s.heap.push { cls := .type "dict", data := .dict #[] } } (.ref l) "list" := ⟨_, hl1, rfl⟩
 refine ⟨hT, F.args_dict_init_2 _ _, ?_⟩
 unfold Builtin.«dict.__init__»
 refine wpAny_bind ?_
 unfold Builtin.Dict.selfAndRest
 refine wpAny_bind (wpAny_notOrdered_dict hT ?_)
 show wpAny _ _ (pure (s.heap.objs.size, [Value.ref l])) _ _ _
 refine wpAny_pure ?_
 show wpAny _ _ (Builtin.Dict.updateFrom "dict.__init__" s.heap.objs.size (.ref l) [] .none) _ _ _
 unfold Builtin.Dict.updateFrom
 refine wpAny_bind (wpAny_typeOf hTl ?_)
 rw [if_pos (by decide)]
 refine wpAny_bind (zl9 (s := { s with heap := s.heap.push { cls := .type "dict", data := .dict #[] } }) (A := A.in1.in1) hl1 hh fun h1 tk1 hk1 => ?_)
 simp only [Option.isNone_none, if_true]
 refine wpAny_bind (wpAny_rule ?_)
 have hl2 : h1.IsList l items := ⟨_, hk1 _ _ hl1, rfl, _, rfl⟩
 refine wpAny_bind (wpAny_pyIter_list (s := { s with heap := h1, toks := tk1 }) hl2 ?_)
 refine wpAny_pure ⟨plainId_quiet zdU _, ?_⟩
 have hlS : l < s.heap.objs.size := Heap.lt_size hl
 have hsz1 : s.heap.objs.size < h1.objs.size := Heap.lt_size (hk1 _ _ hnew)
 have hneI : l ≠ h1.objs.size := Nat.ne_of_lt (Nat.lt_trans hlS hsz1)
 have hSf : s.heap.objs.size ∉ [h1.objs.size, l] := by
  simp only [List.mem_cons, List.mem_singleton, List.not_mem_nil, or_false, not_or]
  exact ⟨Nat.ne_of_lt hsz1, Nat.ne_of_gt hlS⟩
 have old : ∀ b o, b < s.heap.objs.size -> s.heap.get? b = some o -> h1.get? b = some o := fun b o _ e => hk1 _ _ (Heap.get?_push_of_some _ e)
 refine zmA ((Walks.list (A := A.in1.in1) (by simpa using hh) _ l hneI items).toS) s.heap.objs.size hSf s.heap (Nat.le_refl _) (fun b hb => ?_) zxi (hadd _ (by show A.units + 2 <= _; omega)) hP (items.size - 0) 0 0 _ _ (by omega) (Nat.zero_le _)
  ⟨⟨_, Heap.get?_push_size _ rfl, rfl, rfl⟩, hl2.push _⟩ (Heap.get?_push_of_some _ (hk1 _ _ hnew)) hJ0 (fun b o hb e => Heap.get?_push_of_some _ (old b o hb e)) fun s' o' hm hS' hJ' => ?_
 ·have : b = h1.objs.size := by simpa using hb
  rw [this]; exact Nat.le_of_lt hsz1
 ·obtain ⟨h', g', d', tk', os'⟩ := s'
  have eg : g' = s.gens := hm.gens
  have ed : d' = s.drawn := hm.drawn
  have eo : os' = s.os := hm.os
  subst eg; subst ed; subst eo
  refine ⟨rfl, h h' tk' o' hS' hJ' fun b o hb e => hm.heap b o ?_ (Heap.get?_push_of_some _ (old b o hb e))⟩
  simp only [List.mem_cons, List.mem_singleton, List.not_mem_nil, or_false, not_or]
  exact ⟨Nat.ne_of_lt hb, Nat.ne_of_lt (Nat.lt_trans hb hsz1)⟩
end
end DT
end
section
namespace L2
open PySem PySem.Spec PyProof.Rows
section
variable {κ : Type} [DecidableEq κ]
def zuK (kvs ps : List (κ × V)) : List (κ × V) := ps.foldl (fun acc kv => zhg acc kv.1 kv.2) kvs
theorem zkh (kvs ps : List (κ × V)) (p : κ × V) : zuK kvs (ps ++ [p]) = zhg (zuK kvs ps) p.1 p.2 := by unfold zuK; rw [List.foldl_append]; rfl
theorem zno (kvs : List (κ × V)) (k : κ) (v : V) : (zhg kvs k v).length <= kvs.length + 1 := by
 unfold zhg
 split
 ·rw [List.length_map]; omega
 ·rw [List.length_append, List.length_singleton]; omega
theorem zgl : ∀ (ps kvs : List (κ × V)), (zuK kvs ps).length <= kvs.length + ps.length
 | [], kvs => Nat.le_refl _
 | p :: ps, kvs => by
  have h1 := zgl ps (zhg kvs p.1 p.2)
  have h2 := zno kvs p.1 p.2
  show (zuK (zhg kvs p.1 p.2) ps).length <= _
  rw [List.length_cons]
  omega
end
section
variable {X : Cx}
def zq6 : List V -> zxg -> zw3 -> Prop := fun xs H Q => ∃ (a : Addr) (vs : List V) (ps : List (zvK × V)), xs = [.ref a] /\ H a = some (.lst vs) /\ vs.length = ps.length /\ ps.length <= 1000 /\ (∀ (i : Nat) p, ps[i]? = some p -> ∃ b, vs[i]? = some (.ref b) /\ H b = some (.tup [zw7 p.1, p.2])) /\
 ∀ q, H q = none -> Q (.ref q) (zt0 H q (.dK (zuK [] ps)))
theorem zlK {pins : List (Addr × Obj)} {σ : zxd} {H : zxg} {s : Shared} {b : Addr} {x y : V} (I : Inv X pins σ H s) (hb : H b = some (.tup [x, y])) : ∃ u v, zb6 x u /\ zb6 y v /\ s.heap.IsTuple b #[u, v] := by
 obtain ⟨its, r, p, _⟩ := I.tuple (.inl (.inl hb))
 cases r with
 | cons r1 r2 =>
  cases r2 with
  | cons r2 r3 =>
   cases r3
   exact ⟨_, _, r1, r2, p⟩
theorem tuple_inj {h : Heap} {b : Addr} {x y : Array Value} (p : h.IsTuple b x) (q : h.IsTuple b y) : x = y := by
 obtain ⟨o, h1, _, n, h2⟩ := p
 obtain ⟨o', g1, _, m, g2⟩ := q
 rw [h1] at g1
 cases g1
 rw [h2] at g2
 cases g2
 rfl
theorem zk6 (hc : X.calm = true) (hu : X.A.units + 66 < cLine) : zeZ X (.type "dict") zq6 := by
 intro pins s σ H xs us Q I r h
 obtain ⟨a, vs, ps, rfl, ha, hl, hz, hp, q⟩ := h
 obtain ⟨u, rfl, ru⟩ := zfY r
 cases ru
 obtain ⟨z, its, n, rv, hlen, e⟩ := I.lstM ha
 have hsz : its.toArray.size = ps.length := by rw [List.size_toArray, ← hlen, hl]
 have hit : ∀ (i : Nat) (v : Value), its.toArray[i]? = some v -> ∃ p b u w, ps[i]? = some p /\ v = .ref b /\ zb6 (zw7 p.1) u /\ zb6 p.2 w /\ s.heap.IsTuple b #[u, w] := fun i v hv => by
  have hi : i < ps.length := by rw [← hsz]; exact (Array.getElem?_eq_some_iff.mp hv).1
  obtain ⟨b, hb1, hb2⟩ := hp i ps[i] (by simp [hi])
  obtain ⟨u2, hu2, ru2⟩ := rv.get hb1
  have hv' : its[i]? = some v := by simpa using hv
  rw [hu2] at hv'
  cases hv'
  cases ru2
  obtain ⟨u, w, r1, r2, r3⟩ := zlK I hb2
  exact ⟨ps[i], b, u, w, by simp [hi], rfl, r1, r2, r3⟩
 refine DT.call_dict_gen (I.ok.hd hc) e (fun i o => ∃ vs', zwQ (zuK [] (ps.take i)) vs' /\ o.IsDictOf (zaW X.prog X.w) vs') ?_ (fun A' hA' i b kv vv sh o Q' E' hi hv hb ho hJ hB hQ => ?_) (fun i v hv => ?_) fun h' tk o ho hJ hk => ?_
 ·obtain ⟨o, ho, hd⟩ := Heap.dictOf_iff.mp (Heap.DictOf.new (knd := zaW X.prog X.w) s.heap)
  have : o = { cls := .type "dict", data := .dict #[] } := by
   have := Heap.get?_push_size s.heap (o := { cls := .type "dict", data := .dict #[] }) rfl
   rw [this] at ho
   exact (Option.some.inj ho).symm
  subst this
  exact ⟨[], .nil, hd⟩
 ·obtain ⟨p, b', u, w, h1, h2, h3, h4, h5⟩ := hit i _ hv
  cases h2
  have e2 := tuple_inj hb h5
  have e3 : kv = u /\ vv = w := by simpa using e2
  obtain ⟨rfl, rfl⟩ := e3
  obtain ⟨vs', zwY, zwR⟩ := hJ
  have hle : vs'.length <= 1000 := by
   have q1 := zwY.length
   have q2 := zgl (ps.take i) ([] : List (zvK × V))
   rw [List.length_take, List.length_nil] at q2
   omega
  refine wpAny_dictSet_pairs (zjA h3) (Heap.dictOf_iff.mpr ⟨o, ho, zwR⟩) (fun h' hd' hsb => ?_) (by rw [sizeLine_eq]; omega)
  obtain ⟨o', ho', hd''⟩ := Heap.dictOf_iff.mp hd'
  refine hQ h' _ o' (Nat.le_succ _) hsb ho' ⟨_, ?_, hd''⟩
  have htk : ps.take (i + 1) = ps.take i ++ [p] := by rw [List.take_succ, h1]; rfl
  rw [htk, zkh]
  exact zwY.put p.1 h4
 ·obtain ⟨p, b, u, w, h1, h2, h3, h4, h5⟩ := hit i v hv
  exact ⟨b, u, w, h2, h5⟩
 ·obtain ⟨vs', zwY, zwR⟩ := hJ
  rw [hsz, List.take_length] at zwY
  refine ⟨.ref s.heap.objs.size, _, I.laid (a := s.heap.objs.size) (o := .dK (zuK [] ps)) (fun b u e => hk b u (Heap.lt_size e) e) (Nat.le_refl _) ⟨?_, ?_, vs', zwY, Heap.dictOf_iff.mpr ⟨o, ho, zwR⟩⟩, rfl, q _ I.fresh⟩
  ·have := zgl ps ([] : List (zvK × V))
   rw [List.length_nil] at this
   rw [sizeLine_eq]
   omega
  ·exact beq_eq_false_iff_ne.mpr (Ne.symm (Nat.ne_of_lt I.big))
def zq5 : List V -> zxg -> zw3 -> Prop := fun xs H Q => ∃ (a : Addr) (vs : List V) (ps : List (List zvK × V)), xs = [.ref a] /\ H a = some (.lst vs) /\ vs.length = ps.length /\ ps.length <= 1000 /\ (∀ (i : Nat) p, ps[i]? = some p -> ∃ b kb, vs[i]? = some (.ref b) /\ H b = some (.tup [.ref kb, p.2]) /\ H kb = some (.tup (p.1.map zw7))) /\
 ∀ q, H q = none -> Q (.ref q) (zt0 H q (.dT (zuK [] ps)))
theorem zrG {H : zxg} {P : List zvK -> Addr -> Prop} (hP : ∀ k b, H b = some (.tup (k.map zw7)) -> P k b) : ∀ {kvs : List (List zvK × V)} {xs : List (List zvK × Addr × Value)}, zwJ H kvs xs -> ∀ x ∈ xs, P x.1 x.2.1 := by
 intro kvs xs q
 induction q with
 | nil => intro x hx; cases hx
 | @cons p y ps ys hq t ih =>
  intro x hx
  rcases List.mem_cons.mp hx with rfl | hx
  ·exact hP _ _ (by rw [← hq.1]; exact hq.2.1)
  ·exact ih x hx
theorem zk5 (hc : X.calm = true) (hu : X.A.units + 66 < cLine) : zeZ X (.type "dict") zq5 := by
 intro pins s σ H xs us Q I r h
 obtain ⟨a, vs, ps, rfl, ha, hl, hz, hp, q⟩ := h
 obtain ⟨u, rfl, ru⟩ := zfY r
 cases ru
 obtain ⟨z, its, n, rv, hlen, e⟩ := I.lstM ha
 have hsz : its.toArray.size = ps.length := by rw [List.size_toArray, ← hlen, hl]
 have hit : ∀ (i : Nat) (v : Value), its.toArray[i]? = some v -> ∃ p b kb w, ps[i]? = some p /\ v = .ref b /\ H kb = some (.tup (p.1.map zw7)) /\ zb6 p.2 w /\ s.heap.IsTuple b #[.ref kb, w] := fun i v hv => by
  have hi : i < ps.length := by rw [← hsz]; exact (Array.getElem?_eq_some_iff.mp hv).1
  obtain ⟨b, kb, hb1, hb2, hb3⟩ := hp i ps[i] (by simp [hi])
  obtain ⟨u2, hu2, ru2⟩ := rv.get hb1
  have hv' : its[i]? = some v := by simpa using hv
  rw [hu2] at hv'
  cases hv'
  cases ru2
  obtain ⟨u, w, r1, r2, r3⟩ := zlK I hb2
  cases r1
  exact ⟨ps[i], b, kb, w, by simp [hi], rfl, hb3, r2, r3⟩
 have isk : ∀ {h' : Heap}, (∀ b o, b < s.heap.objs.size -> s.heap.get? b = some o -> h'.get? b = some o) -> ∀ k b, H b = some (.tup (k.map zw7)) -> (tupleKind (zaW X.prog X.w)).is h' k b := fun hB k b hb => ST.IsTupleKey.mono (zgs I.hok hb) fun o e => hB _ _ (Heap.lt_size e) e
 refine DT.call_dict_gen (I.ok.hd hc) e (fun i o => ∃ xs', zwJ H (zuK [] (ps.take i)) xs' /\ ∃ es ep, o.ExactDict /\ o.data = .dict es ep /\ es.toList = xs'.map (entryOfKey (tupleKind (zaW X.prog X.w))) /\ (xs'.map (·.1)).Nodup) ?_ (fun A' hA' i b kv vv sh o Q' E' hi hv hb ho hJ hB hQ => ?_) (fun i v hv => ?_) fun h' tk o ho hJ hk => ?_
 ·exact ⟨[], .nil, #[], 0, ⟨rfl, rfl, rfl⟩, rfl, rfl, List.nodup_nil⟩
 ·obtain ⟨p, b', kb, w, h1, h2, h3, h4, h5⟩ := hit i _ hv
  cases h2
  have e2 := tuple_inj hb h5
  have e3 : kv = .ref kb /\ vv = w := by simpa using e2
  obtain ⟨rfl, rfl⟩ := e3
  obtain ⟨xs', zwY, es, ep, zwR, zwx, zwD, zwg⟩ := hJ
  have hle : xs'.length <= 1000 := by
   have q1 := Paired.length zwY
   have q2 := zgl (ps.take i) ([] : List (List zvK × V))
   rw [List.length_take, List.length_nil] at q2
   omega
  refine wpAny_dictSet_heap (knd := tupleKind (zaW X.prog X.w)) (show A'.units < cLine by omega) (isk hB _ _ h3) ⟨o, es, ep, ho, zwR, zwx, zwD, zrG (isk hB) zwY, zwg⟩ (fun h' hd' hsb => ?_) (by rw [sizeLine_eq]; omega)
  obtain ⟨o', es', ep', ho', w2, w3, w4, _, w5⟩ := hd'
  refine hQ h' _ o' (Nat.le_add_right _ _) hsb ho' ⟨_, ?_, es', ep', w2, w3, w4, w5⟩
  have htk : ps.take (i + 1) = ps.take i ++ [p] := by rw [List.take_succ, h1]; rfl
  rw [htk, zkh]
  exact zwY.put p.1 h3 h4
 ·obtain ⟨p, b, kb, w, h1, h2, h3, h4, h5⟩ := hit i v hv
  exact ⟨b, _, w, h2, h5⟩
 ·obtain ⟨xs', zwY, es, ep, zwR, zwx, zwD, zwg⟩ := hJ
  rw [hsz, List.take_length] at zwY
  refine ⟨.ref s.heap.objs.size, _, I.laid (a := s.heap.objs.size) (o := .dT (zuK [] ps)) (fun b u e => hk b u (Heap.lt_size e) e) (Nat.le_refl _) ⟨?_, ?_, xs', zwY.keeps fun b ys e => ?_, o, es, ep, ho, zwR, zwx, zwD, zwg⟩, rfl, q _ I.fresh⟩
  ·have := zgl ps ([] : List (List zvK × V))
   rw [List.length_nil] at this
   rw [sizeLine_eq]
   omega
  ·exact beq_eq_false_iff_ne.mpr (Ne.symm (Nat.ne_of_lt I.big))
  ·rw [zaz (zaq e I.fresh)]; exact e
end
section
variable {J : Cn} {X : Cx}
def zhk : List D -> Option (List (zvK × D))
 | [] => some []
 | .tup [k, v] :: r => (zm6 k).bind fun kk => (zhk r).map ((kk, v) :: ·)
 | _ :: _ => none
def zgh : List D -> Option (List (List zvK × D))
 | [] => some []
 | .tup [.tup t, v] :: r => (zff t).bind fun kk => (zgh r).map ((kk, v) :: ·)
 | _ :: _ => none
def zsm {κ : Type} [DecidableEq κ] (ps : List (κ × D)) : List (κ × D) := ps.foldl (fun acc kv => zjm acc kv.1 kv.2) []
def ziO : List D -> Option D
 | [.lst l] => if l.length <= 1000 then (zhk l).map fun ps => .dk (zsm ps) else none
 | _ => none
def zhs : List D -> Option D
 | [.lst l] => if l.length <= 1000 then (zgh l).map fun ps => .dt (zsm ps) else none
 | _ => none
theorem zl7 {κ : Type} [DecidableEq κ] {K : PySem.W.Frag} {G : zxg} : ∀ {us : List (κ × V)} {kvs : List (κ × D)} {acc : List (κ × V)} {acd : List (κ × D)}, us.map (·.1) = kvs.map (·.1) -> Reps J K G (us.map (·.2)) (kvs.map (·.2)) -> acc.map (·.1) = acd.map (·.1) -> Reps J K G (acc.map (·.2)) (acd.map (·.2)) ->
  (zuK acc us).map (·.1) = (kvs.foldl (fun acc kv => zjm acc kv.1 kv.2) acd).map (·.1) /\ Reps J K G ((zuK acc us).map (·.2)) ((kvs.foldl (fun acc kv => zjm acc kv.1 kv.2) acd).map (·.2))
 | [], [], _, _, _, _, e, r => ⟨e, r⟩
 | [], _ :: _, _, _, e, _, _, _ => by cases e
 | _ :: _, [], _, _, e, _, _, _ => by cases e
 | (zwY, v) :: us, (zwR, d) :: kvs, acc, acd, e, r, e0, r0 => by
  have e1 : zwY = zwR := (List.cons.inj e).1
  subst e1
  have r : Reps J K G (v :: us.map (·.2)) (d :: kvs.map (·.2)) := r
  cases r with
  | cons r1 r2 =>
   obtain ⟨w1, w2⟩ := zov (k := zwY) r1 e0 r0
   exact zl7 (us := us) (kvs := kvs) (List.cons.inj e).2 r2 w1 w2
theorem ziC {K : PySem.W.Frag} {G H : zxg} (gh : zb5 G H) : ∀ {vs : List V} {ds : List D} {ps : List (zvK × D)}, Reps J K G vs ds -> zhk ds = some ps ->
  ∃ us : List (zvK × V), vs.length = us.length /\ us.map (·.1) = ps.map (·.1) /\ Reps J K G (us.map (·.2)) (ps.map (·.2)) /\ ∀ (i : Nat) p, us[i]? = some p -> ∃ b, vs[i]? = some (.ref b) /\ H b = some (.tup [zw7 p.1, p.2])
 | _, [], ps, r, h => by cases r; cases h; exact ⟨[], rfl, rfl, .nil, fun i p e => by simp at e⟩
 | _, d :: ds, ps, .cons h1 h2, h => by
  unfold zhk at h
  split at h
  ·rename_i heq; cases heq
  ·rename_i heq
   cases heq
   obtain ⟨kk, hk, h⟩ := oBd h
   obtain ⟨zs, hz, rfl⟩ := oMd h
   obtain ⟨us, q1, q2, q3, q4⟩ := ziC gh h2 hz
   obtain ⟨a, ws, rfl, ha, ra⟩ := h1.tup_inv
   obtain ⟨x, y, rfl, rx, ry⟩ := ra.two
   have ex := zhW rx hk
   subst ex
   refine ⟨(kk, y) :: us, by rw [List.length_cons, List.length_cons, q1], by simp [q2], .cons ry q3, fun i p e => ?_⟩
   cases i with
   | zero => cases e; exact ⟨a, rfl, gh _ _ ha⟩
   | succ i => exact q4 i p e
  ·cases h
theorem ziB {K : PySem.W.Frag} {G H : zxg} (gh : zb5 G H) : ∀ {vs : List V} {ds : List D} {ps : List (List zvK × D)}, Reps J K G vs ds -> zgh ds = some ps ->
  ∃ us : List (List zvK × V), vs.length = us.length /\ us.map (·.1) = ps.map (·.1) /\ Reps J K G (us.map (·.2)) (ps.map (·.2)) /\ ∀ (i : Nat) p, us[i]? = some p -> ∃ b kb, vs[i]? = some (.ref b) /\ H b = some (.tup [.ref kb, p.2]) /\ H kb = some (.tup (p.1.map zw7))
 | _, [], ps, r, h => by cases r; cases h; exact ⟨[], rfl, rfl, .nil, fun i p e => by simp at e⟩
 | _, d :: ds, ps, .cons h1 h2, h => by
  unfold zgh at h
  split at h
  ·rename_i heq; cases heq
  ·rename_i heq
   cases heq
   obtain ⟨kk, hk, h⟩ := oBd h
   obtain ⟨zs, hz, rfl⟩ := oMd h
   obtain ⟨us, q1, q2, q3, q4⟩ := ziB gh h2 hz
   obtain ⟨a, ws, rfl, ha, ra⟩ := h1.tup_inv
   obtain ⟨x, y, rfl, rx, ry⟩ := ra.two
   obtain ⟨kb, ks, rfl, hkb, rk⟩ := rx.tup_inv
   have ex := zdY rk hk
   subst ex
   refine ⟨(kk, y) :: us, by rw [List.length_cons, List.length_cons, q1], by simp [q2], .cons ry q3, fun i p e => ?_⟩
   cases i with
   | zero => cases e; exact ⟨a, kb, rfl, gh _ _ ha, gh _ _ hkb⟩
   | succ i => exact q4 i p e
  ·cases h
theorem zj3 (hc : X.calm = true) (hu : X.A.units + 66 < cLine) : TyD J X "dict" ziO := ⟨_, zk6 hc hu, fun {G H vs ds z} gh r h Q k => by
 unfold ziO at h
 split at h
 ·split at h
  ·rename_i hz
   obtain ⟨ps, hp, rfl⟩ := oMd h
   obtain ⟨v, rfl, r1⟩ := r.one
   obtain ⟨a, ws, rfl, ha, ra⟩ := r1.lst_inv
   obtain ⟨us, q1, q2, q3, q4⟩ := ziC gh ra hp
   refine ⟨a, ws, us, rfl, gh _ _ ha, q1, by rw [← q1, ra.length]; exact hz, q4, fun p hp => ?_⟩
   have s := Step.new (o := .dK (zuK [] us)) gh hp
   obtain ⟨w1, w2⟩ := zl7 (acc := []) (acd := []) q2 q3 rfl .nil
   exact k _ _ _ s (.dk zaB w1 (w2.mono s.gg))
  ·cases h
 ·cases h⟩
theorem zj2 (hc : X.calm = true) (hu : X.A.units + 66 < cLine) : TyD J X "dict" zhs := ⟨_, zk5 hc hu, fun {G H vs ds z} gh r h Q k => by
 unfold zhs at h
 split at h
 ·split at h
  ·rename_i hz
   obtain ⟨ps, hp, rfl⟩ := oMd h
   obtain ⟨v, rfl, r1⟩ := r.one
   obtain ⟨a, ws, rfl, ha, ra⟩ := r1.lst_inv
   obtain ⟨us, q1, q2, q3, q4⟩ := ziB gh ra hp
   refine ⟨a, ws, us, rfl, gh _ _ ha, q1, by rw [← q1, ra.length]; exact hz, q4, fun p hp => ?_⟩
   have s := Step.new (o := .dT (zuK [] us)) gh hp
   obtain ⟨w1, w2⟩ := zl7 (acc := []) (acd := []) q2 q3 rfl .nil
   exact k _ _ _ s (.dt zaB w1 (w2.mono s.gg))
  ·cases h
 ·cases h⟩
end
end L2
end
section
namespace L2
open PySem PySem.Spec PyProof.Rows
section
variable {J : Cn} {X : Cx} {e : Expr} {es : List Expr} {fr : zw4} {pos p2 : Pos} {x : Str}
def zjk (fr : zw4) : zxa := fun ρ => (fr ρ).map fun ds => (.ow ds, ρ)
theorem zjE (h : DO J X e fr) : DS J X (.Return (some e) pos) (zjk fr) := ⟨(zlD h.1).imp fun E σ H => by
 rintro ⟨G₀, H₀, G, ρ, zxc, ρ', A, h, k⟩
 unfold zjk at h
 obtain ⟨ds, hd, h⟩ := oMd h
 cases h
 refine ⟨G₀, H₀, G, ρ, ds, A, hd, fun p vs G' H' s hp r => ?_⟩
 have hp0 : H₀ p = none := A.st.hh.free (s.hh.free hp)
 have hg : G' p = none := s.gh.free hp
 have s2 := s.trans (Step.newOwn (o := .lst vs) s.gh hp)
 exact k σ G' _ s.gg (A.step s2) p vs hp0 hg zaB r⟩
def zuq (J : Cn) (K : PySem.W.Frag) (n : Nat) (F : List D -> Option (List D)) : zwI := fun vs H Q _ => ∃ G ds rs, zb5 G H /\ Reps J K G vs ds /\ ds.length = n /\ F ds = some rs /\ ∀ p us G' H', Step G H G' H' -> H' p = none -> Reps J K G' us rs -> Q (.ref p) (zt0 H' p (.lst us))
def znn (n : Nat) (g : zxa) : List D -> Option (List D) := fun ds => (g (ds.map (fun d => some (Slot.sh d)) ++ List.replicate n none)).bind fun r => match r.1 with
 | .ow ds => some ds
 | _ => none
theorem Fun.okO {P : Program} {w : World} {K : PySem.W.Frag} {mg : Str -> Option Value} {base : Heap} {x qual : Str} {st : Stmt} {f : Addr} {fd : FuncData} {N ps : List Str} {k : Nat} {g : zxa} (F : Fun K x qual st f fd) (S : FnScope N ps (zag st))
  (hbody : ∀ (cdv : Value) (A : Around) (outer : List Env) (s : Shared) (H : zxg) (E : zwV), Room k (A.deeper (envOfC qual (zag st) s.heap.objs.size f cdv)) ->
   DSs J (zih zvX P w K mg base N qual (zag st) f cdv A outer s H E).nox (zaX st) g) : FnOk P w K mg base zvX (k + 1) f fd ps (zuq J K ps.length (znn (N.length - ps.length) g)) := by
 refine F.ok S (fun vs H Q E h => ?_) (fun cdv A outer s H vs Q E hr h => ?_)
 ·obtain ⟨G, ds, d, _, r, hl, _⟩ := h
  rw [r.length, hl]
 ·obtain ⟨G, ds, rs, gh, r, hl, hd, k⟩ := h
  refine ⟨_, (hbody cdv A outer s H E hr).1, ?_⟩
  unfold znn at hd
  obtain ⟨⟨zxc, ρ'⟩, hg, hd⟩ := oBd hd
  refine ⟨G, H, G, _, zxc, ρ', zf4 gh r (by rw [r.length, hl]), hg, fun σ' G' H' sm A' => ?_⟩
  cases zxc with
  | rt d' => cases hd
  | nx => cases hd
  | bk => cases hd
  | ct => cases hd
  | nw d' => cases hd
  | od d' => cases hd
  | ow d' =>
   cases hd
   intro p us hp0 hg hp rr
   have st : Step G H G' (fun b => if b = p then none else H' b) := by
    refine ⟨fun b o e => ?_, A'.st.gg, fun b o e => ?_, A'.st.out⟩
    ·show (if b = p then none else H' b) = some o
     rw [if_neg (zaq e hp0)]; exact A'.st.hh b o e
    ·show (if b = p then none else H' b) = some o
     rw [if_neg (zaq e hg)]; exact A'.st.gh b o e
   have := k p us G' _ st (if_pos rfl) rr
   have hf : zt0 (fun b => if b = p then none else H' b) p (.lst us) = H' := by
    funext b
    by_cases hb : b = p
    ·subst hb; rw [zaB, hp]
    ·rw [zaz hb]; exact if_neg hb
   rwa [hf] at this
end
structure CalO (J : Cn) (P : Program) (w : World) (K : PySem.W.Frag) (mg : Str -> Option Value) (base : Heap) (x : Str) (n k : Nat) (F : List D -> Option (List D)) : Prop where
 ex : ∃ f fd ps, FnOk P w K mg base zvX k f fd ps (zuq J K n F) /\ mg x = some (.ref f) /\ PySem.W.keepIn K (.ref f) = true /\ zd4 K fd ps []
def zvf (F : List D -> Option (List D)) (fr : zw4) : zw4 := fun ρ => (fr ρ).bind F
section
variable {J : Cn} {X : Cx} {e : Expr} {es : List Expr} {fr : zw4} {pos p : Pos}
theorem zoL {x : Str} {n k : Nat} {F : List D -> Option (List D)} (C : CalO J X.prog X.w X.K X.mg X.base x n k F) {j : Nat} (hr : Room j X.A) (hk : k <= j) (hg : zwU X x) (ha : DA J X (e :: es) fr) (hn : ∀ ρ ds, fr ρ = some ds -> ds.length = n)
  (hdb : (x == ("__debug__" : Str)) = false := by decide) (he : starEach (e :: es) X.env = (false, eval e X.env) :: starEach es X.env := by rfl) (hpl : (backTo pos (starEach es X.env)).any (·.1) = false := by rfl) :
  DO J X (.Call (.Name x p) (e :: es) [] pos) (zvf F fr) := ⟨by
 obtain ⟨f, fd, ps, h1, h2, h3, h4⟩ := C.ex
 refine (zjq h1 (hr.mono hk) hg h2 h3 h4 .nil zjr ha.1 hdb he hpl).imp fun σ H Q => ?_
 rintro ⟨G₀, H₀, G, ρ, d, A, h, k⟩
 unfold zvf at h
 obtain ⟨ds, hd, h⟩ := oBd h
 refine ⟨G₀, H₀, G, ρ, ds, A, hd, fun vs G1 H1 s1 r1 => ?_⟩
 show zuq J X.K n F (vs ++ []) H1 Q zwm
 rw [List.append_nil]
 exact ⟨G1, ds, d, s1.gh, r1, hn ρ ds hd, h, fun p us G' H' s hp r => k p us G' H' (s1.trans s) hp r⟩⟩
theorem Dfn.calO {P : Program} {w : World} {K : PySem.W.Frag} {mg : Str -> Option Value} {base : Heap} {x : Str} {st : Stmt} {N ps : List Str} {k : Nat} {g : zxa} (F : Dfn K mg x st) (S : FnScope N ps (zag st))
  (hb : ∀ (zw7 doc pm : Value) (an : Option Addr) (cdv ct : Value) (us : List Value), us.length = ps.length -> bindArgs (PySem.W.fnOf x x (zbN st) (zaX st) (zag st) .none zw7 doc pm an cdv ct) ⟨us, []⟩ = pure (ps.zip us))
  (hbody : ∀ (f : Addr) (cdv : Value) (A : Around) (outer : List Env) (s : Shared) (H : zxg) (E : zwV), Room k (A.deeper (envOfC x (zag st) s.heap.objs.size f cdv)) ->
   DSs J (zih zvX P w K mg base N x (zag st) f cdv A outer s H E).nox (zaX st) g) : CalO J P w K mg base x ps.length (k + 1) (znn (N.length - ps.length) g) := by
 obtain ⟨f, fd, h1, h2⟩ := F.ex
 exact ⟨f, fd, ps, h1.okO S (hbody f), h2, h1.kp, h1.binds hb⟩
theorem Dfn.none {P : Program} {w : World} {K : PySem.W.Frag} {mg : Str -> Option Value} {base : Heap} {x : Str} {st : Stmt} {ps : List Str} {k : Nat} (F : Dfn K mg x st)
  (hb : ∀ (zw7 doc pm : Value) (an : Option Addr) (cdv ct : Value) (us : List Value), us.length = ps.length -> bindArgs (PySem.W.fnOf x x (zbN st) (zaX st) (zag st) .none zw7 doc pm an cdv ct) ⟨us, []⟩ = pure (ps.zip us))
  : Cal J P w K mg base x ps.length k (fun _ => Option.none) := by
 obtain ⟨f, fd, h1, h2⟩ := F.ex
 refine ⟨f, fd, ps, ⟨fun vs H Q E h => ?_, fun A outer s H args us vs Q E hr I b v h => ?_⟩, h2, h1.kp, h1.binds hb⟩
 ·obtain ⟨_, _, _, _, _, _, z, _⟩ := h
  cases z
 ·obtain ⟨_, _, _, _, _, _, z, _⟩ := h
  cases z
end
end L2
end
section
namespace L2
open PySem PySem.Spec PyProof.Rows
def zuG (g g' : D -> D -> Option D) (x y : D) : Option D := match g x y with
 | some z => some z
 | none => g' x y
section
variable {J : Cn} {X : Cx} {a b c e : Expr} {fa fb : zxe} {op : CmpOp} {g g' : D -> D -> Option D}
theorem zrv {x y z : D} (h : zuG g g' x y = some z) : g x y = some z \/ g' x y = some z := by
 unfold zuG at h
 split at h
 ·rename_i q; cases h; exact .inl q
 ·exact .inr h
theorem CmpD.or (h : CmpD J X op g) (h' : CmpD J X op g') : CmpD J X op (zuG g g') := by
 obtain ⟨r, o, d⟩ := h.ex
 obtain ⟨r', o', d'⟩ := h'.ex
 refine ⟨_, o.or o', fun {G H v u x y z} gh r1 r2 q Q k => ?_⟩
 rcases zrv q with q | q
 ·exact .inl (d gh r1 r2 q Q k)
 ·exact .inr (d' gh r1 r2 q Q k)
def zuJ := zuG zuI zpV
theorem zeQ (hu : X.A.units + 64 < cLine) : CmpD J X .NotEq zuJ := zs1.or (zr9 hu)
theorem DfnM.mk' {K : PySem.W.Frag} {C f : Addr} {c m qual : Str} {st : Stmt} {oc : Value} {od an : Option Addr} {osl : Array (Option Value)} {zw7 doc pm cdv ct : Value} (a : PySem.W.findIn K (.ref C) m = some (some (.ref f))) (i : PySem.W.isFn K (.ref f) = true)
  (l : K.lookup f = some ⟨oc, od, .func (PySem.W.fnOf m qual (zbN st) (zaX st) (zag st) .none zw7 doc pm an cdv ct), osl⟩) (cd : PySem.W.codeIn K cdv qual = true) (k : PySem.W.keepIn K (.ref f) = true) : DfnM K C c m qual st := ⟨f, _, zmm l cd k, a, i⟩
end
section
variable {ρ : zaV} {f1 f2 f3 f4 f5 f6 f7 : zxe}
theorem zuT : ∀ ρ ds, zab f1 zak ρ = some ds -> ds.length = 1 := zcX fun _ _ h => zoe h
theorem zuS : ∀ ρ ds, zab f1 (zab f2 zak) ρ = some ds -> ds.length = 2 := zcX zuT
theorem zuR : ∀ ρ ds, zab f1 (zab f2 (zab f3 zak)) ρ = some ds -> ds.length = 3 := zcX zuS
theorem zuQ : ∀ ρ ds, zab f1 (zab f2 (zab f3 (zab f4 zak))) ρ = some ds -> ds.length = 4 := zcX zuR
theorem zuP : ∀ ρ ds, zab f1 (zab f2 (zab f3 (zab f4 (zab f5 zak)))) ρ = some ds -> ds.length = 5 := zcX zuQ
theorem zuO : ∀ ρ ds, zab f1 (zab f2 (zab f3 (zab f4 (zab f5 (zab f6 zak))))) ρ = some ds -> ds.length = 6 := zcX zuP
theorem zuN : ∀ ρ ds, zab f1 (zab f2 (zab f3 (zab f4 (zab f5 (zab f6 (zab f7 zak)))))) ρ = some ds -> ds.length = 7 := zcX zuO
end
end L2
end
section
namespace L2
open PySem PySem.Spec PyProof.Rows
section
variable {J : Cn} {K : PySem.W.Frag} {G₀ H₀ G H : zxg} {ρ : zaV} {σ : zxd}
end
section
variable {J : Cn} {X : Cx} {a b c e value : Expr} {es : List Expr} {f fk fv : zxe} {fr : zw4} {pos pos' p dp : Pos} {g : zxa} {x : Str} {sts : List Stmt}
end
end L2
end
section
namespace L2
open PySem PySem.Spec PyProof.Rows
def zvt (J : Cn) (K : PySem.W.Frag) (f : zxe) : zw8 := fun σ H Q => ∃ G₀ H₀ G ρ d, At J K G₀ H₀ G H ρ σ /\ f ρ = some d /\ ∀ v G' H', Step G H G' H' -> Rep J K G' v d -> NewL H G' v d -> Q v H'
structure DN (J : Cn) (X : Cx) (e : Expr) (f : zxe) : Prop where
 out : zxb X e (zvt J X.K f)
section
variable {J : Cn} {X : Cx} {a b c e tg iter : Expr} {es : List Expr} {fa fb fc f fe : zxe} {fr fi : zw4} {pos p p2 pos' : Pos} {ft : zw1} {g : zwL} {x : Str}
def zu8 (f : zxe) : zxe := fun ρ => (f ρ).bind fun d => if zd0 d = true then some d else none
theorem DE.dn (h : DE J X e f) : DN J X e (zu8 f) := ⟨h.1.imp fun σ H Q => by
 rintro ⟨G₀, H₀, G, ρ, d, A, hq, k⟩
 unfold zu8 at hq
 obtain ⟨d', hd, hq⟩ := oBd hq
 split at hq
 ·rename_i hf
  cases hq
  exact ⟨G₀, H₀, G, ρ, d, A, hd, fun v G' H' s r => k v G' H' s r (.flat hf)⟩
 ·cases hq⟩
variable {scope : Scope} {N' : List Str} {fv : List (Option Nat)} {ifs : List Expr} {elt : Expr}
structure DBn (J : Cn) (X : Cx) (N' : List Str) (scope : Scope) (tg : Expr) (ifs : List Expr) (elt : Expr) (g : zwL) (ft : zw1) (fe : zxe) : Prop where
 out : ∀ (cl : List (Str × Addr)) (C : Addr) (s₀ : Shared) (H₀ : zxg) (fp : List Addr), DG J (zc0 X N' scope cl C s₀ H₀ fp) tg g /\ DTs J (zc0 X N' scope cl C s₀ H₀ fp) ifs ft /\ DN J (zc0 X N' scope cl C s₀ H₀ fp) elt fe
theorem DBn.pb (h : DBn J X N' scope tg ifs elt g ft fe) : zwe X N' scope tg ifs elt (zvv J X.K g) (zvp J X.K ft) (zvt J X.K fe) := fun cl C s₀ H₀ fp => ⟨(h.1 cl C s₀ H₀ fp).1.pg, (h.1 cl C s₀ H₀ fp).2.1.1, (h.1 cl C s₀ H₀ fp).2.2.1⟩
theorem zn6 (no : ∀ d ρ ρ', g d ρ = some ρ' -> zd3 ρ -> zd3 ρ') : ∀ σ H Q, zvt J X.K (za6 (zaP fi g ft fe fv)) σ H Q -> zud (zvu J X.K fi) (zvv J X.K g) (zvp J X.K ft) (zvt J X.K fe) fv σ H Q := by
 rintro σ H Q ⟨G₀, H₀, G, ρ, dl, A, hl, k⟩
 unfold za6 at hl
 obtain ⟨ds, h, rfl⟩ := oMd hl
 unfold zaP at h
 obtain ⟨xs, hx, h⟩ := oBd h
 split at h
 case isFalse => cases h
 rename_i hz
 refine ⟨G₀, H₀, G, ρ, xs, A, hx, fun zxi G1 H1 s1 Y acc hacc => ?_⟩
 have gacc : G1 acc = none := s1.gh.free hacc
 obtain ⟨A0, no0⟩ := zoD (fv := fv) (A.step s1)
 refine ⟨fun i m ys σ' H' => m = xs.length - i /\ i <= xs.length /\ ys.length <= i /\ ∃ G' ρ' done zcM, At J X.K G1 H1 G' H' ρ' σ' /\ zd3 ρ' /\ H' acc = some (.lst ys) /\ G' acc = none /\ Reps J X.K G' ys done /\ NewLs H1 G' ys done /\ zfP g ft fe (xs.drop i) ρ' = some zcM /\ done ++ zcM = ds, ?_, ?_⟩
 ·refine ⟨xs.length, rfl, Nat.zero_le _, Nat.le_refl _, G1, zev fv ρ, [], ds, ?_, no0, zaB, gacc, .nil, .nil, by rw [List.drop_zero]; exact h, rfl⟩
  have sn := Step.newOwn (o := .lst []) s1.gh hacc
  exact ⟨sn, .ofSh A0.env.len no0 A0.env.sh⟩
 ·rintro i m ys σ' H' ⟨hm, hi, hyi, G', ρ', done, zcM, A', no', hacc', gacc', ry, nw, hr, hd⟩
  subst hm
  refine ⟨hacc', ?_⟩
  by_cases hlt : i < xs.length
  ·right
   have hxi : xs[i]? = some xs[i] := by simp [hlt]
   obtain ⟨go, yl⟩ := Y.go i _ G' H' hxi A'.st.gg A'.gh
   refine ⟨go, fun x H2 hy => ?_⟩
   obtain ⟨G2, s2, r2⟩ := yl x H2 hy
   have A2 := A'.step s2
   have hdr : xs.drop i = xs[i] :: xs.drop (i + 1) := List.drop_eq_getElem_cons hlt
   rw [hdr] at hr
   unfold zfP at hr
   obtain ⟨ρ1, h1, hr⟩ := oBd hr
   obtain ⟨b, h2, hr⟩ := oBd hr
   refine ⟨G1, H1, G2, ρ', _, ρ1, A2, r2, h1, fun σ2 A3 => ⟨G1, H1, G2, ρ1, b, A3, h2, fun G4 H4 s4 => ?_⟩⟩
   have no1 := no _ _ _ h1 no'
   have hH4 : H4 acc = some (.lst ys) := s4.hh _ _ (s2.hh _ _ hacc')
   have hG4 : G4 acc = none := (s4.out _ _ (s2.hh _ _ hacc')).trans ((s2.out _ _ hacc').trans gacc')
   have nw4 : NewLs H1 G4 ys done := nw.mono (s2.gg.trans s4.gg) (.refl _)
   cases b with
   | false =>
    rw [if_neg Bool.false_ne_true] at hr
    refine zqd ⟨xs.length - (i + 1), by omega, rfl, hlt, by omega, G4, ρ1, done, zcM, A3.step s4, no1, hH4, hG4, (ry.mono s2.gg).mono s4.gg, nw4, hr, hd⟩
   | true =>
    rw [if_pos rfl] at hr
    obtain ⟨d, h3, hr⟩ := oBd hr
    obtain ⟨zs, h5, rfl⟩ := oMd hr
    refine zqc ⟨G1, H1, G4, ρ1, d, A3.step s4, h3, fun v G5 H5 s5 r5 n5 => ?_⟩
    have A5 := (A3.step s4).step s5
    have hH5 : H5 acc = some (.lst ys) := s5.hh _ _ hH4
    have hG5 : G5 acc = none := (s5.out _ _ hH4).trans hG4
    have n5' : NewL H1 G5 v d := n5.mono (.refl _) (A3.step s4).st.hh
    refine ⟨hH5, by omega, xs.length - (i + 1), by omega, rfl, hlt, by rw [List.length_append, List.length_singleton]; omega, G5, ρ1, done ++ [d], zs, ?_, no1, zaB, hG5, ((((ry.mono s2.gg).mono s4.gg).mono s5.gg).append (.cons r5 .nil)), (nw4.mono s5.gg (.refl _)).append (.cons n5' .nil), h5, by rw [List.append_assoc]; exact hd⟩
    refine ⟨⟨fun b o e => ?_, A5.st.gg, fun b o e => ?_, A5.st.out⟩, .ofSh A5.env.len no1 A5.env.sh⟩
    ·rw [zaz (zaq e hacc)]; exact A5.st.hh b o e
    ·rw [zaz (zaq e hG5)]; exact A5.st.gh b o e
  ·left
   have e : i = xs.length := by omega
   subst e
   rw [List.drop_length] at hr
   cases hr
   rw [List.append_nil] at hd
   subst hd
   refine ⟨Y.stop G' H' A'.st.gg A'.gh, ?_⟩
   have hf : H' = zt0 (fun b => if b = acc then none else H' b) acc (.lst ys) := by
    funext b
    by_cases hb : b = acc
    ·subst hb; rw [zaB]; exact hacc'
    ·rw [zaz hb, if_neg hb]
   have s3 : Step G1 H1 G' (fun b => if b = acc then none else H' b) := by
    refine ⟨fun b o e => ?_, A'.st.gg, fun b o e => ?_, A'.st.out⟩
    ·show (if b = acc then none else H' b) = some o
     rw [if_neg (zaq e hacc)]; exact A'.st.hh b o e
    ·show (if b = acc then none else H' b) = some o
     rw [if_neg (zaq e gacc')]; exact A'.st.gh b o e
   have s4 := Step.new (p := acc) (o := .lst ys) s3.gh (if_pos rfl)
   rw [hf]
   exact k (.ref acc) _ _ ((s1.trans s3).trans s4) (.lst zaB (ry.mono s4.gg)) (.lst zaB (s1.hh.free hacc) (nw.mono s4.gg s1.hh))
theorem zr0 (hc : X.calm = true) (S : CompScope X scope) (F : FvOk X N' scope fv) (hi : DI J X tg iter fi) (hb : DBn J X N' scope tg ifs elt g ft fe) (hs : ∀ x, foldedSetIterable iter X.env x = pure x := by intro _; rfl) :
  DN J X (.ListComp elt [⟨tg, iter, ifs, 0⟩] scope pos) (za6 (zaP fi g ft fe fv)) := ⟨(zrp hc S F hi.1 hb.pb hs).imp (zn6 (hb.1 [] 0 X.s₀ X.H₀ []).1.no)⟩
def zqR (f : zxe) : zxe := fun ρ => (f ρ).bind fun d => match d with
 | .lst l => some (.tup l)
 | _ => none
theorem zn1 (hg : zwU X "tuple") (hm : X.mg "tuple" = none) (h : DN J X e f) (he : starEach [e] X.env = (false, eval e X.env) :: starEach [] X.env := by rfl) (hpl : (backTo pos (starEach [] X.env)).any (·.1) = false := by rfl) :
  DN J X (.Call (.Name "tuple" p) [e] [] pos) (zqR f) := ⟨(zgf zeR hg hm (by rfl) (zdK h.1 zfx he) (by decide) (by decide) he hpl).imp fun σ H Q => by
 rintro ⟨G₀, H₀, G, ρ, dd, A, hq, k⟩
 unfold zqR at hq
 obtain ⟨d, hd, hi⟩ := oBd hq
 clear hq
 refine ⟨G₀, H₀, G, ρ, d, A, hd, fun v G1 H1 s1 r1 n1 => ?_⟩
 split at hi
 ·cases hi
  obtain ⟨a, us, rfl, ha, ra⟩ := r1.lst_inv
  cases n1 with
  | flat hf => cases hf
  | lst h1 h2 h3 =>
   rw [ha] at h1
   cases h1
   refine ⟨a, us, rfl, .inl ⟨.inl (.inl (s1.gh _ _ ha)), fun p hp => ?_⟩⟩
   have s2 := Step.new (o := .tup us) s1.gh hp
   exact k _ _ _ (s1.trans s2) (.tup zaB (ra.mono s2.gg)) (.tup zaB (h3.mono s2.gg (.refl _)))
 ·cases hi⟩
def ziy (f : zxe) : zxa := fun ρ => (f ρ).map fun d => (.nw d, ρ)
theorem zhV (h : DN J X e f) : DS J X (.Return (some e) pos) (ziy f) := ⟨(zlD h.1).imp fun E σ H => by
 rintro ⟨G₀, H₀, G, ρ, zxc, ρ', A, h, k⟩
 unfold ziy at h
 obtain ⟨d, hd, h⟩ := oMd h
 cases h
 exact ⟨G₀, H₀, G, ρ, d, A, hd, fun v G' H' s r n => k σ G' H' s.gg (A.step s) v r (n.mono (.refl _) A.st.hh)⟩⟩
end
def zur (J : Cn) (K : PySem.W.Frag) (n : Nat) (F : List D -> Option D) : zwI := fun vs H Q _ => ∃ G ds d, zb5 G H /\ Reps J K G vs ds /\ ds.length = n /\ F ds = some d /\ ∀ v G' H', Step G H G' H' -> Rep J K G' v d -> NewL H G' v d -> Q v H'
def runN (n : Nat) (g : zxa) : List D -> Option D := fun ds => (g (ds.map (fun d => some (Slot.sh d)) ++ List.replicate n none)).bind fun r => match r.1 with
 | .nw d => some d
 | _ => none
section
variable {J : Cn} {P : Program} {w : World} {K : PySem.W.Frag} {mg : Str -> Option Value} {base : Heap}
theorem Fun.okN {x qual : Str} {st : Stmt} {f : Addr} {fd : FuncData} {N ps : List Str} {k : Nat} {g : zxa} (F : Fun K x qual st f fd) (S : FnScope N ps (zag st))
  (hbody : ∀ (cdv : Value) (A : Around) (outer : List Env) (s : Shared) (H : zxg) (E : zwV), Room k (A.deeper (envOfC qual (zag st) s.heap.objs.size f cdv)) ->
   DSs J (zih zvX P w K mg base N qual (zag st) f cdv A outer s H E).nox (zaX st) g) : FnOk P w K mg base zvX (k + 1) f fd ps (zur J K ps.length (runN (N.length - ps.length) g)) := by
 refine F.ok S (fun vs H Q E h => ?_) (fun cdv A outer s H vs Q E hr h => ?_)
 ·obtain ⟨G, ds, d, _, r, hl, _⟩ := h
  rw [r.length, hl]
 ·obtain ⟨G, ds, d, gh, r, hl, hd, k⟩ := h
  refine ⟨_, (hbody cdv A outer s H E hr).1, ?_⟩
  unfold runN at hd
  obtain ⟨⟨zxc, ρ'⟩, hg, hd⟩ := oBd hd
  refine ⟨G, H, G, _, zxc, ρ', zf4 gh r (by rw [r.length, hl]), hg, fun σ' G' H' sm A' => ?_⟩
  cases zxc with
  | nw d' => cases hd; exact fun v rv nv => k v G' H' A'.st rv nv
  | od d' => cases hd
  | rt d' => cases hd
  | nx => cases hd
  | bk => cases hd
  | ct => cases hd
  | ow d' => cases hd
structure CalN (J : Cn) (P : Program) (w : World) (K : PySem.W.Frag) (mg : Str -> Option Value) (base : Heap) (x : Str) (n k : Nat) (F : List D -> Option D) : Prop where
 ex : ∃ f fd ps, FnOk P w K mg base zvX k f fd ps (zur J K n F) /\ mg x = some (.ref f) /\ PySem.W.keepIn K (.ref f) = true /\ zd4 K fd ps []
structure CalMN (J : Cn) (P : Program) (w : World) (K : PySem.W.Frag) (mg : Str -> Option Value) (base : Heap) (c m : Str) (n k : Nat) (F : List D -> Option D) : Prop where
 ex : ∃ C f fd ps, J.cls c = some C /\ Cls K C /\ Meth K C m f /\ FnOk P w K mg base zvX k f fd ps (zur J K n F) /\ zd4 K fd ps []
structure CalMO (J : Cn) (P : Program) (w : World) (K : PySem.W.Frag) (mg : Str -> Option Value) (base : Heap) (c m : Str) (n k : Nat) (F : List D -> Option (List D)) : Prop where
 ex : ∃ C f fd ps, J.cls c = some C /\ Cls K C /\ Meth K C m f /\ FnOk P w K mg base zvX k f fd ps (zuq J K n F) /\ zd4 K fd ps []
theorem Dfn.calN {x : Str} {st : Stmt} {N ps : List Str} {k : Nat} {g : zxa} (F : Dfn K mg x st) (S : FnScope N ps (zag st))
  (hb : ∀ (zw7 doc pm : Value) (an : Option Addr) (cdv ct : Value) (us : List Value), us.length = ps.length -> bindArgs (PySem.W.fnOf x x (zbN st) (zaX st) (zag st) .none zw7 doc pm an cdv ct) ⟨us, []⟩ = pure (ps.zip us))
  (hbody : ∀ (f : Addr) (cdv : Value) (A : Around) (outer : List Env) (s : Shared) (H : zxg) (E : zwV), Room k (A.deeper (envOfC x (zag st) s.heap.objs.size f cdv)) ->
   DSs J (zih zvX P w K mg base N x (zag st) f cdv A outer s H E).nox (zaX st) g) : CalN J P w K mg base x ps.length (k + 1) (runN (N.length - ps.length) g) := by
 obtain ⟨f, fd, h1, h2⟩ := F.ex
 exact ⟨f, fd, ps, h1.okN S (hbody f), h2, h1.kp, h1.binds hb⟩
theorem Dfn.noneN {x : Str} {st : Stmt} {ps : List Str} {k : Nat} (F : Dfn K mg x st)
  (hb : ∀ (zw7 doc pm : Value) (an : Option Addr) (cdv ct : Value) (us : List Value), us.length = ps.length -> bindArgs (PySem.W.fnOf x x (zbN st) (zaX st) (zag st) .none zw7 doc pm an cdv ct) ⟨us, []⟩ = pure (ps.zip us))
  : CalN J P w K mg base x ps.length k (fun _ => Option.none) := by
 obtain ⟨f, fd, h1, h2⟩ := F.ex
 refine ⟨f, fd, ps, ⟨fun vs H Q E h => ?_, fun A outer s H args us vs Q E hr I b v h => ?_⟩, h2, h1.kp, h1.binds hb⟩
 ·obtain ⟨_, _, _, _, _, _, z, _⟩ := h
  cases z
 ·obtain ⟨_, _, _, _, _, _, z, _⟩ := h
  cases z
theorem DfnM.calN {c m qual : Str} {C : Addr} {st : Stmt} {N ps : List Str} {k : Nat} {g : zxa} (O : ClsOk J K mg c C) (F : DfnM K C c m qual st) (S : FnScope N ps (zag st))
  (hb : ∀ (zw7 doc pm : Value) (an : Option Addr) (cdv ct : Value) (us : List Value), us.length = ps.length -> bindArgs (PySem.W.fnOf m qual (zbN st) (zaX st) (zag st) .none zw7 doc pm an cdv ct) ⟨us, []⟩ = pure (ps.zip us))
  (hbody : ∀ (f : Addr) (cdv : Value) (A : Around) (outer : List Env) (s : Shared) (H : zxg) (E : zwV), Room k (A.deeper (envOfC qual (zag st) s.heap.objs.size f cdv)) ->
   DSs J (zih zvX P w K mg base N qual (zag st) f cdv A outer s H E).nox (zaX st) g) : CalMN J P w K mg base c m ps.length (k + 1) (runN (N.length - ps.length) g) := by
 obtain ⟨f, fd, h1, h2, h3⟩ := F.ex
 exact ⟨C, f, fd, ps, O.cn, O.cl, ⟨h2, h3, h1.kp⟩, h1.okN S (hbody f), h1.binds hb⟩
theorem DfnM.calO {c m qual : Str} {C : Addr} {st : Stmt} {N ps : List Str} {k : Nat} {g : zxa} (O : ClsOk J K mg c C) (F : DfnM K C c m qual st) (S : FnScope N ps (zag st))
  (hb : ∀ (zw7 doc pm : Value) (an : Option Addr) (cdv ct : Value) (us : List Value), us.length = ps.length -> bindArgs (PySem.W.fnOf m qual (zbN st) (zaX st) (zag st) .none zw7 doc pm an cdv ct) ⟨us, []⟩ = pure (ps.zip us))
  (hbody : ∀ (f : Addr) (cdv : Value) (A : Around) (outer : List Env) (s : Shared) (H : zxg) (E : zwV), Room k (A.deeper (envOfC qual (zag st) s.heap.objs.size f cdv)) ->
   DSs J (zih zvX P w K mg base N qual (zag st) f cdv A outer s H E).nox (zaX st) g) : CalMO J P w K mg base c m ps.length (k + 1) (znn (N.length - ps.length) g) := by
 obtain ⟨f, fd, h1, h2, h3⟩ := F.ex
 exact ⟨C, f, fd, ps, O.cn, O.cl, ⟨h2, h3, h1.kp⟩, h1.okO S (hbody f), h1.binds hb⟩
end
section
variable {J : Cn} {X : Cx} {e o : Expr} {es : List Expr} {fo f : zxe} {fr : zw4} {pos p apos pos' : Pos} {c m x : Str}
theorem zmy {n k : Nat} {F : List D -> Option D} (C : CalN J X.prog X.w X.K X.mg X.base x n k F) {j : Nat} (hr : Room j X.A) (hk : k <= j) (hg : zwU X x) (ha : DA J X (e :: es) fr) (hn : ∀ ρ ds, fr ρ = some ds -> ds.length = n)
  (hdb : (x == ("__debug__" : Str)) = false := by decide) (he : starEach (e :: es) X.env = (false, eval e X.env) :: starEach es X.env := by rfl) (hpl : (backTo pos (starEach es X.env)).any (·.1) = false := by rfl) :
  DN J X (.Call (.Name x p) (e :: es) [] pos) (zxh F fr) := ⟨by
 obtain ⟨f, fd, ps, h1, h2, h3, h4⟩ := C.ex
 refine (zjq h1 (hr.mono hk) hg h2 h3 h4 .nil zjr ha.1 hdb he hpl).imp fun σ H Q => ?_
 rintro ⟨G₀, H₀, G, ρ, d, A, h, k⟩
 unfold zxh at h
 obtain ⟨ds, hd, h⟩ := oBd h
 refine ⟨G₀, H₀, G, ρ, ds, A, hd, fun vs G1 H1 s1 r1 => ?_⟩
 show zur J X.K n F (vs ++ []) H1 Q zwm
 rw [List.append_nil]
 exact ⟨G1, ds, d, s1.gh, r1, hn ρ ds hd, h, fun v G' H' s r nv => k v G' H' (s1.trans s) r (nv.mono (.refl _) s1.hh)⟩⟩
theorem zqr {n k j : Nat} {F : List D -> Option D} {pl : Sem Bool} (C : CalMN J X.prog X.w X.K X.mg X.base c m (n + 1) k F) (hr : Room j X.A) (hk : k <= j) (ho : DE J X o fo) (ha : DA J X (e :: es) fr) (hn : ∀ ρ ds, fr ρ = some ds -> ds.length = n)
  (hst : starEach (e :: es) X.env = (false, eval e X.env) :: starEach es X.env := by rfl) (hpl : (backTo pos (starEach es X.env)).any (·.1) = false := by rfl)
  (ht : eval (.Call (.Attribute o m apos) (e :: es) [] pos) X.env = (do
   let ov ← eval o X.env
   standAt apos.atName
   let (f, first) ← holding [ov] (getMethod ov m pl)
   callWith pos f first (backTo pos (starEach (e :: es) X.env)) (backToKw pos (keywordEach [] X.env))) := by rfl) :
  DN J X (.Call (.Attribute o m apos) (e :: es) [] pos) (zdz c m F fo fr) := ⟨by
 obtain ⟨Ca, f, fd, ps, h0, h1, h2, h3, h4⟩ := C.ex
 refine (zjp ho.1 h1 h2 h3 (hr.mono hk) h4 .nil zjr ha.1 hst hpl ht).imp fun σ H Q => ?_
 rintro ⟨G₀, H₀, G, ρ, d, A, h, k⟩
 unfold zdz at h
 obtain ⟨x, hx, hq⟩ := oBd h
 clear h
 refine ⟨G₀, H₀, G, ρ, x, A, hx, fun v G1 H1 s1 r1 => ?_⟩
 split at hq
 ·rename_i c' fs
  split at hq
  ·rename_i hz
   obtain ⟨rfl, hz2⟩ := hz
   obtain ⟨ds, hds, hF⟩ := oBd hq
   have r1' := r1
   cases r1 with
   | ins g1 g2 g3 g4 =>
    rw [h0] at g2
    cases g2
    rename_i _ _ us0
    have hl : List.lookup m us0 = none := by
     rcases zb8 (k := m) g3 g4 with ⟨_, z2⟩ | ⟨d', v', z1, _, _⟩
     ·exact z2
     ·rw [z1] at hz2; cases hz2
    refine ⟨_, _, _, rfl, s1.gh _ _ g1, hl, G₀, H₀, G1, ρ, ds, A.step s1, hds, fun vs G2 H2 s2 r2 => ?_⟩
    show zur J X.K (n + 1) F (_ :: (vs ++ [])) H2 Q zwm
    rw [List.append_nil]
    exact ⟨G2, _, d, s2.gh, .cons (r1'.mono s2.gg) r2, by rw [List.length_cons, hn ρ ds hds], hF, fun v G' H' s r nv => k v G' H' ((s1.trans s2).trans s) r (nv.mono (.refl _) (s1.trans s2).hh)⟩
  ·cases hq
 ·cases hq⟩
def zfO (c m : Str) (F : List D -> Option (List D)) (fo : zxe) (fr : zw4) : zw4 := fun ρ => (fo ρ).bind fun d => match d with
 | .ins c' fs => if c' = c /\ fs.lookup m = none then (fr ρ).bind fun ds => F (d :: ds) else none
 | _ => none
theorem zmx {n k j : Nat} {F : List D -> Option (List D)} {pl : Sem Bool} (C : CalMO J X.prog X.w X.K X.mg X.base c m (n + 1) k F) (hr : Room j X.A) (hk : k <= j) (ho : DE J X o fo) (ha : DA J X (e :: es) fr) (hn : ∀ ρ ds, fr ρ = some ds -> ds.length = n)
  (hst : starEach (e :: es) X.env = (false, eval e X.env) :: starEach es X.env := by rfl) (hpl : (backTo pos (starEach es X.env)).any (·.1) = false := by rfl)
  (ht : eval (.Call (.Attribute o m apos) (e :: es) [] pos) X.env = (do
   let ov ← eval o X.env
   standAt apos.atName
   let (f, first) ← holding [ov] (getMethod ov m pl)
   callWith pos f first (backTo pos (starEach (e :: es) X.env)) (backToKw pos (keywordEach [] X.env))) := by rfl) :
  DO J X (.Call (.Attribute o m apos) (e :: es) [] pos) (zfO c m F fo fr) := ⟨by
 obtain ⟨Ca, f, fd, ps, h0, h1, h2, h3, h4⟩ := C.ex
 refine (zjp ho.1 h1 h2 h3 (hr.mono hk) h4 .nil zjr ha.1 hst hpl ht).imp fun σ H Q => ?_
 rintro ⟨G₀, H₀, G, ρ, rs, A, h, k⟩
 unfold zfO at h
 obtain ⟨x, hx, hq⟩ := oBd h
 clear h
 refine ⟨G₀, H₀, G, ρ, x, A, hx, fun v G1 H1 s1 r1 => ?_⟩
 split at hq
 ·rename_i c' fs
  split at hq
  ·rename_i hz
   obtain ⟨rfl, hz2⟩ := hz
   obtain ⟨ds, hds, hF⟩ := oBd hq
   have r1' := r1
   cases r1 with
   | ins g1 g2 g3 g4 =>
    rw [h0] at g2
    cases g2
    rename_i _ _ us0
    have hl : List.lookup m us0 = none := by
     rcases zb8 (k := m) g3 g4 with ⟨_, z2⟩ | ⟨d', v', z1, _, _⟩
     ·exact z2
     ·rw [z1] at hz2; cases hz2
    refine ⟨_, _, _, rfl, s1.gh _ _ g1, hl, G₀, H₀, G1, ρ, ds, A.step s1, hds, fun vs G2 H2 s2 r2 => ?_⟩
    show zuq J X.K (n + 1) F (_ :: (vs ++ [])) H2 Q zwm
    rw [List.append_nil]
    exact ⟨G2, _, rs, s2.gh, .cons (r1'.mono s2.gg) r2, by rw [List.length_cons, hn ρ ds hds], hF, fun p us G' H' s hp r => k p us G' H' ((s1.trans s2).trans s) hp r⟩
  ·cases hq
 ·cases hq⟩
def zkX (l : List D) : Option (List D × List D) := match l.getLast? with
 | some (.lst es) => if (l.dropLast.all zd0 && es.all zd0) = true then some (l.dropLast, es) else none
 | _ => none
theorem zkW {l ds es : List D} (h : zkX l = some (ds, es)) : l = ds ++ [.lst es] /\ ds.all zd0 = true /\ es.all zd0 = true := by
 unfold zkX at h
 split at h
 ·rename_i es' hl
  split at h
  ·rename_i hz
   cases h
   rw [Bool.and_eq_true] at hz
   refine ⟨?_, hz⟩
   rw [List.getLast?_eq_some_iff] at hl
   obtain ⟨ys, rfl⟩ := hl
   simp
  ·cases h
 ·cases h
theorem Reps.flats {K : PySem.W.Frag} {G G' : zxg} : ∀ {vs : List V} {ds : List D}, Reps J K G vs ds -> ds.all zd0 = true -> Reps J K G' vs ds
 | _, _, .nil, _ => .nil
 | _, _, .cons r t, h => by
  rw [List.all_cons, Bool.and_eq_true] at h
  exact .cons (r.flat h.1) (t.flats h.2)
theorem Reps.last {K : PySem.W.Frag} {G : zxg} : ∀ {us : List V} {ds : List D} {d : D}, Reps J K G us (ds ++ [d]) -> ∃ vs v, us = vs ++ [v] /\ Reps J K G vs ds /\ Rep J K G v d
 | _, [], _, .cons r .nil => ⟨[], _, rfl, .nil, r⟩
 | _, _ :: _, _, .cons r t => by
  obtain ⟨vs, v, rfl, h1, h2⟩ := Reps.last t
  exact ⟨_ :: vs, v, rfl, .cons r h1, h2⟩
theorem NewLs.last {H G : zxg} : ∀ {vs : List V} {v : V} {ds : List D} {d : D}, vs.length = ds.length -> NewLs H G (vs ++ [v]) (ds ++ [d]) -> NewL H G v d
 | [], _, [], _, _, .cons r .nil => r
 | _ :: vs, _, _ :: ds, _, h, .cons _ t => NewLs.last (by simpa using h) t
def zfN (i : Nat) (f : zxe) : zxa := fun ρ => (f ρ).bind fun d => if zd0 d = true then some (.nx, ρ.set i (some (.sh d))) else match d with
 | .tup l => (zkX l).map fun q => (.nx, ρ.set i (some (.tlo q.1 q.2)))
 | _ => none
theorem zql (i : Nat) (hN : X.N.Nodup) (h : DN J X e f) (hi : X.N[i]? = some x := by rfl) (hx : zvI X.env.scope x := by first | exact Or.inl rfl | exact Or.inr rfl) (hs : swapsWith e (some (.Name x pos')) pos.line X.env = pure false := by rfl) (hf : X.fn x = true \/ X.env.scope.names.lookup x = some .local := by first | exact .inl rfl | exact .inr rfl | assumption) :
  DS J X (.Assign [.Name x pos'] e pos) (zfN i f) := ⟨(zlC hN hi hx h.1 hs hf).imp fun E σ H => by
 rintro ⟨G₀, H₀, G, ρ, zxc, ρ', A, h, k⟩
 unfold zfN at h
 obtain ⟨d, hd, hq⟩ := oBd h
 clear h
 refine ⟨G₀, H₀, G, ρ, d, A, hd, fun v G' H' s r nv => ?_⟩
 split at hq
 ·cases hq
  exact k _ G' H' s.gg ((A.step s).setSh r)
 ·split at hq
  ·rename_i l
   obtain ⟨⟨ds, es⟩, hl, hq⟩ := oMd hq
   cases hq
   obtain ⟨rfl, f1, f2⟩ := zkW hl
   obtain ⟨t, us, rfl, ht, ru⟩ := r.tup_inv
   obtain ⟨vs, v, rfl, rv, rl⟩ := ru.last
   obtain ⟨q, ws, rfl, hq', rw'⟩ := rl.lst_inv
   have nq : H q = none := by
    cases nv with
    | flat z => cases z
    | tup z1 z2 =>
     rw [ht] at z1
     cases z1
     cases NewLs.last rv.length z2 with
     | flat z => cases z
     | lst _ z _ => exact z
   have gq : G q = none := A.gh.free nq
   have h0 : H₀ q = none := A.st.hh.free nq
   have ntq : t ≠ q := znE ht hq' (by intro z; cases z)
   let G2 : zxg := fun b => if b = q then none else G' b
   have gg : zb5 G G2 := fun b o e => by
    show (if b = q then none else G' b) = some o
    rw [if_neg (zaq e gq)]; exact s.gg b o e
   refine k _ G2 H' gg (A.put (fp := []) (fp' := [q]) (.inl rfl) (fun b o e _ => s.hh b o e) (.tlo (t := t) (p := q) h0 (if_pos rfl) (s.gh _ _ hq') ?_ (rv.flats f1) (rw'.flats f2)) (fun b hb => .inr (by rw [List.mem_singleton.mp hb]; exact nq)) gg (fun b o e => ?_) (fun b o e _ => ?_) (fun b hb => by cases hb))
   ·show (if t = q then none else G' t) = _
    rw [if_neg ntq]; exact ht
   ·have e : (if b = q then none else G' b) = some o := e
    split at e
    ·cases e
    ·exact s.gh b o e
   ·show (if b = q then none else G' b) = G b
    rw [if_neg (zaq e nq)]; exact s.out b o e
  ·cases hq⟩
def zvh (i : Nat) (ft : zw1) : zw1 := fun ρ => match ρ[i]? with
 | some (some (.tlo ds es)) => ft (ρ.set i (some (.sh (.tup (ds ++ [.lst es])))))
 | some (some (.sh d)) => ft ρ
 | _ => none
theorem At.frzL {K : PySem.W.Frag} {G₀ H₀ G H : zxg} {ρ : zaV} {σ : zxd} (A : At J K G₀ H₀ G H ρ σ) {i : Nat} {ds es : List D} (hi : ρ[i]? = some (some (.tlo ds es))) : ∃ G', zb5 G G' /\ At J K G₀ H₀ G' H (ρ.set i (some (.sh (.tup (ds ++ [.lst es]))))) σ := by
 obtain ⟨v, fp, h1, h2⟩ := A.get hi
 cases h2 with
 | tlo q1 q2 q3 q4 q5 q6 =>
  rename_i t p vs ws
  have sm : zb5 G (zt0 G p (.lst ws)) := fun b o e => by rw [zaz (zaq e q2)]; exact e
  refine ⟨zt0 G p (.lst ws), sm, A.ch hi h1 (.tlo q1 q2 q3 q4 q5 q6) (fun b o e hb => e) (.sh (.tup (sm _ _ q4) ((q5.mono sm).append (.cons (.lst zaB (q6.mono sm)) .nil)))) (fun b hb => by cases hb) sm (fun b o e => ?_) (fun b o e hb => ?_)⟩
  ·by_cases hb : b = p
   ·subst hb; rw [zaB] at e; cases e; exact q3
   ·rw [zaz hb] at e; exact A.gh b o e
  ·rw [zaz (fun z => hb (List.mem_singleton.mpr z))]
theorem zoK (i : Nat) {ft : zw1} (h : DT J X e ft) : DT J X e (zvh i ft) := ⟨h.1.imp fun σ H Q => by
 rintro ⟨G₀, H₀, G, ρ, b, A, h, k⟩
 unfold zvh at h
 split at h
 ·rename_i ds es hi
  obtain ⟨G1, sm, A1⟩ := A.frzL hi
  exact ⟨G₀, H₀, G1, _, b, A1, h, fun G' H' s => k G H' (s.back A.gh sm)⟩
 ·exact ⟨G₀, H₀, G, ρ, b, A, h, k⟩
 ·cases h⟩
def zix (i n : Nat) (f : zxe) : zxa := fun ρ => match ρ[i]? with
 | some (some (.tlo ds es)) => (f ρ).bind fun d => if n = ds.length /\ es.length < sizeLine /\ zd0 d = true then some (.nx, ρ.set i (some (.tlo ds (es ++ [d])))) else none
 | _ => none
theorem zqk (i n : Nat) {vp sp ip cpos : Pos} {j : Nat} (h : DE J X e f) (hN : X.N[i]? = some x := by rfl) (hv : zvn X.env.scope x := by first | exact Or.inl rfl | exact Or.inr (Or.inl rfl) | exact Or.inr (Or.inr rfl)) (hd : (x == ("__debug__" : Str)) = false := by decide)
  (hcd : (x == ("__classdict__" : Str)) = false := by decide) (hpi : zjU (.Constant (.int (n : Int)) j ip) := by intro _ _; rfl)
  (hbase : attributeBase (.Subscript (.Name x vp) (.Constant (.int (n : Int)) j ip) sp) "append" X.env (eval (.Subscript (.Name x vp) (.Constant (.int (n : Int)) j ip) sp) X.env) = eval (.Subscript (.Name x vp) (.Constant (.int (n : Int)) j ip) sp) X.env := by rfl)
  (hfew : ((backTo cpos (starEach [e] X.env)).all (fun x => !x.1) && (backToKw cpos (keywordEach [] X.env)).all (fun x => x.1.isSome)
   && decide ([e].length + ([] : List Keyword).length + (if ([] : List Keyword).isEmpty then 0 else 1) < 30)) = true := by rfl)
  (hline : (apos.endLine == cpos.line) = true := by rfl) (hs : starEach [e] X.env = (false, eval e X.env) :: starEach [] X.env := by rfl) (hplain : (backTo cpos (starEach [] X.env)).any (·.1) = false := by rfl)
  (hsw : swapsWith (.Call (.Attribute (.Subscript (.Name x vp) (.Constant (.int (n : Int)) j ip) sp) "append" apos) [e] [] cpos) none pos.line X.env = pure false := by rfl) :
  DS J X (.Expr (.Call (.Attribute (.Subscript (.Name x vp) (.Constant (.int (n : Int)) j ip) sp) "append" apos) [e] [] cpos) pos) (zix i n f) := ⟨(zjn (zpH PySem.F.plainAttrs_list PySem.F.slot_list_append PySem.F.type_list_append zgk (zrq zoz (zfw hN hv hd hcd) zoq hpi) (zdK h.1 zfx hs) hbase hfew hline hs hplain) hsw).imp fun E σ H => by
  rintro ⟨G₀, H₀, G, ρ, zxc, ρ', A, h, k⟩
  unfold zix at h
  split at h
  ·rename_i ds es hi
   obtain ⟨d, hd, h⟩ := oBd h
   split at h
   ·rename_i hz
    obtain ⟨hz1, hz2, hz3⟩ := hz
    cases h
    obtain ⟨v, fp, h1, h2⟩ := A.get hi
    cases h2 with
    | tlo q1 q2 q3 q4 q5 q6 =>
     rename_i t p vs ws
     have at1 : atI (vs ++ [V.ref p]) (n : Int) = some (V.ref p) := by
      have hl : vs.length = n := by rw [q5.length, hz1]
      unfold atI zuY
      rw [if_pos (by omega), if_pos (by rw [List.length_append]; simp; omega)]
      subst hl
      simp
     refine ⟨.ref t, h1, .inr (.inl ⟨t, vs ++ [.ref p], (n : Int), .ref p, rfl, rfl, .inl (.inl (A.gh _ _ q4)), at1, .inl ⟨rfl, ws, .inl (.inl q3)⟩, G₀, H₀, G, ρ, d, A, hd, fun u G1 H1 s1 r1 => ?_⟩)⟩
     have A1 := A.step s1
     have hp1 : H1 p = some (.lst ws) := s1.hh _ _ q3
     have gp1 : G1 p = none := (s1.out _ _ q3).trans q2
     refine ⟨p, ws, u, rfl, rfl, hp1, by rw [q6.length]; exact hz2, ?_⟩
     refine k σ G1 _ s1.gg (A1.ch hi h1 (.tlo q1 gp1 hp1 (s1.gg _ _ q4) (q5.mono s1.gg) (q6.mono s1.gg)) (fun b o e hb => ?_) (.tlo q1 gp1 zaB (s1.gg _ _ q4) (q5.mono s1.gg) ((q6.mono s1.gg).append (.cons r1 .nil))) (fun b hb => .inl hb) (.refl _) (fun b o e => ?_) (fun _ _ _ _ => rfl))
     ·rw [zaz (fun z => hb (List.mem_singleton.mpr z))]; exact e
     ·rw [zaz (zaq e gp1)]; exact A1.gh b o e
   ·cases h
  ·cases h⟩
end
end L2
end
section
namespace Law
open PySem L2 PySem.Spec PyProof.Rows
def top (i : Nat) : Stmt := PySem.Challenge.pw_shopbound_k02_shops_asked.main.body.getD i (.Pass ⟨0, 0, 0, 0⟩)
abbrev zer : Stmt := top 48
abbrev zdq : Stmt := top 49
abbrev zdH : Stmt := top 51
abbrev zep : Stmt := top 50
abbrev zc4 : Stmt := top 52
abbrev zdG : Stmt := top 53
abbrev zeq : Stmt := top 54
abbrev zdp : Stmt := top 55
abbrev zdJ : Stmt := top 56
abbrev zdo : Stmt := top 57
abbrev zdI : Stmt := top 58
abbrev ze1 : Stmt := top 6
abbrev zej : Stmt := top 9
abbrev ze2 : Stmt := top 11
abbrev ze5 : Stmt := top 25
abbrev zga : Stmt := top 10
abbrev zdF : Stmt := top 26
abbrev zf9 : Stmt := top 7
abbrev ze6 : Stmt := top 27
abbrev zdC : Stmt := top 13
abbrev zdm : Stmt := top 28
abbrev zek : Stmt := top 12
abbrev zhG : Stmt := top 29
abbrev ze7 : Stmt := top 30
abbrev zf8 : Stmt := top 31
abbrev zem : Stmt := top 32
abbrev zhH : Stmt := top 33
abbrev ze8 : Stmt := top 34
abbrev ze4 : Stmt := top 35
abbrev zdE : Stmt := top 36
abbrev zgb : Stmt := top 37
abbrev zen : Stmt := top 38
abbrev zel : Stmt := top 39
abbrev zdn : Stmt := top 40
abbrev ze3 : Stmt := top 41
abbrev zdD : Stmt := top 42
abbrev zcH : Stmt := top 43
abbrev zjj : Stmt := top 45
abbrev zcU : Stmt := zfd (top 46) 0
abbrev zeo : Stmt := top 59
abbrev zgc : Stmt := top 45
abbrev zcq : Stmt := zfd (top 46) 13
abbrev zcS : Stmt := zfd (top 46) 14
abbrev ze9 : Stmt := top 60
abbrev zcI : Stmt := zfd (top 46) 10
abbrev zgd : Stmt := top 45
abbrev zcT : Stmt := zfd (top 46) 12
abbrev zc5 : Stmt := zfd (top 46) 11
abbrev zcx : Stmt := top 61
abbrev zf7 : Stmt := top 62
def zd7 (mg : Str -> Option Value) : Tok := match mg "LONGEST_NAME" with | some (.int _ t) => t | _ => 0
def zeH (mg : Str -> Option Value) : Tok := match mg "MOST_AMOUNT" with | some (.int _ t) => t | _ => 0
def zd6 (mg : Str -> Option Value) : Tok := match mg "MOST_BENCHES" with | some (.int _ t) => t | _ => 0
def zeG (mg : Str -> Option Value) : Tok := match mg "MOST_BREAKS" with | some (.int _ t) => t | _ => 0
def zd5 (mg : Str -> Option Value) : Tok := match mg "MOST_HORIZON" with | some (.int _ t) => t | _ => 0
def zf2 (mg : Str -> Option Value) : Tok := match mg "MOST_JOBS" with | some (.int _ t) => t | _ => 0
def zft (mg : Str -> Option Value) : Tok := match mg "MOST_LINKS" with | some (.int _ t) => t | _ => 0
def zeF (mg : Str -> Option Value) : Tok := match mg "MOST_SETUPS" with | some (.int _ t) => t | _ => 0
def zfs (mg : Str -> Option Value) : Tok := match mg "MOST_STEPS" with | some (.int _ t) => t | _ => 0
def zeE (mg : Str -> Option Value) : Tok := match mg "MOST_STOCKS" with | some (.int _ t) => t | _ => 0
def zf1 (mg : Str -> Option Value) : Tok := match mg "MOST_WAYS" with | some (.int _ t) => t | _ => 0
structure Bn (mg : Str -> Option Value) : Prop where
 z_abs : mg "abs" = none
 z_all : mg "all" = none
 z_bool : mg "bool" = none
 z_dict : mg "dict" = none
 z_enumerate : mg "enumerate" = none
 z_int : mg "int" = none
 z_isinstance : mg "isinstance" = none
 z_len : mg "len" = none
 z_list : mg "list" = none
 z_max : mg "max" = none
 z_min : mg "min" = none
 z_range : mg "range" = none
 z_set : mg "set" = none
 z_str : mg "str" = none
 z_tuple : mg "tuple" = none
 c_LONGEST_NAME : mg "LONGEST_NAME" = some (.int 8 (zd7 mg))
 c_MOST_AMOUNT : mg "MOST_AMOUNT" = some (.int 1000000 (zeH mg))
 c_MOST_BENCHES : mg "MOST_BENCHES" = some (.int 8 (zd6 mg))
 c_MOST_BREAKS : mg "MOST_BREAKS" = some (.int 10 (zeG mg))
 c_MOST_HORIZON : mg "MOST_HORIZON" = some (.int 1000000 (zd5 mg))
 c_MOST_JOBS : mg "MOST_JOBS" = some (.int 40 (zf2 mg))
 c_MOST_LINKS : mg "MOST_LINKS" = some (.int 100 (zft mg))
 c_MOST_SETUPS : mg "MOST_SETUPS" = some (.int 100 (zeF mg))
 c_MOST_STEPS : mg "MOST_STEPS" = some (.int 40 (zfs mg))
 c_MOST_STOCKS : mg "MOST_STOCKS" = some (.int 6 (zeE mg))
 c_MOST_WAYS : mg "MOST_WAYS" = some (.int 4 (zf1 mg))
def zez : List Str := ["benches", "steps", "jobs", "setups", "links", "stocks", "horizon", "bench_by_name", "step_by_name", "setup_by_names", "job_by_step"]
end Law
end
section
set_option maxHeartbeats 4000000
namespace Law
open PySem L2 PySem.Spec PyProof.Rows
variable {J : Cn} {P : Program} {w : World} {K : PySem.W.Frag} {mg : Str -> Option Value} {base : Heap}
def zgV : List D -> Option D := zb3 0
  (zaC (zuw (zt5 (zxj zuM (ztZ 1) (zxh zdt (zab (ztZ 0) zak)))) (za5 (zxj zu0 (ztZ 0) (ztZ 1))) zbH) (za5 (zxk (.int 0))))
theorem ziw : FnScope ["_law_script", "_law_k"] ["_law_script", "_law_k"] (zag zer) := ⟨rfl, rfl, rfl, by decide +kernel, rfl, by decide +kernel, by decide +kernel⟩
theorem zia (F : Dfn K mg "_law_cell" zer) (B : Bn mg)  : Cal J P w K mg base "_law_cell" 2 1 (zgV) :=
 F.cal (k := 0) ziw (fun _ _ _ _ _ _ us hl => match us, hl with | [_, _], _ => rfl) fun f cdv A outer s H E hr =>
  (zaf (zbj (zca zqw (zac 1) (zaA zdj rfl B.z_len (by rfl) (zaa (zac 0) zae)) (zby _)) (zal (zax (zau (zac 0) (zac 1)))) zaE) (zal (zax zad)))
def zeY : List D -> Option D := zb3 4
  (zaC (zbs 3 (zxj zew (zxh zso (zab (ztZ 0) zak)) (zxk (.int 2)))) (zaC (zfv 4 (zuh zak)) (zaC (zde (zu4 (ztZ 2)) (zcz 2 (zaH (zaN 5) (zaH (zaN 6) zcy))) (zuw (zuF (zt5 (zxj zvb (zxj zcf (ztZ 0) (zxk (.int 2))) (zxk (.int 1)))) (zt5 (zxj zvb (ztZ 3) (zxk (.int 0))))) (zaC (zbs 3 (zxj zbx (zxj zcf (zxj zbx (ztZ 3) (ztZ 0)) (zxk (.int 2147483629))) (zxk (.int 48271)))) (zaC (zbs 3 (zxj zbx (ztZ 3) (zxj zd9 (zxj zd9 (zxk (.int 7919)) (zxj zbx (ztZ 1) (ztZ 5))) (zxj zbx (ztZ 1) (ztZ 5))))) (zaC (zbs 3 (zxj zcf (zxj zd9 (ztZ 3) (ztZ 3)) (zxk (.int 2147483587)))) (zdT 4 (zxj zcf (zxj zew (ztZ 3) (zxk (.int 16))) (ztZ 6)))))) (zaC (zdT 4 (zxj zcf (ztZ 3) (ztZ 6))) (zbs 3 (zxj zew (ztZ 3) (ztZ 6)))))) (zie 4 (za5 (ztZ 4))))))
theorem za7 : FnScope ["_law_cell_here", "_law_k", "_law_sizes", "_law_number", "_law_found", "_law_turn", "_law_size"] ["_law_cell_here", "_law_k", "_law_sizes"] (zag zdq) := ⟨rfl, rfl, rfl, by decide +kernel, rfl, by decide +kernel, by decide +kernel⟩
theorem zgK (F : Dfn K mg "_law_digits" zdq) (B : Bn mg)  : Cal J P w K mg base "_law_digits" 3 1 (zeY) :=
 F.cal (k := 0) za7 (fun _ _ _ _ _ _ us hl => match us, hl with | [_, _, _], _ => rfl) fun f cdv A outer s H E hr =>
  (zaf (zaZ 3 za7.nd (zfh (zaA zsc rfl B.z_abs (by rfl) (zaa (zac 0) zae)) zad)) (zaf (zdv 4 za7.nd (zb0 zae)) (zaf (zcv PassesOwn.never rfl (zex rfl B.z_enumerate (zac 2)) (zea (n := 2) rfl (za8 (zas 5 za7.nd) (za8 (zas 6 za7.nd) zdb))) (zal (zbj (DW.dt (zcC (zca zg1 (zbK (zac 0) zad) zad (zby _)) (zb9 (zca zg1 (zac 3) zad (zby _))))) (zaf (zaZ 3 za7.nd (zbe (zbK (zbe (zac 3) (zac 0)) zad) zad)) (zaf (zaZ 3 za7.nd (zbe (zac 3) (zeb (zeb zad (zbe (zac 1) (zac 5))) (zbe (zac 1) (zac 5))))) (zaf (zaZ 3 za7.nd (zbK (zeb (zac 3) (zac 3)) zad)) (zal (zbI 4 (zbK (zfh (zac 3) zad) (zac 6))))))) (zaf (zbI 4 (zbK (zac 3) (zac 6))) (zal (zaZ 3 za7.nd (zfh (zac 3) (zac 6)))))))) (zc9 4 (zal (zax (zac 4)))))))
def zfH : List D -> Option D := zb3 6
  (zaC (zfv 2 (zuh zak)) (zaC (zbs 3 (zxk (.int 0))) (zaC (zde (zu3 (ztZ 0)) (zcz 2 (zaH (zaN 4) (zaH (zaN 5) zcy))) (zaC (zbs 6 (zxj zbx (ztZ 3) (ztZ 4))) (zaC (zbs 7 (zxj zbx (zxj zbx (ztZ 6) (zxk (.int 1))) (ztZ 5))) (zuw (zt5 (zxj zuU (ztZ 7) (ztZ 1))) (zaC (zdT 2 (zb7 (zuh (zab (ztZ 6) (zab (ztZ 7) zak))))) (zbs 3 (zxj zbx (ztZ 7) (zxk (.int 1))))) zbH)))) (zie 2 (za5 (ztZ 2))))))
theorem zbi : FnScope ["_law_row", "_law_horizon", "_law_found", "_law_free", "_law_begin", "_law_size", "_law_low", "_law_high"] ["_law_row", "_law_horizon"] (zag zdH) := ⟨rfl, rfl, rfl, by decide +kernel, rfl, by decide +kernel, by decide +kernel⟩
theorem zg7 (F : Dfn K mg "_law_spans" zdH) (B : Bn mg)  : Cal J P w K mg base "_law_spans" 2 1 (zfH) :=
 F.cal (k := 0) zbi (fun _ _ _ _ _ _ us hl => match us, hl with | [_, _], _ => rfl) fun f cdv A outer s H E hr =>
  (zaf (zdv 2 zbi.nd (zb0 zae)) (zaf (zaZ 3 zbi.nd zad) (zaf (zcv PassesOwn.never rfl (zaY (zac 0)) (zea (n := 2) rfl (za8 (zas 4 zbi.nd) (za8 (zas 5 zbi.nd) zdb))) (zaf (zaZ 6 zbi.nd (zbe (zac 3) (zac 4))) (zaf (zaZ 7 zbi.nd (zbe (zbe (zac 6) zad) (zac 5))) (zal (zbj (zca zh1 (zac 7) (zac 1) (zby _)) (zaf (zbI 2 (zb1 (zaa (zac 6) (zaa (zac 7) zae)))) (zal (zaZ 3 zbi.nd (zbe (zac 7) zad)))) zaE))))) (zc9 2 (zal (zax (zac 2)))))))
def zgT : List D -> Option D := zb3 1
  (zaC (zbs 1 (zxj zu0 (zxk (.str "abcdefghijklmnopqrstuvwxyz")) (zxj zcf (ztZ 0) (zxk (.int 26))))) (za5 (zxj zbx (ztZ 1) (zxj zd9 (zxj zu0 (zxk (.str "qrstuvw")) (zxj zew (ztZ 0) (zxk (.int 26)))) (zxj zcf (ztZ 0) (zxk (.int 4)))))))
theorem zfu : FnScope ["_law_k", "_law_letter"] ["_law_k"] (zag zep) := ⟨rfl, rfl, rfl, by decide +kernel, rfl, by decide +kernel, by decide +kernel⟩
theorem zh8 (F : Dfn K mg "_law_name" zep) (B : Bn mg)  : Cal J P w K mg base "_law_name" 1 1 (zgT) :=
 F.cal (k := 0) zfu (fun _ _ _ _ _ _ us hl => match us, hl with | [_], _ => rfl) fun f cdv A outer s H E hr =>
  (zaf (zaZ 1 zfu.nd (zau zcN (zbK (zac 0) zad))) (zal (zax (zbe (zac 1) (zeb (zau zcN (zfh (zac 0) zad)) (zbK (zac 0) zad))))))
def zee (zai : List D -> Option D) (zbn : List D -> Option D) (zar : List D -> Option D) : List D -> Option D := zb3 5
  (zaC (zfv 2 (zuh zak)) (zaC (zde (zu4 (ztZ 0)) (zcz 2 (zaH (zaN 3) (zaH (zaN 4) zcy))) (zaC (zbs 5 (zxh zai (zab (ztZ 4) (zab (ztZ 3) (zab (za6 (zuh (zab (zxk (.int 4)) (zab (zxk (.int 5)) (zab (zxk (.int 3)) (zab (zxk (.int 7)) (zab (zxk (.int 4)) (zab (zxk (.int 9)) (zab (zxk (.int 5)) zak))))))))) zak))))) (zaC (zbs 6 (zuu (za6 (zuh (zab (zb7 (zuh (zab (zxj zu0 (ztZ 5) (zxk (.int 1))) (zab (zxj zu0 (ztZ 5) (zxk (.int 2))) zak)))) (zab (zb7 (zuh (zab (zxj zu0 (ztZ 5) (zxk (.int 3))) (zab (zxj zu0 (ztZ 5) (zxk (.int 4))) zak)))) (zab (zb7 (zuh (zab (zxj zu0 (ztZ 5) (zxk (.int 5))) (zab (zxj zu0 (ztZ 5) (zxk (.int 6))) zak)))) zak))))) zwZ (zw0 (zxj zu0 (ztZ 5) (zxk (.int 0)))))) (zdT 2 (zb7 (zuh (zab (zxh zar (zab (zxj zbx (zxk (.int 60)) (ztZ 3)) zak)) (zab (zxh zbn (zab (ztZ 6) (zab (ztZ 1) zak))) zak)))))))) (zie 2 (za5 (ztZ 2)))))
theorem zbu : FnScope ["_law_cells", "_law_horizon", "_law_found", "_law_k", "_law_cell_here", "_law_row", "_law_spans_here"] ["_law_cells", "_law_horizon"] (zag zc4) := ⟨rfl, rfl, rfl, by decide +kernel, rfl, by decide +kernel, by decide +kernel⟩
theorem zfQ {zai : List D -> Option D} {zbn : List D -> Option D} {zar : List D -> Option D} (F : Dfn K mg "_law_benches" zc4) (B : Bn mg) (c__law_digits : Cal J P w K mg base "_law_digits" 3 1 zai) (c__law_spans : Cal J P w K mg base "_law_spans" 2 1 zbn) (c__law_name : Cal J P w K mg base "_law_name" 1 1 zar) : Cal J P w K mg base "_law_benches" 2 2 (zee zai zbn zar) :=
 F.cal (k := 1) zbu (fun _ _ _ _ _ _ us hl => match us, hl with | [_, _], _ => rfl) fun f cdv A outer s H E hr =>
  (zaf (zdv 2 zbu.nd (zb0 zae)) (zaf (zcv PassesOwn.never rfl (zex rfl B.z_enumerate (zac 0)) (zea (n := 2) rfl (za8 (zas 3 zbu.nd) (za8 (zas 4 zbu.nd) zdb))) (zaf (zaZ 5 zbu.nd (zap c__law_digits hr (by decide) rfl (zaa (zac 4) (zaa (zac 3) (zaa (DO.de (zb0 (zaa zad (zaa zad (zaa zad (zaa zad (zaa zad (zaa zad (zaa zad zae))))))))) zae))) zuR)) (zaf (zaZ 6 zbu.nd (zcg (DO.de (zb0 (zaa (zb1 (zaa (zau (zac 5) zad) (zaa (zau (zac 5) zad) zae))) (zaa (zb1 (zaa (zau (zac 5) zad) (zaa (zau (zac 5) zad) zae))) (zaa (zb1 (zaa (zau (zac 5) zad) (zaa (zau (zac 5) zad) zae))) zae))))) zcK (zcJ (zau (zac 5) zad)))) (zal (zbI 2 (zb1 (zaa (zap c__law_name hr (by decide) rfl (zaa (zbe zad (zac 3)) zae) zuT) (zaa (zap c__law_spans hr (by decide) rfl (zaa (zac 6) (zaa (zac 1) zae)) zuS) zae)))))))) (zc9 2 (zal (zax (zac 2))))))
def zfG (zai : List D -> Option D) (zar : List D -> Option D) : List D -> Option D := zb3 5
  (zaC (zfv 4 (zuh zak)) (zaC (zde (zu4 (ztZ 0)) (zcz 2 (zaH (zaN 5) (zaH (zaN 6) zcy))) (zaC (zbs 7 (zxh zai (zab (ztZ 6) (zab (zxj zbx (ztZ 5) (zxk (.int 7))) (zab (za6 (zuh (zab (zxk (.int 3)) (zab (zxh zdt (zab (ztZ 1) zak)) (zab (ztZ 3) (zab (zxh zdt (zab (ztZ 1) zak)) (zab (ztZ 3) (zab (zxk (.int 3)) zak)))))))) zak))))) (zaC (zfv 8 (zuh (zab (zb7 (zuh (zab (zxj zu0 (zxj zu0 (ztZ 1) (zxj zu0 (ztZ 7) (zxk (.int 1)))) (zxk (.int 0))) (zab (zxj zbx (zxk (.int 1)) (zxj zcf (zxj zu0 (ztZ 7) (zxk (.int 2))) (ztZ 2))) zak)))) zak))) (zaC (zuw (zlb (zt5 (zxj zvb (zxj zu0 (ztZ 7) (zxk (.int 0))) (zxk (.int 0)))) (zt5 (zxj zuJ (zxj zu0 (ztZ 7) (zxk (.int 3))) (zxj zu0 (ztZ 7) (zxk (.int 1)))))) (zdT 8 (zb7 (zuh (zab (zxj zu0 (zxj zu0 (ztZ 1) (zxj zu0 (ztZ 7) (zxk (.int 3)))) (zxk (.int 0))) (zab (zxj zbx (zxk (.int 1)) (zxj zcf (zxj zu0 (ztZ 7) (zxk (.int 4))) (ztZ 2))) zak))))) zbH) (zie 8 (zdT 4 (zb7 (zuh (zab (zxh zar (zab (ztZ 5) zak)) (zab (zxj zu0 (zxk (.str "pqr")) (zxj zu0 (ztZ 7) (zxk (.int 5)))) (zab (ztZ 8) zak))))))))))) (zie 4 (za5 (ztZ 4)))))
theorem zbS : FnScope ["_law_cells", "_law_benches_here", "_law_horizon", "_law_longest", "_law_found", "_law_k", "_law_cell_here", "_law_row", "_law_ways"] ["_law_cells", "_law_benches_here", "_law_horizon", "_law_longest"] (zag zdG) := ⟨rfl, rfl, rfl, by decide +kernel, rfl, by decide +kernel, by decide +kernel⟩
theorem zg6 {zai : List D -> Option D} {zar : List D -> Option D} (F : Dfn K mg "_law_steps" zdG) (B : Bn mg) (c__law_digits : Cal J P w K mg base "_law_digits" 3 1 zai) (c__law_name : Cal J P w K mg base "_law_name" 1 1 zar) : Cal J P w K mg base "_law_steps" 4 2 (zfG zai zar) :=
 F.cal (k := 1) zbS (fun _ _ _ _ _ _ us hl => match us, hl with | [_, _, _, _], _ => rfl) fun f cdv A outer s H E hr =>
  (zaf (zdv 4 zbS.nd (zb0 zae)) (zaf (zcv PassesOwn.never rfl (zex rfl B.z_enumerate (zac 0)) (zea (n := 2) rfl (za8 (zas 5 zbS.nd) (za8 (zas 6 zbS.nd) zdb))) (zaf (zaZ 7 zbS.nd (zap c__law_digits hr (by decide) rfl (zaa (zac 6) (zaa (zbe (zac 5) zad) (zaa (DO.de (zb0 (zaa zad (zaa (zaA zdj rfl B.z_len (by rfl) (zaa (zac 1) zae)) (zaa (zac 3) (zaa (zaA zdj rfl B.z_len (by rfl) (zaa (zac 1) zae)) (zaa (zac 3) (zaa zad zae)))))))) zae))) zuR)) (zaf (zdv 8 zbS.nd (zb0 (zaa (zb1 (zaa (zau (zau (zac 1) (zau (zac 7) zad)) zad) (zaa (zbe zad (zbK (zau (zac 7) zad) (zac 2))) zae))) zae))) (zaf (zbj (DW.dt (zmq (zca zg1 (zau (zac 7) zad) zad (zby _)) (zjD (zca (zeQ (znR hr)) (zau (zac 7) zad) (zau (zac 7) zad) (zby _))))) (zal (zbI 8 (zb1 (zaa (zau (zau (zac 1) (zau (zac 7) zad)) zad) (zaa (zbe zad (zbK (zau (zac 7) zad) (zac 2))) zae))))) zaE) (zc9 8 (zal (zbI 4 (zb1 (zaa (zap c__law_name hr (by decide) rfl (zaa (zac 5) zae) zuT) (zaa (zau zcN (zau (zac 7) zad)) (zaa (zac 8) zae))))))))))) (zc9 4 (zal (zax (zac 4))))))
def zgU (zai : List D -> Option D) (zar : List D -> Option D) : List D -> Option D := zb3 8
  (zaC (zfv 3 (zuh zak)) (zaC (zbs 4 (za6 (zaP (zu3 (ztZ 1)) (zaN 0) zw5 (zxj zu0 (ztZ 0) (zxk (.int 0))) [none]))) (zaC (zde (zu4 (ztZ 0)) (zcz 2 (zaH (zaN 5) (zaH (zaN 6) zcy))) (zaC (zbs 7 (zxh zai (zab (ztZ 6) (zab (zxj zbx (ztZ 5) (zxk (.int 17))) (zab (za6 (zuh (zab (zxk (.int 4)) (zab (zxk (.int 3)) (zab (zxk (.int 3)) (zab (zxk (.int 2)) (zab (zxk (.int 5)) (zab (zxk (.int 7)) zak)))))))) zak))))) (zaC (zbs 8 (zuu (ztZ 4) zwZ (zw0 (zxj zu0 (ztZ 7) (zxk (.int 0)))))) (zaC (zbs 4 (zuu (ztZ 4) (zw0 (zxj zu0 (ztZ 7) (zxk (.int 0)))) zwZ)) (zuw (zt5 (zxj zuJ (ztZ 8) (za6 (zuh zak)))) (zaC (zbs 9 (zxh zlV (zab (ztZ 2) (zab (zxj zd9 (zxj zu0 (ztZ 7) (zxk (.int 1))) (zxh znP (zab (zxj zvb (zxj zu0 (ztZ 7) (zxk (.int 2))) (zxk (.int 0))) zak))) zak)))) (zaC (zbs 10 (zxh zqI (zab (zxk (.int 0)) (zab (zxj zog (ztZ 2) (zxj zd9 (zxj zu0 (ztZ 7) (zxk (.int 4))) (zxh znP (zab (zxj zvb (zxj zu0 (ztZ 7) (zxk (.int 2))) (zxk (.int 1))) zak)))) zak)))) (zaC (zbs 8 (zxj zbx (zuu (ztZ 8) (zw0 (zxj zcf (zxj zu0 (ztZ 7) (zxk (.int 5))) (zxk (.int 2)))) zwZ) (zuu (ztZ 8) zwZ (zw0 (zxj zcf (zxj zu0 (ztZ 7) (zxk (.int 5))) (zxk (.int 2))))))) (zdT 3 (zb7 (zuh (zab (zxh zar (zab (zxj zbx (zxk (.int 70)) (ztZ 5)) zak)) (zab (ztZ 9) (zab (ztZ 10) (zab (zxj zvb (zxj zu0 (ztZ 7) (zxk (.int 3))) (zxk (.int 1))) (zab (ztZ 8) zak))))))))))) zbH))))) (zie 3 (za5 (ztZ 3))))))
theorem za9 : FnScope ["_law_cells", "_law_steps_here", "_law_horizon", "_law_found", "_law_left", "_law_k", "_law_cell_here", "_law_row", "_law_some", "_law_early", "_law_due"] ["_law_cells", "_law_steps_here", "_law_horizon"] (zag zeq) := ⟨rfl, rfl, rfl, by decide +kernel, rfl, by decide +kernel, by decide +kernel⟩
theorem zh9 {zai : List D -> Option D} {zar : List D -> Option D} (F : Dfn K mg "_law_jobs" zeq) (B : Bn mg) (c__law_digits : Cal J P w K mg base "_law_digits" 3 1 zai) (c__law_name : Cal J P w K mg base "_law_name" 1 1 zar) : Cal J P w K mg base "_law_jobs" 3 2 (zgU zai zar) :=
 F.cal (k := 1) za9 (fun _ _ _ _ _ _ us hl => match us, hl with | [_, _, _], _ => rfl) fun f cdv A outer s H E hr =>
  (zaf (zdv 3 za9.nd (zb0 zae)) (zaf (zmt 4 za9.nd rfl (CompScope.of rfl rfl) (FvOk.of (N' := ["_law_step"]) (fv := [none]) rfl) (zaY (zac 1)) ⟨fun _ _ _ _ _ => ⟨(zas 0 (show (["_law_step"] : List Str).Nodup by decide +kernel)), zaJ, (zau (zac 0) zad)⟩⟩) (zaf (zcv PassesOwn.never rfl (zex rfl B.z_enumerate (zac 0)) (zea (n := 2) rfl (za8 (zas 5 za9.nd) (za8 (zas 6 za9.nd) zdb))) (zaf (zaZ 7 za9.nd (zap c__law_digits hr (by decide) rfl (zaa (zac 6) (zaa (zbe (zac 5) zad) (zaa (DO.de (zb0 (zaa zad (zaa zad (zaa zad (zaa zad (zaa zad (zaa zad zae)))))))) zae))) zuR)) (zaf (zaZ 8 za9.nd (zcg (zac 4) zcK (zcJ (zau (zac 7) zad)))) (zaf (zaZ 4 za9.nd (zcg (zac 4) (zcJ (zau (zac 7) zad)) zcK)) (zal (zbj (zca (zeQ (znR hr)) (zac 8) (DO.de (zb0 zae)) (zby _)) (zaf (zaZ 9 za9.nd (zaA (zm0 rfl) rfl B.z_min (by rfl) (zaa (zac 2) (zaa (zeb (zau (zac 7) zad) (zcD zof rfl B.z_int (by rfl) (zaa (zeP zg1 (zau (zac 7) zad) zad (zby _)) zae))) zae)))) (zaf (zaZ 10 za9.nd (zaA (zsb rfl) rfl B.z_max (by rfl) (zaa zad (zaa (zoN (zac 2) (zeb (zau (zac 7) zad) (zcD zof rfl B.z_int (by rfl) (zaa (zeP zg1 (zau (zac 7) zad) zad (zby _)) zae)))) zae)))) (zaf (zaZ 8 za9.nd (zbe (zcg (zac 8) (zcJ (zbK (zau (zac 7) zad) zad)) zcK) (zcg (zac 8) zcK (zcJ (zbK (zau (zac 7) zad) zad))))) (zal (zbI 3 (zb1 (zaa (zap c__law_name hr (by decide) rfl (zaa (zbe zad (zac 5)) zae) zuT) (zaa (zac 9) (zaa (zac 10) (zaa (zeP zg1 (zau (zac 7) zad) zad (zby _)) (zaa (zac 8) zae))))))))))) zaE)))))) (zc9 3 (zal (zax (zac 3)))))))
def zeX (zai : List D -> Option D) : List D -> Option D := zb3 5
  (zaC (zfv 3 (zuh zak)) (zaC (zde (zu4 (zxh zai (zab (ztZ 0) (zab (zxk (.int 3)) (zab (zxj zd9 (za6 (zuh (zab (zxk (.int 4)) zak))) (zxk (.int 6))) zak))))) (zcz 2 (zaH (zaN 4) (zaH (zaN 5) zcy))) (zaC (zbs 6 (zxj zu0 (zxj zu0 (ztZ 1) (zxj zcf (ztZ 4) (zxh zdt (zab (ztZ 1) zak)))) (zxk (.int 0)))) (zaC (zbs 7 (zb7 (zuh (zab (ztZ 6) (zab (zxj zu0 (zxk (.str "pqr")) (zxj zcf (ztZ 4) (zxk (.int 3)))) (zab (zxj zu0 (zxk (.str "pqr")) (zxj zcf (zxj zbx (ztZ 4) (ztZ 5)) (zxk (.int 3)))) (zab (zxh zlV (zab (ztZ 2) (zab (ztZ 5) zak))) zak))))))) (zuw (zvg 3 (zlb (zt5 (zxj zu6 (ztZ 5) (zxk (.int 0)))) (zt5 (zxj zg0 (zuu (ztZ 7) zwZ (zw0 (zxk (.int 3)))) (za6 (zaP (zu3 (ztZ 3)) (zaN 0) zw5 (zuu (ztZ 0) zwZ (zw0 (zxk (.int 3)))) [none])))))) (zdT 3 (ztZ 7)) zbH)))) (zie 3 (za5 (ztZ 3)))))
theorem zbJ : FnScope ["_law_cell_here", "_law_benches_here", "_law_horizon", "_law_found", "_law_k", "_law_many", "_law_bench", "_law_row"] ["_law_cell_here", "_law_benches_here", "_law_horizon"] (zag zdp) := ⟨rfl, rfl, rfl, by decide +kernel, rfl, by decide +kernel, by decide +kernel⟩
theorem zgJ {zai : List D -> Option D} (F : Dfn K mg "_law_setups" zdp) (B : Bn mg) (c__law_digits : Cal J P w K mg base "_law_digits" 3 1 zai) : Cal J P w K mg base "_law_setups" 3 2 (zeX zai) :=
 F.cal (k := 1) zbJ (fun _ _ _ _ _ _ us hl => match us, hl with | [_, _, _], _ => rfl) fun f cdv A outer s H E hr =>
  (zaf (zdv 3 zbJ.nd (zb0 zae)) (zaf (zcv PassesOwn.never rfl (zex rfl B.z_enumerate (zap c__law_digits hr (by decide) rfl (zaa (zac 0) (zaa zad (zaa (zeb (DO.de (zb0 (zaa zad zae))) zad) zae))) zuR)) (zea (n := 2) rfl (za8 (zas 4 zbJ.nd) (za8 (zas 5 zbJ.nd) zdb))) (zaf (zaZ 6 zbJ.nd (zau (zau (zac 1) (zbK (zac 4) (zaA zdj rfl B.z_len (by rfl) (zaa (zac 1) zae)))) zad)) (zaf (zaZ 7 zbJ.nd (zb1 (zaa (zac 6) (zaa (zau zcN (zbK (zac 4) zad)) (zaa (zau zcN (zbK (zbe (zac 4) (zac 5)) zad)) (zaa (zaA (zm0 rfl) rfl B.z_min (by rfl) (zaa (zac 2) (zaa (zac 5) zae))) zae)))))) (zal (zbj (znY 3 (DW.dt (zmq (zca zs2 (zac 5) zad (zby _)) (zjD (zca (zmP (zi8 hr)) (zcg (zac 7) zcK (zcJ zad)) (DO.de (zb4 rfl (CompScope.of rfl rfl) (FvOk.of (N' := ["_law_one"]) (fv := [none]) rfl) (zaY (zac 3)) ⟨fun _ _ _ _ _ => ⟨(zas 0 (show (["_law_one"] : List Str).Nodup by decide +kernel)), zaJ, (zcg (zac 0) zcK (zcJ zad))⟩⟩)) (by rfl)))))) (zal (zbI 3 (zac 7))) zaE))))) (zc9 3 (zal (zax (zac 3))))))
def zfJ (zai : List D -> Option D) : List D -> Option D := zb3 5
  (zaC (zfv 3 (zuh zak)) (zaC (zbs 4 (zxh zai (zab (ztZ 0) (zab (zxk (.int 5)) (zab (za6 (zuh (zab (zxk (.int 3)) (zab (zxk (.int 9)) (zab (zxk (.int 9)) (zab (zxk (.int 4)) (zab (zxk (.int 9)) (zab (zxk (.int 9)) (zab (zxk (.int 4)) zak))))))))) zak))))) (zaC (zde (zu2 zgY (zab (zxj zu0 (ztZ 4) (zxk (.int 0))) zak)) (zaN 5) (zaC (zbs 6 (zxj zu0 (zxj zu0 (ztZ 1) (zxj zcf (zxj zu0 (ztZ 4) (zxj zbx (zxk (.int 1)) (zxj zd9 (zxk (.int 3)) (ztZ 5)))) (zxh zdt (zab (ztZ 1) zak)))) (zxk (.int 0)))) (zaC (zbs 7 (zxj zu0 (zxj zu0 (ztZ 1) (zxj zcf (zxj zu0 (ztZ 4) (zxj zbx (zxk (.int 2)) (zxj zd9 (zxk (.int 3)) (ztZ 5)))) (zxh zdt (zab (ztZ 1) zak)))) (zxk (.int 0)))) (zuw (zvg 3 (zlb (zt5 (zxj zuJ (ztZ 6) (ztZ 7))) (zt5 (zxj zg0 (zb7 (zuh (zab (ztZ 6) (zab (ztZ 7) zak)))) (za6 (zaP (zu3 (ztZ 3)) (zaN 0) zw5 (zuu (ztZ 0) zwZ (zw0 (zxk (.int 2)))) [none])))))) (zdT 3 (zb7 (zuh (zab (ztZ 6) (zab (ztZ 7) (zab (zxh zlV (zab (ztZ 2) (zab (zxj zu0 (ztZ 4) (zxj zbx (zxk (.int 3)) (zxj zd9 (zxk (.int 3)) (ztZ 5)))) zak))) zak)))))) zbH)))) (zie 3 (za5 (ztZ 3))))))
theorem zbT : FnScope ["_law_cell_here", "_law_steps_here", "_law_horizon", "_law_found", "_law_row", "_law_k", "_law_one", "_law_other"] ["_law_cell_here", "_law_steps_here", "_law_horizon"] (zag zdJ) := ⟨rfl, rfl, rfl, by decide +kernel, rfl, by decide +kernel, by decide +kernel⟩
theorem zg9 {zai : List D -> Option D} (F : Dfn K mg "_law_links" zdJ) (B : Bn mg) (c__law_digits : Cal J P w K mg base "_law_digits" 3 1 zai) : Cal J P w K mg base "_law_links" 3 2 (zfJ zai) :=
 F.cal (k := 1) zbT (fun _ _ _ _ _ _ us hl => match us, hl with | [_, _, _], _ => rfl) fun f cdv A outer s H E hr =>
  (zaf (zdv 3 zbT.nd (zb0 zae)) (zaf (zaZ 4 zbT.nd (zap c__law_digits hr (by decide) rfl (zaa (zac 0) (zaa zad (zaa (DO.de (zb0 (zaa zad (zaa zad (zaa zad (zaa zad (zaa zad (zaa zad (zaa zad zae))))))))) zae))) zuR)) (zaf (zcv PassesOwn.never rfl (zcW rfl B.z_range (zaa (zau (zac 4) zad) zae)) (zas 5 zbT.nd) (zaf (zaZ 6 zbT.nd (zau (zau (zac 1) (zbK (zau (zac 4) (zbe zad (zeb zad (zac 5)))) (zaA zdj rfl B.z_len (by rfl) (zaa (zac 1) zae)))) zad)) (zaf (zaZ 7 zbT.nd (zau (zau (zac 1) (zbK (zau (zac 4) (zbe zad (zeb zad (zac 5)))) (zaA zdj rfl B.z_len (by rfl) (zaa (zac 1) zae)))) zad)) (zal (zbj (znY 3 (DW.dt (zmq (zca (zeQ (znR hr)) (zac 6) (zac 7) (zby _)) (zjD (zca (zmP (zi8 hr)) (zb1 (zaa (zac 6) (zaa (zac 7) zae))) (DO.de (zb4 rfl (CompScope.of rfl rfl) (FvOk.of (N' := ["_law_link"]) (fv := [none]) rfl) (zaY (zac 3)) ⟨fun _ _ _ _ _ => ⟨(zas 0 (show (["_law_link"] : List Str).Nodup by decide +kernel)), zaJ, (zcg (zac 0) zcK (zcJ zad))⟩⟩)) (by rfl)))))) (zal (zbI 3 (zb1 (zaa (zac 6) (zaa (zac 7) (zaa (zaA (zm0 rfl) rfl B.z_min (by rfl) (zaa (zac 2) (zaa (zau (zac 4) (zbe zad (zeb zad (zac 5)))) zae))) zae)))))) zaE))))) (zc9 3 (zal (zax (zac 3)))))))
def zeW (zai : List D -> Option D) (zar : List D -> Option D) : List D -> Option D := zb3 6
  (zaC (zbs 2 (zxh zai (zab (ztZ 0) (zab (zxk (.int 9)) (zab (za6 (zuh (zab (zxk (.int 3)) (zab (zxk (.int 4)) (zab (zxk (.int 5)) (zab (zxk (.int 8)) (zab (zxk (.int 8)) (zab (zxk (.int 4)) (zab (zxk (.int 4)) zak))))))))) zak))))) (zaC (zfv 3 (zuh zak)) (zaC (zde (zu2 zgY (zab (zxj zu0 (ztZ 2) (zxk (.int 0))) zak)) (zaN 4) (zaC (zbs 5 (zxj zbx (zxj zu0 (ztZ 2) (zxk (.int 1))) (zxj zu0 (ztZ 2) (zxk (.int 2))))) (zaC (zbs 6 (za6 (zaP (zu4 (ztZ 1)) (zcz 2 (zaH (zaN 0) (zaH (zaN 1) zcy))) (zt5 (zxj zvb (zxj zcf (zxj zew (zxj zbx (zxj zu0 (ztZ 2) (zxk (.int 3))) (ztZ 3)) (zxj zu0 (za6 (zuh (zab (zxk (.int 1)) (zab (zxk (.int 2)) (zab (zxk (.int 4)) zak))))) (zxj zcf (ztZ 0) (zxk (.int 3))))) (zxk (.int 2))) (zxk (.int 1)))) (zb7 (zuh (zab (zxj zu0 (ztZ 1) (zxk (.int 0))) (zab (zxj zbx (zxk (.int 1)) (zxj zu0 (ztZ 2) (zxk (.int 5)))) zak)))) [none, none, some 2, some 4]))) (zaC (zbs 7 (za6 (zaP (zu4 (ztZ 1)) (zcz 2 (zaH (zaN 0) (zaH (zaN 1) zcy))) (zt5 (zxj zvb (zxj zcf (zxj zew (zxj zbx (zxj zu0 (ztZ 2) (zxk (.int 4))) (ztZ 3)) (zxj zu0 (za6 (zuh (zab (zxk (.int 1)) (zab (zxk (.int 2)) (zab (zxk (.int 4)) zak))))) (zxj zcf (ztZ 0) (zxk (.int 3))))) (zxk (.int 2))) (zxk (.int 1)))) (zb7 (zuh (zab (zxj zu0 (ztZ 1) (zxk (.int 0))) (zab (zxj zbx (zxk (.int 1)) (zxj zu0 (ztZ 2) (zxk (.int 6)))) zak)))) [none, none, some 2, some 4]))) (zdT 3 (zb7 (zuh (zab (zxh zar (zab (zxj zbx (zxk (.int 80)) (ztZ 4)) zak)) (zab (zxj zu0 (ztZ 2) (zxk (.int 1))) (zab (ztZ 5) (zab (ztZ 6) (zab (ztZ 7) zak)))))))))))) (zie 3 (za5 (ztZ 3))))))
theorem zbp : FnScope ["_law_cell_here", "_law_steps_here", "_law_row", "_law_found", "_law_k", "_law_room", "_law_takes", "_law_puts"] ["_law_cell_here", "_law_steps_here"] (zag zdo) := ⟨rfl, rfl, rfl, by decide +kernel, rfl, by decide +kernel, by decide +kernel⟩
theorem zgI {zai : List D -> Option D} {zar : List D -> Option D} (F : Dfn K mg "_law_stocks" zdo) (B : Bn mg) (c__law_digits : Cal J P w K mg base "_law_digits" 3 1 zai) (c__law_name : Cal J P w K mg base "_law_name" 1 1 zar) : Cal J P w K mg base "_law_stocks" 2 2 (zeW zai zar) :=
 F.cal (k := 1) zbp (fun _ _ _ _ _ _ us hl => match us, hl with | [_, _], _ => rfl) fun f cdv A outer s H E hr =>
  (zaf (zaZ 2 zbp.nd (zap c__law_digits hr (by decide) rfl (zaa (zac 0) (zaa zad (zaa (DO.de (zb0 (zaa zad (zaa zad (zaa zad (zaa zad (zaa zad (zaa zad (zaa zad zae))))))))) zae))) zuR)) (zaf (zdv 3 zbp.nd (zb0 zae)) (zaf (zcv PassesOwn.never rfl (zcW rfl B.z_range (zaa (zau (zac 2) zad) zae)) (zas 4 zbp.nd) (zaf (zaZ 5 zbp.nd (zbe (zau (zac 2) zad) (zau (zac 2) zad))) (zaf (zmt 6 zbp.nd rfl (CompScope.of rfl rfl) (FvOk.of (N' := ["_law_j", "_law_step", "_law_row", "_law_k"]) (fv := [none, none, some 2, some 4]) rfl) (zex rfl B.z_enumerate (zac 1)) ⟨fun _ _ _ _ _ => ⟨(zea (n := 2) rfl (za8 (zas 0 (show (["_law_j", "_law_step", "_law_row", "_law_k"] : List Str).Nodup by decide +kernel)) (za8 (zas 1 (show (["_law_j", "_law_step", "_law_row", "_law_k"] : List Str).Nodup by decide +kernel)) zdb))), (zmr (zca zg1 (zbK (zfh (zbe (zau (zac 2) zad) (zac 3)) (zau (DO.de (zb0 (zaa zad (zaa zad (zaa zad zae))))) (zbK (zac 0) zad))) zad) zad (zby _))), (zb1 (zaa (zau (zac 1) zad) (zaa (zbe zad (zau (zac 2) zad)) zae)))⟩⟩) (zaf (zmt 7 zbp.nd rfl (CompScope.of rfl rfl) (FvOk.of (N' := ["_law_j", "_law_step", "_law_row", "_law_k"]) (fv := [none, none, some 2, some 4]) rfl) (zex rfl B.z_enumerate (zac 1)) ⟨fun _ _ _ _ _ => ⟨(zea (n := 2) rfl (za8 (zas 0 (show (["_law_j", "_law_step", "_law_row", "_law_k"] : List Str).Nodup by decide +kernel)) (za8 (zas 1 (show (["_law_j", "_law_step", "_law_row", "_law_k"] : List Str).Nodup by decide +kernel)) zdb))), (zmr (zca zg1 (zbK (zfh (zbe (zau (zac 2) zad) (zac 3)) (zau (DO.de (zb0 (zaa zad (zaa zad (zaa zad zae))))) (zbK (zac 0) zad))) zad) zad (zby _))), (zb1 (zaa (zau (zac 1) zad) (zaa (zbe zad (zau (zac 2) zad)) zae)))⟩⟩) (zal (zbI 3 (zb1 (zaa (zap c__law_name hr (by decide) rfl (zaa (zbe zad (zac 4)) zae) zuT) (zaa (zau (zac 2) zad) (zaa (zac 5) (zaa (zac 6) (zaa (zac 7) zae)))))))))))) (zc9 3 (zal (zax (zac 3)))))))
def zfI (zav : List D -> Option D) (zbg : List D -> Option D) (zbC : List D -> Option D) (zbR : List D -> Option D) (zbo : List D -> Option D) (zbE : List D -> Option D) (zbm : List D -> Option D) : List D -> Option D := zb3 6
  (zaC (zbs 4 (zxh zbg (zab (za6 (zaP (zu2 zgY (zab (zxj zbx (zxk (.int 1)) (zxj zcf (zxh zav (zab (ztZ 0) (zab (zxk (.int 0)) zak))) (zxk (.int 3)))) zak)) (zaN 0) zw5 (zxh zav (zab (ztZ 1) (zab (zxj zbx (zxk (.int 1)) (ztZ 0)) zak))) [none, some 0])) (zab (ztZ 2) zak)))) (zaC (zbs 5 (zxh zbC (zab (za6 (zaP (zu2 zgY (zab (ztZ 1) zak)) (zaN 0) zw5 (zxh zav (zab (ztZ 1) (zab (zxj zbx (zxk (.int 4)) (ztZ 0)) zak))) [none, some 0])) (zab (ztZ 4) (zab (ztZ 2) (zab (ztZ 3) zak)))))) (zaC (zbs 6 (zxh zbR (zab (za6 (zaP (zu2 zgY (zab (zxk (.int 3)) zak)) (zaN 0) zw5 (zxh zav (zab (ztZ 1) (zab (zxj zbx (zxk (.int 14)) (ztZ 0)) zak))) [none, some 0])) (zab (ztZ 5) (zab (ztZ 2) zak))))) (zaC (zbs 7 (zxh zbo (zab (zxh zav (zab (ztZ 0) (zab (zxk (.int 17)) zak))) (zab (ztZ 4) (zab (ztZ 2) zak))))) (zaC (zbs 8 (zxh zbE (zab (zxh zav (zab (ztZ 0) (zab (zxk (.int 18)) zak))) (zab (ztZ 5) (zab (ztZ 2) zak))))) (zaC (zbs 9 (zxh zbm (zab (zxh zav (zab (ztZ 0) (zab (zxk (.int 19)) zak))) (zab (ztZ 5) zak)))) (za5 (za6 (zuh (zab (ztZ 4) (zab (ztZ 5) (zab (ztZ 6) (zab (ztZ 7) (zab (ztZ 8) (zab (ztZ 9) (zab (ztZ 2) zak))))))))))))))))
theorem zbF : FnScope ["_law_script", "_law_many", "_law_horizon", "_law_longest", "_law_benches_here", "_law_steps_here", "_law_jobs_here", "_law_setups_here", "_law_links_here", "_law_stocks_here"] ["_law_script", "_law_many", "_law_horizon", "_law_longest"] (zag zdI) := ⟨rfl, rfl, rfl, by decide +kernel, rfl, by decide +kernel, by decide +kernel⟩
theorem zg8 {zav : List D -> Option D} {zbg : List D -> Option D} {zbC : List D -> Option D} {zbR : List D -> Option D} {zbo : List D -> Option D} {zbE : List D -> Option D} {zbm : List D -> Option D} (F : Dfn K mg "_law_lists" zdI) (B : Bn mg) (c__law_cell : Cal J P w K mg base "_law_cell" 2 1 zav) (c__law_benches : Cal J P w K mg base "_law_benches" 2 2 zbg) (c__law_steps : Cal J P w K mg base "_law_steps" 4 2 zbC) (c__law_jobs : Cal J P w K mg base "_law_jobs" 3 2 zbR) (c__law_setups : Cal J P w K mg base "_law_setups" 3 2 zbo) (c__law_links : Cal J P w K mg base "_law_links" 3 2 zbE) (c__law_stocks : Cal J P w K mg base "_law_stocks" 2 2 zbm) : Cal J P w K mg base "_law_lists" 4 3 (zfI zav zbg zbC zbR zbo zbE zbm) :=
 F.cal (k := 2) zbF (fun _ _ _ _ _ _ us hl => match us, hl with | [_, _, _, _], _ => rfl) fun f cdv A outer s H E hr =>
  (zaf (zaZ 4 zbF.nd (zap c__law_benches hr (by decide) rfl (zaa (DO.de (zb4 rfl (CompScope.of rfl rfl) (FvOk.of (N' := ["_law_k", "_law_script"]) (fv := [none, some 0]) rfl) (zcW rfl B.z_range (zaa (zbe zad (zbK (zap c__law_cell hr (by decide) rfl (zaa (zac 0) (zaa zad zae)) zuS) zad)) zae)) ⟨fun _ _ _ _ _ => ⟨(zas 0 (show (["_law_k", "_law_script"] : List Str).Nodup by decide +kernel)), zaJ, (zap c__law_cell hr (by decide) rfl (zaa (zac 1) (zaa (zbe zad (zac 0)) zae)) zuS)⟩⟩)) (zaa (zac 2) zae)) zuS)) (zaf (zaZ 5 zbF.nd (zap c__law_steps hr (by decide) rfl (zaa (DO.de (zb4 rfl (CompScope.of rfl rfl) (FvOk.of (N' := ["_law_k", "_law_script"]) (fv := [none, some 0]) rfl) (zcW rfl B.z_range (zaa (zac 1) zae)) ⟨fun _ _ _ _ _ => ⟨(zas 0 (show (["_law_k", "_law_script"] : List Str).Nodup by decide +kernel)), zaJ, (zap c__law_cell hr (by decide) rfl (zaa (zac 1) (zaa (zbe zad (zac 0)) zae)) zuS)⟩⟩)) (zaa (zac 4) (zaa (zac 2) (zaa (zac 3) zae)))) zuQ)) (zaf (zaZ 6 zbF.nd (zap c__law_jobs hr (by decide) rfl (zaa (DO.de (zb4 rfl (CompScope.of rfl rfl) (FvOk.of (N' := ["_law_k", "_law_script"]) (fv := [none, some 0]) rfl) (zcW rfl B.z_range (zaa zad zae)) ⟨fun _ _ _ _ _ => ⟨(zas 0 (show (["_law_k", "_law_script"] : List Str).Nodup by decide +kernel)), zaJ, (zap c__law_cell hr (by decide) rfl (zaa (zac 1) (zaa (zbe zad (zac 0)) zae)) zuS)⟩⟩)) (zaa (zac 5) (zaa (zac 2) zae))) zuR)) (zaf (zaZ 7 zbF.nd (zap c__law_setups hr (by decide) rfl (zaa (zap c__law_cell hr (by decide) rfl (zaa (zac 0) (zaa zad zae)) zuS) (zaa (zac 4) (zaa (zac 2) zae))) zuR)) (zaf (zaZ 8 zbF.nd (zap c__law_links hr (by decide) rfl (zaa (zap c__law_cell hr (by decide) rfl (zaa (zac 0) (zaa zad zae)) zuS) (zaa (zac 5) (zaa (zac 2) zae))) zuR)) (zaf (zaZ 9 zbF.nd (zap c__law_stocks hr (by decide) rfl (zaa (zap c__law_cell hr (by decide) rfl (zaa (zac 0) (zaa zad zae)) zuS) (zaa (zac 5) zae)) zuS)) (zal (zax (DO.de (zb0 (zaa (zac 4) (zaa (zac 5) (zaa (zac 6) (zaa (zac 7) (zaa (zac 8) (zaa (zac 9) (zaa (zac 2) zae)))))))))))))))))
def zfl : List D -> Option D := zb3 0
  (za5 (zed (zxh zdA (zab (ztZ 0) (zab (zxk (.ty "int")) zak))) (zsl (zxh zdA (zab (ztZ 0) (zab (zxk (.ty "bool")) zak))))))
theorem zjc : FnScope ["thing"] ["thing"] (zag ze1) := ⟨rfl, rfl, rfl, by decide +kernel, rfl, by decide +kernel, by decide +kernel⟩
theorem ziR (F : Dfn K mg "is_whole" ze1) (B : Bn mg)  : Cal J P w K mg base "is_whole" 1 1 (zfl) :=
 F.cal (k := 0) zjc (fun _ _ _ _ _ _ us hl => match us, hl with | [_], _ => rfl) fun f cdv A outer s H E hr =>
  (zal (zax (zcE (zaA zdk rfl B.z_isinstance (by rfl) (zaa (zac 0) (zaa (zfg rfl B.z_int (by rfl)) zae))) (zdi (zr3 (zaA zdk rfl B.z_isinstance (by rfl) (zaa (zac 0) (zaa (zfg rfl B.z_bool (by rfl)) zae))))))))
def zeB (zbU : List D -> Option D) : List D -> Option D := zb3 0
  (za5 (zed (zxh zbU (zab (ztZ 0) zak)) (zve zuU zuU (ztZ 1) (ztZ 0) (ztZ 2))))
theorem ziq : FnScope ["thing", "least", "most"] ["thing", "least", "most"] (zag zej) := ⟨rfl, rfl, rfl, by decide +kernel, rfl, by decide +kernel, by decide +kernel⟩
theorem zh2 {zbU : List D -> Option D} (F : Dfn K mg "is_within" zej) (B : Bn mg) (c_is_whole : Cal J P w K mg base "is_whole" 1 1 zbU) : Cal J P w K mg base "is_within" 3 2 (zeB zbU) :=
 F.cal (k := 1) ziq (fun _ _ _ _ _ _ us hl => match us, hl with | [_, _, _], _ => rfl) fun f cdv A outer s H E hr =>
  (zal (zax (zcE (zap c_is_whole hr (by decide) rfl (zaa (zac 0) zae) zuT) (zdi (zhY zh1 zh1 (zac 1) (zac 0) (zac 2))))))
def zfm : List D -> Option D := zb3 0
  (za5 (zed (zxh zdA (zab (ztZ 0) (zab (zxk (.ty "tuple")) zak))) (zxj zvb (zxh zdt (zab (ztZ 0) zak)) (ztZ 1))))
theorem zjd : FnScope ["thing", "many"] ["thing", "many"] (zag ze2) := ⟨rfl, rfl, rfl, by decide +kernel, rfl, by decide +kernel, by decide +kernel⟩
theorem ziS (F : Dfn K mg "is_tuple" ze2) (B : Bn mg)  : Cal J P w K mg base "is_tuple" 2 1 (zfm) :=
 F.cal (k := 0) zjd (fun _ _ _ _ _ _ us hl => match us, hl with | [_, _], _ => rfl) fun f cdv A outer s H E hr =>
  (zal (zax (zcE (zaA zdk rfl B.z_isinstance (by rfl) (zaa (zac 0) (zaa (zfg rfl B.z_tuple (by rfl)) zae))) (zdi (zeP zg1 (zaA zdj rfl B.z_len (by rfl) (zaa (zac 0) zae)) (zac 1) (zby _))))))
def zfp (zam : List D -> Option D) (zan : List D -> Option D) : List D -> Option D := zb3 0
  (zaC (zuw (zuF (zck (zt5 (zxh zan (zab (ztZ 0) (zab (zxk (.int 2)) zak))))) (zuF (zck (zt5 (zxh zam (zab (zxj zu0 (ztZ 0) (zxk (.int 0))) (zab (zxk (.int 0)) (zab (ztZ 1) zak)))))) (zck (zt5 (zxh zam (zab (zxj zu0 (ztZ 0) (zxk (.int 1))) (zab (zxk (.int 0)) (zab (ztZ 1) zak)))))))) (za5 (zxk (.bl false))) zbH) (za5 (zxj zuM (zxj zu0 (ztZ 0) (zxk (.int 0))) (zxj zu0 (ztZ 0) (zxk (.int 1))))))
theorem zjg : FnScope ["row", "horizon"] ["row", "horizon"] (zag ze5) := ⟨rfl, rfl, rfl, by decide +kernel, rfl, by decide +kernel, by decide +kernel⟩
theorem ziV {zam : List D -> Option D} {zan : List D -> Option D} (F : Dfn K mg "is_break" ze5) (B : Bn mg) (c_is_within : Cal J P w K mg base "is_within" 3 2 zam) (c_is_tuple : Cal J P w K mg base "is_tuple" 2 1 zan) : Cal J P w K mg base "is_break" 2 3 (zfp zam zan) :=
 F.cal (k := 2) zjg (fun _ _ _ _ _ _ us hl => match us, hl with | [_, _], _ => rfl) fun f cdv A outer s H E hr =>
  (zaf (zbj (DW.dt (zcC (zaO (zaI (zap c_is_tuple hr (by decide) rfl (zaa (zac 0) (zaa zad zae)) zuS))) (zcC (zaO (zaI (zap c_is_within hr (by decide) rfl (zaa (zau (zac 0) zad) (zaa zad (zaa (zac 1) zae))) zuR))) (zb9 (zaO (zaI (zap c_is_within hr (by decide) rfl (zaa (zau (zac 0) zad) (zaa zad (zaa (zac 1) zae))) zuR))))))) (zal (zax zcY)) zaE) (zal (zax (zeP zqw (zau (zac 0) zad) (zau (zac 0) zad) (zby _)))))
def zgO : List D -> Option D := zb3 0
  (za5 (zed (zxh zdA (zab (ztZ 0) (zab (zxk (.ty "list")) zak))) (zve zuU zuU (ztZ 1) (zxh zdt (zab (ztZ 0) zak)) (ztZ 2))))
theorem zkI : FnScope ["thing", "least", "most"] ["thing", "least", "most"] (zag zga) := ⟨rfl, rfl, rfl, by decide +kernel, rfl, by decide +kernel, by decide +kernel⟩
theorem zjN (F : Dfn K mg "is_list" zga) (B : Bn mg)  : Cal J P w K mg base "is_list" 3 1 (zgO) :=
 F.cal (k := 0) zkI (fun _ _ _ _ _ _ us hl => match us, hl with | [_, _, _], _ => rfl) fun f cdv A outer s H E hr =>
  (zal (zax (zcE (zaA zdk rfl B.z_isinstance (by rfl) (zaa (zac 0) (zaa (zfg rfl B.z_list (by rfl)) zae))) (zdi (zhY zh1 zh1 (zac 1) (zaA zdj rfl B.z_len (by rfl) (zaa (zac 0) zae)) (zac 2))))))
def zfF (zbX : List D -> Option D) (zao : List D -> Option D) : List D -> Option D := zb3 0
  (zaC (zuw (zuF (zck (zt5 (zxh zao (zab (ztZ 0) (zab (zxk (.int 0)) (zab (zxk (.int 10)) zak)))))) (zck (zt5 (zxh zi4 (zab (za6 (zaP (zu3 (ztZ 0)) (zaN 0) zw5 (zxh zbX (zab (ztZ 0) (zab (ztZ 1) zak))) [none, some 1])) zak))))) (za5 (zxk (.bl false))) zbH) (za5 (zxh zi4 (zab (za6 (zaP (zu2 zpk (zab (zxk (.int 1)) (zab (zxh zdt (zab (ztZ 0) zak)) zak))) (zaN 0) zw5 (zxj zuM (zxj zu0 (zxj zu0 (ztZ 1) (zxj zog (ztZ 0) (zxk (.int 1)))) (zxk (.int 1))) (zxj zu0 (zxj zu0 (ztZ 1) (ztZ 0)) (zxk (.int 0)))) [none, some 0])) zak))))
theorem zhF : FnScope ["breaks", "horizon"] ["breaks", "horizon"] (zag zdF) := ⟨rfl, rfl, rfl, by decide +kernel, rfl, by decide +kernel, by decide +kernel⟩
theorem zg5 {zbX : List D -> Option D} {zao : List D -> Option D} (F : Dfn K mg "are_breaks" zdF) (B : Bn mg) (c_is_break : Cal J P w K mg base "is_break" 2 3 zbX) (c_is_list : Cal J P w K mg base "is_list" 3 1 zao) : Cal J P w K mg base "are_breaks" 2 4 (zfF zbX zao) :=
 F.cal (k := 3) zhF (fun _ _ _ _ _ _ us hl => match us, hl with | [_, _], _ => rfl) fun f cdv A outer s H E hr =>
  (zaf (zbj (DW.dt (zcC (zaO (zaI (zap c_is_list hr (by decide) rfl (zaa (zac 0) (zaa zad (zaa (zch rfl B.c_MOST_BREAKS) zae))) zuR))) (zb9 (zaO (zaI (zaA (zdw rfl) rfl B.z_all (by rfl) (zaa (DO.de (zb4 rfl (CompScope.of rfl rfl) (FvOk.of (N' := ["row", "horizon"]) (fv := [none, some 1]) rfl) (zaY (zac 0)) ⟨fun _ _ _ _ _ => ⟨(zas 0 (show (["row", "horizon"] : List Str).Nodup by decide +kernel)), zaJ, (zap c_is_break hr (by decide) rfl (zaa (zac 0) (zaa (zac 1) zae)) zuS)⟩⟩)) zae))))))) (zal (zax zcY)) zaE) (zal (zax (zaA (zdw rfl) rfl B.z_all (by rfl) (zaa (DO.de (zb4 rfl (CompScope.of rfl rfl) (FvOk.of (N' := ["place", "breaks"]) (fv := [none, some 0]) rfl) (zmC rfl B.z_range (zaa zad (zaa (zaA zdj rfl B.z_len (by rfl) (zaa (zac 0) zae)) zae))) ⟨fun _ _ _ _ _ => ⟨(zas 0 (show (["place", "breaks"] : List Str).Nodup by decide +kernel)), zaJ, (zeP zqw (zau (zau (zac 1) (zoN (zac 0) zad)) zad) (zau (zau (zac 1) (zac 0)) zad) (zby _))⟩⟩)) zae)))))
def zi5 : List D -> Option D := zb3 0
  (zaC (zuw (zuF (zck (zt5 (zxh zdA (zab (ztZ 0) (zab (zxk (.ty "str")) zak))))) (zck (zt5 (zve zuU zuU (zxk (.int 1)) (zxh zdt (zab (ztZ 0) zak)) (zxk (.int 8)))))) (za5 (zxk (.bl false))) zbH) (za5 (zxh zi4 (zab (za6 (zaP (zu1 (ztZ 0)) (zaN 0) zw5 (zve zuU zuU (zxk (.str "a")) (ztZ 0) (zxk (.str "z"))) [none])) zak))))
theorem zkH : FnScope ["thing"] ["thing"] (zag zf9) := ⟨rfl, rfl, rfl, by decide +kernel, rfl, by decide +kernel, by decide +kernel⟩
theorem zjM (F : Dfn K mg "is_name" zf9) (B : Bn mg)  : Cal J P w K mg base "is_name" 1 1 (zi5) :=
 F.cal (k := 0) zkH (fun _ _ _ _ _ _ us hl => match us, hl with | [_], _ => rfl) fun f cdv A outer s H E hr =>
  (zaf (zbj (DW.dt (zcC (zaO (zaI (zaA zdk rfl B.z_isinstance (by rfl) (zaa (zac 0) (zaa (zfg rfl B.z_str (by rfl)) zae))))) (zb9 (zaO (znX zh1 zh1 zad (zaA zdj rfl B.z_len (by rfl) (zaa (zac 0) zae)) (zch rfl B.c_LONGEST_NAME)))))) (zal (zax zcY)) zaE) (zal (zax (zaA (zdw rfl) rfl B.z_all (by rfl) (zaa (DO.de (zb4 rfl (CompScope.of rfl rfl) (FvOk.of (N' := ["sign"]) (fv := [none]) rfl) (zmB (zac 0)) ⟨fun _ _ _ _ _ => ⟨(zas 0 (show (["sign"] : List Str).Nodup by decide +kernel)), zaJ, (zhY zh1 zh1 zcN (zac 0) zcN)⟩⟩)) zae)))))
def zfq (zbB : List D -> Option D) (zaw : List D -> Option D) (zan : List D -> Option D) : List D -> Option D := zb3 0
  (za5 (zed (zxh zan (zab (ztZ 0) (zab (zxk (.int 2)) zak))) (zed (zxh zaw (zab (zxj zu0 (ztZ 0) (zxk (.int 0))) zak)) (zxh zbB (zab (zxj zu0 (ztZ 0) (zxk (.int 1))) (zab (ztZ 1) zak))))))
theorem zjh : FnScope ["row", "horizon"] ["row", "horizon"] (zag ze6) := ⟨rfl, rfl, rfl, by decide +kernel, rfl, by decide +kernel, by decide +kernel⟩
theorem ziW {zbB : List D -> Option D} {zaw : List D -> Option D} {zan : List D -> Option D} (F : Dfn K mg "is_bench" ze6) (B : Bn mg) (c_are_breaks : Cal J P w K mg base "are_breaks" 2 4 zbB) (c_is_name : Cal J P w K mg base "is_name" 1 1 zaw) (c_is_tuple : Cal J P w K mg base "is_tuple" 2 1 zan) : Cal J P w K mg base "is_bench" 2 5 (zfq zbB zaw zan) :=
 F.cal (k := 4) zjh (fun _ _ _ _ _ _ us hl => match us, hl with | [_, _], _ => rfl) fun f cdv A outer s H E hr =>
  (zal (zax (zcE (zap c_is_tuple hr (by decide) rfl (zaa (zac 0) (zaa zad zae)) zuS) (zcE (zap c_is_name hr (by decide) rfl (zaa (zau (zac 0) zad) zae) zuT) (zdi (zap c_are_breaks hr (by decide) rfl (zaa (zau (zac 0) zad) (zaa (zac 1) zae)) zuS))))))
def zcG : List D -> Option D := zb3 0
  (za5 (zxj zvb (zwE zfb (ztZ 0)) (zxh zdt (zab (ztZ 0) zak))))
theorem zhC : FnScope ["things"] ["things"] (zag zdC) := ⟨rfl, rfl, rfl, by decide +kernel, rfl, by decide +kernel, by decide +kernel⟩
theorem zg2 (F : Dfn K mg "are_unlike" zdC) (B : Bn mg)  : Cal J P w K mg base "are_unlike" 1 1 (zcG) :=
 F.cal (k := 0) zhC (fun _ _ _ _ _ _ us hl => match us, hl with | [_], _ => rfl) fun f cdv A outer s H E hr =>
  (zal (zax (zeP zg1 (zmJ rfl (zi8 hr) rfl B.z_len rfl B.z_set (zac 0)) (zaA zdj rfl B.z_len (by rfl) (zaa (zac 0) zae)) (zby _))))
def zeU (zbY : List D -> Option D) (zao : List D -> Option D) (zah : List D -> Option D) : List D -> Option D := zb3 0
  (zaC (zuw (zuF (zck (zt5 (zxh zao (zab (ztZ 0) (zab (zxk (.int 1)) (zab (zxk (.int 8)) zak)))))) (zck (zt5 (zxh zi4 (zab (za6 (zaP (zu3 (ztZ 0)) (zaN 0) zw5 (zxh zbY (zab (ztZ 0) (zab (ztZ 1) zak))) [none, some 1])) zak))))) (za5 (zxk (.bl false))) zbH) (za5 (zxh zah (zab (za6 (zaP (zu3 (ztZ 0)) (zaN 0) zw5 (zxj zu0 (ztZ 0) (zxk (.int 0))) [none])) zak))))
theorem zgW : FnScope ["benches", "horizon"] ["benches", "horizon"] (zag zdm) := ⟨rfl, rfl, rfl, by decide +kernel, rfl, by decide +kernel, by decide +kernel⟩
theorem zgG {zbY : List D -> Option D} {zao : List D -> Option D} {zah : List D -> Option D} (F : Dfn K mg "are_benches" zdm) (B : Bn mg) (c_is_bench : Cal J P w K mg base "is_bench" 2 5 zbY) (c_is_list : Cal J P w K mg base "is_list" 3 1 zao) (c_are_unlike : Cal J P w K mg base "are_unlike" 1 1 zah) : Cal J P w K mg base "are_benches" 2 6 (zeU zbY zao zah) :=
 F.cal (k := 5) zgW (fun _ _ _ _ _ _ us hl => match us, hl with | [_, _], _ => rfl) fun f cdv A outer s H E hr =>
  (zaf (zbj (DW.dt (zcC (zaO (zaI (zap c_is_list hr (by decide) rfl (zaa (zac 0) (zaa zad (zaa (zch rfl B.c_MOST_BENCHES) zae))) zuR))) (zb9 (zaO (zaI (zaA (zdw rfl) rfl B.z_all (by rfl) (zaa (DO.de (zb4 rfl (CompScope.of rfl rfl) (FvOk.of (N' := ["row", "horizon"]) (fv := [none, some 1]) rfl) (zaY (zac 0)) ⟨fun _ _ _ _ _ => ⟨(zas 0 (show (["row", "horizon"] : List Str).Nodup by decide +kernel)), zaJ, (zap c_is_bench hr (by decide) rfl (zaa (zac 0) (zaa (zac 1) zae)) zuS)⟩⟩)) zae))))))) (zal (zax zcY)) zaE) (zal (zax (zap c_are_unlike hr (by decide) rfl (zaa (DO.de (zb4 rfl (CompScope.of rfl rfl) (FvOk.of (N' := ["row"]) (fv := [none]) rfl) (zaY (zac 0)) ⟨fun _ _ _ _ _ => ⟨(zas 0 (show (["row"] : List Str).Nodup by decide +kernel)), zaJ, (zau (zac 0) zad)⟩⟩)) zae) zuT))))
def zeC (zaw : List D -> Option D) : List D -> Option D := zb3 0
  (za5 (zed (zxh zaw (zab (ztZ 0) zak)) (zxj zmh (ztZ 0) (ztZ 1))))
theorem zir : FnScope ["thing", "names"] ["thing", "names"] (zag zek) := ⟨rfl, rfl, rfl, by decide +kernel, rfl, by decide +kernel, by decide +kernel⟩
theorem zh3 {zaw : List D -> Option D} (F : Dfn K mg "is_one_of" zek) (B : Bn mg) (c_is_name : Cal J P w K mg base "is_name" 1 1 zaw) : Cal J P w K mg base "is_one_of" 2 2 (zeC zaw) :=
 F.cal (k := 1) zir (fun _ _ _ _ _ _ us hl => match us, hl with | [_, _], _ => rfl) fun f cdv A outer s H E hr =>
  (zal (zax (zcE (zap c_is_name hr (by decide) rfl (zaa (zac 0) zae) zuT) (zdi (zeP (zoP (zi8 hr)) (zac 0) (zac 1) (by rfl))))))
def zid (zam : List D -> Option D) (zat : List D -> Option D) (zan : List D -> Option D) : List D -> Option D := zb3 0
  (za5 (zed (zxh zan (zab (ztZ 0) (zab (zxk (.int 2)) zak))) (zed (zxh zat (zab (zxj zu0 (ztZ 0) (zxk (.int 0))) (zab (ztZ 1) zak))) (zxh zam (zab (zxj zu0 (ztZ 0) (zxk (.int 1))) (zab (zxk (.int 1)) (zab (ztZ 2) zak)))))))
theorem zlw : FnScope ["row", "bench_names", "horizon"] ["row", "bench_names", "horizon"] (zag zhG) := ⟨rfl, rfl, rfl, by decide +kernel, rfl, by decide +kernel, by decide +kernel⟩
theorem zk7 {zam : List D -> Option D} {zat : List D -> Option D} {zan : List D -> Option D} (F : Dfn K mg "is_way" zhG) (B : Bn mg) (c_is_within : Cal J P w K mg base "is_within" 3 2 zam) (c_is_one_of : Cal J P w K mg base "is_one_of" 2 2 zat) (c_is_tuple : Cal J P w K mg base "is_tuple" 2 1 zan) : Cal J P w K mg base "is_way" 3 3 (zid zam zat zan) :=
 F.cal (k := 2) zlw (fun _ _ _ _ _ _ us hl => match us, hl with | [_, _, _], _ => rfl) fun f cdv A outer s H E hr =>
  (zal (zax (zcE (zap c_is_tuple hr (by decide) rfl (zaa (zac 0) (zaa zad zae)) zuS) (zcE (zap c_is_one_of hr (by decide) rfl (zaa (zau (zac 0) zad) (zaa (zac 1) zae)) zuS) (zdi (zap c_is_within hr (by decide) rfl (zaa (zau (zac 0) zad) (zaa zad (zaa (zac 2) zae))) zuR))))))
def zhx (zcR : List D -> Option D) (zao : List D -> Option D) (zah : List D -> Option D) : List D -> Option D := zb3 0
  (zaC (zuw (zuF (zck (zt5 (zxh zao (zab (ztZ 0) (zab (zxk (.int 1)) (zab (zxk (.int 4)) zak)))))) (zck (zt5 (zxh zi4 (zab (za6 (zaP (zu3 (ztZ 0)) (zaN 0) zw5 (zxh zcR (zab (ztZ 0) (zab (ztZ 1) (zab (ztZ 2) zak)))) [none, some 1, some 2])) zak))))) (za5 (zxk (.bl false))) zbH) (za5 (zxh zah (zab (za6 (zaP (zu3 (ztZ 0)) (zaN 0) zw5 (zxj zu0 (ztZ 0) (zxk (.int 0))) [none])) zak))))
theorem zji : FnScope ["ways", "bench_names", "horizon"] ["ways", "bench_names", "horizon"] (zag ze7) := ⟨rfl, rfl, rfl, by decide +kernel, rfl, by decide +kernel, by decide +kernel⟩
theorem ziX {zcR : List D -> Option D} {zao : List D -> Option D} {zah : List D -> Option D} (F : Dfn K mg "are_ways" ze7) (B : Bn mg) (c_is_way : Cal J P w K mg base "is_way" 3 3 zcR) (c_is_list : Cal J P w K mg base "is_list" 3 1 zao) (c_are_unlike : Cal J P w K mg base "are_unlike" 1 1 zah) : Cal J P w K mg base "are_ways" 3 4 (zhx zcR zao zah) :=
 F.cal (k := 3) zji (fun _ _ _ _ _ _ us hl => match us, hl with | [_, _, _], _ => rfl) fun f cdv A outer s H E hr =>
  (zaf (zbj (DW.dt (zcC (zaO (zaI (zap c_is_list hr (by decide) rfl (zaa (zac 0) (zaa zad (zaa (zch rfl B.c_MOST_WAYS) zae))) zuR))) (zb9 (zaO (zaI (zaA (zdw rfl) rfl B.z_all (by rfl) (zaa (DO.de (zb4 rfl (CompScope.of rfl rfl) (FvOk.of (N' := ["row", "bench_names", "horizon"]) (fv := [none, some 1, some 2]) rfl) (zaY (zac 0)) ⟨fun _ _ _ _ _ => ⟨(zas 0 (show (["row", "bench_names", "horizon"] : List Str).Nodup by decide +kernel)), zaJ, (zap c_is_way hr (by decide) rfl (zaa (zac 0) (zaa (zac 1) (zaa (zac 2) zae))) zuR)⟩⟩)) zae))))))) (zal (zax zcY)) zaE) (zal (zax (zap c_are_unlike hr (by decide) rfl (zaa (DO.de (zb4 rfl (CompScope.of rfl rfl) (FvOk.of (N' := ["row"]) (fv := [none]) rfl) (zaY (zac 0)) ⟨fun _ _ _ _ _ => ⟨(zas 0 (show (["row"] : List Str).Nodup by decide +kernel)), zaJ, (zau (zac 0) zad)⟩⟩)) zae) zuT))))
def zgN (zaw : List D -> Option D) (zan : List D -> Option D) (zco : List D -> Option D) : List D -> Option D := zb3 0
  (zaC (zuw (zuF (zck (zt5 (zxh zan (zab (ztZ 0) (zab (zxk (.int 3)) zak))))) (zuF (zck (zt5 (zxh zaw (zab (zxj zu0 (ztZ 0) (zxk (.int 0))) zak)))) (zck (zt5 (zxh zaw (zab (zxj zu0 (ztZ 0) (zxk (.int 1))) zak)))))) (za5 (zxk (.bl false))) zbH) (za5 (zxh zco (zab (zxj zu0 (ztZ 0) (zxk (.int 2))) (zab (ztZ 1) (zab (ztZ 2) zak))))))
theorem zkG : FnScope ["row", "bench_names", "horizon"] ["row", "bench_names", "horizon"] (zag zf8) := ⟨rfl, rfl, rfl, by decide +kernel, rfl, by decide +kernel, by decide +kernel⟩
theorem zjL {zaw : List D -> Option D} {zan : List D -> Option D} {zco : List D -> Option D} (F : Dfn K mg "is_step" zf8) (B : Bn mg) (c_is_name : Cal J P w K mg base "is_name" 1 1 zaw) (c_is_tuple : Cal J P w K mg base "is_tuple" 2 1 zan) (c_are_ways : Cal J P w K mg base "are_ways" 3 4 zco) : Cal J P w K mg base "is_step" 3 5 (zgN zaw zan zco) :=
 F.cal (k := 4) zkG (fun _ _ _ _ _ _ us hl => match us, hl with | [_, _, _], _ => rfl) fun f cdv A outer s H E hr =>
  (zaf (zbj (DW.dt (zcC (zaO (zaI (zap c_is_tuple hr (by decide) rfl (zaa (zac 0) (zaa zad zae)) zuS))) (zcC (zaO (zaI (zap c_is_name hr (by decide) rfl (zaa (zau (zac 0) zad) zae) zuT))) (zb9 (zaO (zaI (zap c_is_name hr (by decide) rfl (zaa (zau (zac 0) zad) zae) zuT))))))) (zal (zax zcY)) zaE) (zal (zax (zap c_are_ways hr (by decide) rfl (zaa (zau (zac 0) zad) (zaa (zac 1) (zaa (zac 2) zae))) zuR))))
def zgQ (zct : List D -> Option D) (zao : List D -> Option D) (zah : List D -> Option D) : List D -> Option D := zb3 0
  (zaC (zuw (zuF (zck (zt5 (zxh zao (zab (ztZ 0) (zab (zxk (.int 1)) (zab (zxk (.int 40)) zak)))))) (zck (zt5 (zxh zi4 (zab (za6 (zaP (zu3 (ztZ 0)) (zaN 0) zw5 (zxh zct (zab (ztZ 0) (zab (ztZ 1) (zab (ztZ 2) zak)))) [none, some 1, some 2])) zak))))) (za5 (zxk (.bl false))) zbH) (za5 (zxh zah (zab (za6 (zaP (zu3 (ztZ 0)) (zaN 0) zw5 (zxj zu0 (ztZ 0) (zxk (.int 0))) [none])) zak))))
theorem zit : FnScope ["steps", "bench_names", "horizon"] ["steps", "bench_names", "horizon"] (zag zem) := ⟨rfl, rfl, rfl, by decide +kernel, rfl, by decide +kernel, by decide +kernel⟩
theorem zh5 {zct : List D -> Option D} {zao : List D -> Option D} {zah : List D -> Option D} (F : Dfn K mg "are_steps" zem) (B : Bn mg) (c_is_step : Cal J P w K mg base "is_step" 3 5 zct) (c_is_list : Cal J P w K mg base "is_list" 3 1 zao) (c_are_unlike : Cal J P w K mg base "are_unlike" 1 1 zah) : Cal J P w K mg base "are_steps" 3 6 (zgQ zct zao zah) :=
 F.cal (k := 5) zit (fun _ _ _ _ _ _ us hl => match us, hl with | [_, _, _], _ => rfl) fun f cdv A outer s H E hr =>
  (zaf (zbj (DW.dt (zcC (zaO (zaI (zap c_is_list hr (by decide) rfl (zaa (zac 0) (zaa zad (zaa (zch rfl B.c_MOST_STEPS) zae))) zuR))) (zb9 (zaO (zaI (zaA (zdw rfl) rfl B.z_all (by rfl) (zaa (DO.de (zb4 rfl (CompScope.of rfl rfl) (FvOk.of (N' := ["row", "bench_names", "horizon"]) (fv := [none, some 1, some 2]) rfl) (zaY (zac 0)) ⟨fun _ _ _ _ _ => ⟨(zas 0 (show (["row", "bench_names", "horizon"] : List Str).Nodup by decide +kernel)), zaJ, (zap c_is_step hr (by decide) rfl (zaa (zac 0) (zaa (zac 1) (zaa (zac 2) zae))) zuR)⟩⟩)) zae))))))) (zal (zax zcY)) zaE) (zal (zax (zap c_are_unlike hr (by decide) rfl (zaa (DO.de (zb4 rfl (CompScope.of rfl rfl) (FvOk.of (N' := ["row"]) (fv := [none]) rfl) (zaY (zac 0)) ⟨fun _ _ _ _ _ => ⟨(zas 0 (show (["row"] : List Str).Nodup by decide +kernel)), zaJ, (zau (zac 0) zad)⟩⟩)) zae) zuT))))
def zkB (zaw : List D -> Option D) (zan : List D -> Option D) (zam : List D -> Option D) (zat : List D -> Option D) (zao : List D -> Option D) : List D -> Option D := zb3 0
  (zaC (zuw (zuF (zck (zt5 (zxh zan (zab (ztZ 0) (zab (zxk (.int 5)) zak))))) (zuF (zck (zt5 (zxh zaw (zab (zxj zu0 (ztZ 0) (zxk (.int 0))) zak)))) (zck (zt5 (zxh zdA (zab (zxj zu0 (ztZ 0) (zxk (.int 3))) (zab (zxk (.ty "bool")) zak))))))) (za5 (zxk (.bl false))) zbH) (zaC (zuw (zuF (zck (zt5 (zxh zam (zab (zxj zu0 (ztZ 0) (zxk (.int 1))) (zab (zxk (.int 0)) (zab (ztZ 2) zak)))))) (zck (zt5 (zxh zam (zab (zxj zu0 (ztZ 0) (zxk (.int 2))) (zab (zxk (.int 0)) (zab (ztZ 2) zak))))))) (za5 (zxk (.bl false))) zbH) (za5 (zed (zxh zao (zab (zxj zu0 (ztZ 0) (zxk (.int 4))) (zab (zxk (.int 1)) (zab (zxh zdt (zab (ztZ 1) zak)) zak)))) (zxh zi4 (zab (za6 (zaP (zu3 (zxj zu0 (ztZ 0) (zxk (.int 4)))) (zaN 0) zw5 (zxh zat (zab (ztZ 0) (zab (ztZ 1) zak))) [none, some 1])) zak))))))
theorem zlx : FnScope ["row", "step_names", "horizon"] ["row", "step_names", "horizon"] (zag zhH) := ⟨rfl, rfl, rfl, by decide +kernel, rfl, by decide +kernel, by decide +kernel⟩
theorem zk8 {zaw : List D -> Option D} {zan : List D -> Option D} {zam : List D -> Option D} {zat : List D -> Option D} {zao : List D -> Option D} (F : Dfn K mg "is_job" zhH) (B : Bn mg) (c_is_name : Cal J P w K mg base "is_name" 1 1 zaw) (c_is_tuple : Cal J P w K mg base "is_tuple" 2 1 zan) (c_is_within : Cal J P w K mg base "is_within" 3 2 zam) (c_is_one_of : Cal J P w K mg base "is_one_of" 2 2 zat) (c_is_list : Cal J P w K mg base "is_list" 3 1 zao) : Cal J P w K mg base "is_job" 3 3 (zkB zaw zan zam zat zao) :=
 F.cal (k := 2) zlx (fun _ _ _ _ _ _ us hl => match us, hl with | [_, _, _], _ => rfl) fun f cdv A outer s H E hr =>
  (zaf (zbj (DW.dt (zcC (zaO (zaI (zap c_is_tuple hr (by decide) rfl (zaa (zac 0) (zaa zad zae)) zuS))) (zcC (zaO (zaI (zap c_is_name hr (by decide) rfl (zaa (zau (zac 0) zad) zae) zuT))) (zb9 (zaO (zaI (zaA zdk rfl B.z_isinstance (by rfl) (zaa (zau (zac 0) zad) (zaa (zfg rfl B.z_bool (by rfl)) zae))))))))) (zal (zax zcY)) zaE) (zaf (zbj (DW.dt (zcC (zaO (zaI (zap c_is_within hr (by decide) rfl (zaa (zau (zac 0) zad) (zaa zad (zaa (zac 2) zae))) zuR))) (zb9 (zaO (zaI (zap c_is_within hr (by decide) rfl (zaa (zau (zac 0) zad) (zaa zad (zaa (zac 2) zae))) zuR)))))) (zal (zax zcY)) zaE) (zal (zax (zcE (zap c_is_list hr (by decide) rfl (zaa (zau (zac 0) zad) (zaa zad (zaa (zaA zdj rfl B.z_len (by rfl) (zaa (zac 1) zae)) zae))) zuR) (zdi (zaA (zdw rfl) rfl B.z_all (by rfl) (zaa (DO.de (zb4 rfl (CompScope.of rfl rfl) (FvOk.of (N' := ["name", "step_names"]) (fv := [none, some 1]) rfl) (zaY (zau (zac 0) zad)) ⟨fun _ _ _ _ _ => ⟨(zas 0 (show (["name", "step_names"] : List Str).Nodup by decide +kernel)), zaJ, (zap c_is_one_of hr (by decide) rfl (zaa (zac 0) (zaa (zac 1) zae)) zuS)⟩⟩)) zae))))))))
def zhy (zc2 : List D -> Option D) (zao : List D -> Option D) (zah : List D -> Option D) : List D -> Option D := zb3 2
  (zaC (zuw (zuF (zck (zt5 (zxh zao (zab (ztZ 0) (zab (zxk (.int 0)) (zab (zxk (.int 40)) zak)))))) (zck (zt5 (zxh zi4 (zab (za6 (zaP (zu3 (ztZ 0)) (zaN 0) zw5 (zxh zc2 (zab (ztZ 0) (zab (ztZ 1) (zab (ztZ 2) zak)))) [none, some 1, some 2])) zak))))) (za5 (zxk (.bl false))) zbH) (zaC (zfv 3 (zuh zak)) (zaC (zde (zu3 (ztZ 0)) (zaN 4) (zqG 3 (zxj zu0 (ztZ 4) (zxk (.int 4))))) (zie 3 (za5 (zed (zxh zah (zab (za6 (zaP (zu3 (ztZ 0)) (zaN 0) zw5 (zxj zu0 (ztZ 0) (zxk (.int 0))) [none])) zak)) (zxh zah (zab (ztZ 3) zak))))))))
theorem zeh : FnScope ["jobs", "step_names", "horizon", "members", "row"] ["jobs", "step_names", "horizon"] (zag ze8) := ⟨rfl, rfl, rfl, by decide +kernel, rfl, by decide +kernel, by decide +kernel⟩
theorem ziY {zc2 : List D -> Option D} {zao : List D -> Option D} {zah : List D -> Option D} (F : Dfn K mg "are_jobs" ze8) (B : Bn mg) (c_is_job : Cal J P w K mg base "is_job" 3 3 zc2) (c_is_list : Cal J P w K mg base "is_list" 3 1 zao) (c_are_unlike : Cal J P w K mg base "are_unlike" 1 1 zah) : Cal J P w K mg base "are_jobs" 3 4 (zhy zc2 zao zah) :=
 F.cal (k := 3) zeh (fun _ _ _ _ _ _ us hl => match us, hl with | [_, _, _], _ => rfl) fun f cdv A outer s H E hr =>
  (zaf (zbj (DW.dt (zcC (zaO (zaI (zap c_is_list hr (by decide) rfl (zaa (zac 0) (zaa zad (zaa (zch rfl B.c_MOST_JOBS) zae))) zuR))) (zb9 (zaO (zaI (zaA (zdw rfl) rfl B.z_all (by rfl) (zaa (DO.de (zb4 rfl (CompScope.of rfl rfl) (FvOk.of (N' := ["row", "step_names", "horizon"]) (fv := [none, some 1, some 2]) rfl) (zaY (zac 0)) ⟨fun _ _ _ _ _ => ⟨(zas 0 (show (["row", "step_names", "horizon"] : List Str).Nodup by decide +kernel)), zaJ, (zap c_is_job hr (by decide) rfl (zaa (zac 0) (zaa (zac 1) (zaa (zac 2) zae))) zuR)⟩⟩)) zae))))))) (zal (zax zcY)) zaE) (zaf (zdv 3 zeh.nd (zb0 zae)) (zaf (zcv PassesOwn.never rfl (zaY (zac 0)) (zas 4 zeh.nd) (zal (zmu 3 (zau (zac 4) zad)))) (zc9 3 (zal (zax (zcE (zap c_are_unlike hr (by decide) rfl (zaa (DO.de (zb4 rfl (CompScope.of rfl rfl) (FvOk.of (N' := ["row"]) (fv := [none]) rfl) (zaY (zac 0)) ⟨fun _ _ _ _ _ => ⟨(zas 0 (show (["row"] : List Str).Nodup by decide +kernel)), zaJ, (zau (zac 0) zad)⟩⟩)) zae) zuT) (zdi (zap c_are_unlike hr (by decide) rfl (zaa (zac 3) zae) zuT)))))))))
def zfo (zat : List D -> Option D) (zan : List D -> Option D) (zam : List D -> Option D) (zaw : List D -> Option D) : List D -> Option D := zb3 0
  (zaC (zuw (zuF (zck (zt5 (zxh zan (zab (ztZ 0) (zab (zxk (.int 4)) zak))))) (zck (zt5 (zxh zat (zab (zxj zu0 (ztZ 0) (zxk (.int 0))) (zab (ztZ 1) zak)))))) (za5 (zxk (.bl false))) zbH) (za5 (zed (zxh zaw (zab (zxj zu0 (ztZ 0) (zxk (.int 1))) zak)) (zed (zxh zaw (zab (zxj zu0 (ztZ 0) (zxk (.int 2))) zak)) (zxh zam (zab (zxj zu0 (ztZ 0) (zxk (.int 3))) (zab (zxk (.int 1)) (zab (ztZ 2) zak))))))))
theorem zjf : FnScope ["row", "bench_names", "horizon"] ["row", "bench_names", "horizon"] (zag ze4) := ⟨rfl, rfl, rfl, by decide +kernel, rfl, by decide +kernel, by decide +kernel⟩
theorem ziU {zat : List D -> Option D} {zan : List D -> Option D} {zam : List D -> Option D} {zaw : List D -> Option D} (F : Dfn K mg "is_setup" ze4) (B : Bn mg) (c_is_one_of : Cal J P w K mg base "is_one_of" 2 2 zat) (c_is_tuple : Cal J P w K mg base "is_tuple" 2 1 zan) (c_is_within : Cal J P w K mg base "is_within" 3 2 zam) (c_is_name : Cal J P w K mg base "is_name" 1 1 zaw) : Cal J P w K mg base "is_setup" 3 3 (zfo zat zan zam zaw) :=
 F.cal (k := 2) zjf (fun _ _ _ _ _ _ us hl => match us, hl with | [_, _, _], _ => rfl) fun f cdv A outer s H E hr =>
  (zaf (zbj (DW.dt (zcC (zaO (zaI (zap c_is_tuple hr (by decide) rfl (zaa (zac 0) (zaa zad zae)) zuS))) (zb9 (zaO (zaI (zap c_is_one_of hr (by decide) rfl (zaa (zau (zac 0) zad) (zaa (zac 1) zae)) zuS)))))) (zal (zax zcY)) zaE) (zal (zax (zcE (zap c_is_name hr (by decide) rfl (zaa (zau (zac 0) zad) zae) zuT) (zcE (zap c_is_name hr (by decide) rfl (zaa (zau (zac 0) zad) zae) zuT) (zdi (zap c_is_within hr (by decide) rfl (zaa (zau (zac 0) zad) (zaa zad (zaa (zac 2) zae))) zuR)))))))
def zfE (zbW : List D -> Option D) (zao : List D -> Option D) (zah : List D -> Option D) : List D -> Option D := zb3 0
  (zaC (zuw (zuF (zck (zt5 (zxh zao (zab (ztZ 0) (zab (zxk (.int 0)) (zab (zxk (.int 100)) zak)))))) (zck (zt5 (zxh zi4 (zab (za6 (zaP (zu3 (ztZ 0)) (zaN 0) zw5 (zxh zbW (zab (ztZ 0) (zab (ztZ 1) (zab (ztZ 2) zak)))) [none, some 1, some 2])) zak))))) (za5 (zxk (.bl false))) zbH) (za5 (zxh zah (zab (za6 (zaP (zu3 (ztZ 0)) (zaN 0) zw5 (zuu (ztZ 0) zwZ (zw0 (zxk (.int 3)))) [none])) zak))))
theorem zhE : FnScope ["setups", "bench_names", "horizon"] ["setups", "bench_names", "horizon"] (zag zdE) := ⟨rfl, rfl, rfl, by decide +kernel, rfl, by decide +kernel, by decide +kernel⟩
theorem zg4 {zbW : List D -> Option D} {zao : List D -> Option D} {zah : List D -> Option D} (F : Dfn K mg "are_setups" zdE) (B : Bn mg) (c_is_setup : Cal J P w K mg base "is_setup" 3 3 zbW) (c_is_list : Cal J P w K mg base "is_list" 3 1 zao) (c_are_unlike : Cal J P w K mg base "are_unlike" 1 1 zah) : Cal J P w K mg base "are_setups" 3 4 (zfE zbW zao zah) :=
 F.cal (k := 3) zhE (fun _ _ _ _ _ _ us hl => match us, hl with | [_, _, _], _ => rfl) fun f cdv A outer s H E hr =>
  (zaf (zbj (DW.dt (zcC (zaO (zaI (zap c_is_list hr (by decide) rfl (zaa (zac 0) (zaa zad (zaa (zch rfl B.c_MOST_SETUPS) zae))) zuR))) (zb9 (zaO (zaI (zaA (zdw rfl) rfl B.z_all (by rfl) (zaa (DO.de (zb4 rfl (CompScope.of rfl rfl) (FvOk.of (N' := ["row", "bench_names", "horizon"]) (fv := [none, some 1, some 2]) rfl) (zaY (zac 0)) ⟨fun _ _ _ _ _ => ⟨(zas 0 (show (["row", "bench_names", "horizon"] : List Str).Nodup by decide +kernel)), zaJ, (zap c_is_setup hr (by decide) rfl (zaa (zac 0) (zaa (zac 1) (zaa (zac 2) zae))) zuR)⟩⟩)) zae))))))) (zal (zax zcY)) zaE) (zal (zax (zap c_are_unlike hr (by decide) rfl (zaa (DO.de (zb4 rfl (CompScope.of rfl rfl) (FvOk.of (N' := ["row"]) (fv := [none]) rfl) (zaY (zac 0)) ⟨fun _ _ _ _ _ => ⟨(zas 0 (show (["row"] : List Str).Nodup by decide +kernel)), zaJ, (zcg (zac 0) zcK (zcJ zad))⟩⟩)) zae) zuT))))
def zgP (zat : List D -> Option D) (zan : List D -> Option D) (zam : List D -> Option D) : List D -> Option D := zb3 0
  (zaC (zuw (zuF (zck (zt5 (zxh zan (zab (ztZ 0) (zab (zxk (.int 3)) zak))))) (zuF (zck (zt5 (zxh zat (zab (zxj zu0 (ztZ 0) (zxk (.int 0))) (zab (ztZ 1) zak))))) (zck (zt5 (zxh zat (zab (zxj zu0 (ztZ 0) (zxk (.int 1))) (zab (ztZ 1) zak))))))) (za5 (zxk (.bl false))) zbH) (za5 (zed (zxj zuJ (zxj zu0 (ztZ 0) (zxk (.int 0))) (zxj zu0 (ztZ 0) (zxk (.int 1)))) (zxh zam (zab (zxj zu0 (ztZ 0) (zxk (.int 2))) (zab (zxk (.int 0)) (zab (ztZ 2) zak)))))))
theorem zkJ : FnScope ["row", "step_names", "horizon"] ["row", "step_names", "horizon"] (zag zgb) := ⟨rfl, rfl, rfl, by decide +kernel, rfl, by decide +kernel, by decide +kernel⟩
theorem zjO {zat : List D -> Option D} {zan : List D -> Option D} {zam : List D -> Option D} (F : Dfn K mg "is_link" zgb) (B : Bn mg) (c_is_one_of : Cal J P w K mg base "is_one_of" 2 2 zat) (c_is_tuple : Cal J P w K mg base "is_tuple" 2 1 zan) (c_is_within : Cal J P w K mg base "is_within" 3 2 zam) : Cal J P w K mg base "is_link" 3 3 (zgP zat zan zam) :=
 F.cal (k := 2) zkJ (fun _ _ _ _ _ _ us hl => match us, hl with | [_, _, _], _ => rfl) fun f cdv A outer s H E hr =>
  (zaf (zbj (DW.dt (zcC (zaO (zaI (zap c_is_tuple hr (by decide) rfl (zaa (zac 0) (zaa zad zae)) zuS))) (zcC (zaO (zaI (zap c_is_one_of hr (by decide) rfl (zaa (zau (zac 0) zad) (zaa (zac 1) zae)) zuS))) (zb9 (zaO (zaI (zap c_is_one_of hr (by decide) rfl (zaa (zau (zac 0) zad) (zaa (zac 1) zae)) zuS))))))) (zal (zax zcY)) zaE) (zal (zax (zcE (zeP (zeQ (znR hr)) (zau (zac 0) zad) (zau (zac 0) zad) (zby _)) (zdi (zap c_is_within hr (by decide) rfl (zaa (zau (zac 0) zad) (zaa zad (zaa (zac 2) zae))) zuR))))))
def zgR (zcu : List D -> Option D) (zao : List D -> Option D) (zah : List D -> Option D) : List D -> Option D := zb3 0
  (zaC (zuw (zuF (zck (zt5 (zxh zao (zab (ztZ 0) (zab (zxk (.int 0)) (zab (zxk (.int 100)) zak)))))) (zck (zt5 (zxh zi4 (zab (za6 (zaP (zu3 (ztZ 0)) (zaN 0) zw5 (zxh zcu (zab (ztZ 0) (zab (ztZ 1) (zab (ztZ 2) zak)))) [none, some 1, some 2])) zak))))) (za5 (zxk (.bl false))) zbH) (za5 (zxh zah (zab (za6 (zaP (zu3 (ztZ 0)) (zaN 0) zw5 (zuu (ztZ 0) zwZ (zw0 (zxk (.int 2)))) [none])) zak))))
theorem ziu : FnScope ["links", "step_names", "horizon"] ["links", "step_names", "horizon"] (zag zen) := ⟨rfl, rfl, rfl, by decide +kernel, rfl, by decide +kernel, by decide +kernel⟩
theorem zh6 {zcu : List D -> Option D} {zao : List D -> Option D} {zah : List D -> Option D} (F : Dfn K mg "are_links" zen) (B : Bn mg) (c_is_link : Cal J P w K mg base "is_link" 3 3 zcu) (c_is_list : Cal J P w K mg base "is_list" 3 1 zao) (c_are_unlike : Cal J P w K mg base "are_unlike" 1 1 zah) : Cal J P w K mg base "are_links" 3 4 (zgR zcu zao zah) :=
 F.cal (k := 3) ziu (fun _ _ _ _ _ _ us hl => match us, hl with | [_, _, _], _ => rfl) fun f cdv A outer s H E hr =>
  (zaf (zbj (DW.dt (zcC (zaO (zaI (zap c_is_list hr (by decide) rfl (zaa (zac 0) (zaa zad (zaa (zch rfl B.c_MOST_LINKS) zae))) zuR))) (zb9 (zaO (zaI (zaA (zdw rfl) rfl B.z_all (by rfl) (zaa (DO.de (zb4 rfl (CompScope.of rfl rfl) (FvOk.of (N' := ["row", "step_names", "horizon"]) (fv := [none, some 1, some 2]) rfl) (zaY (zac 0)) ⟨fun _ _ _ _ _ => ⟨(zas 0 (show (["row", "step_names", "horizon"] : List Str).Nodup by decide +kernel)), zaJ, (zap c_is_link hr (by decide) rfl (zaa (zac 0) (zaa (zac 1) (zaa (zac 2) zae))) zuR)⟩⟩)) zae))))))) (zal (zax zcY)) zaE) (zal (zax (zap c_are_unlike hr (by decide) rfl (zaa (DO.de (zb4 rfl (CompScope.of rfl rfl) (FvOk.of (N' := ["row"]) (fv := [none]) rfl) (zaY (zac 0)) ⟨fun _ _ _ _ _ => ⟨(zas 0 (show (["row"] : List Str).Nodup by decide +kernel)), zaJ, (zcg (zac 0) zcK (zcJ zad))⟩⟩)) zae) zuT))))
def zeD (zam : List D -> Option D) (zat : List D -> Option D) (zan : List D -> Option D) : List D -> Option D := zb3 0
  (za5 (zed (zxh zan (zab (ztZ 0) (zab (zxk (.int 2)) zak))) (zed (zxh zat (zab (zxj zu0 (ztZ 0) (zxk (.int 0))) (zab (ztZ 1) zak))) (zxh zam (zab (zxj zu0 (ztZ 0) (zxk (.int 1))) (zab (zxk (.int 1)) (zab (zxk (.int 1000000)) zak)))))))
theorem zis : FnScope ["row", "step_names"] ["row", "step_names"] (zag zel) := ⟨rfl, rfl, rfl, by decide +kernel, rfl, by decide +kernel, by decide +kernel⟩
theorem zh4 {zam : List D -> Option D} {zat : List D -> Option D} {zan : List D -> Option D} (F : Dfn K mg "is_amount" zel) (B : Bn mg) (c_is_within : Cal J P w K mg base "is_within" 3 2 zam) (c_is_one_of : Cal J P w K mg base "is_one_of" 2 2 zat) (c_is_tuple : Cal J P w K mg base "is_tuple" 2 1 zan) : Cal J P w K mg base "is_amount" 2 3 (zeD zam zat zan) :=
 F.cal (k := 2) zis (fun _ _ _ _ _ _ us hl => match us, hl with | [_, _], _ => rfl) fun f cdv A outer s H E hr =>
  (zal (zax (zcE (zap c_is_tuple hr (by decide) rfl (zaa (zac 0) (zaa zad zae)) zuS) (zcE (zap c_is_one_of hr (by decide) rfl (zaa (zau (zac 0) zad) (zaa (zac 1) zae)) zuS) (zdi (zap c_is_within hr (by decide) rfl (zaa (zau (zac 0) zad) (zaa zad (zaa (zch rfl B.c_MOST_AMOUNT) zae))) zuR))))))
def zeV (zbG : List D -> Option D) (zao : List D -> Option D) (zah : List D -> Option D) : List D -> Option D := zb3 0
  (zaC (zuw (zuF (zck (zt5 (zxh zao (zab (ztZ 0) (zab (zxk (.int 0)) (zab (zxh zdt (zab (ztZ 1) zak)) zak)))))) (zck (zt5 (zxh zi4 (zab (za6 (zaP (zu3 (ztZ 0)) (zaN 0) zw5 (zxh zbG (zab (ztZ 0) (zab (ztZ 1) zak))) [none, some 1])) zak))))) (za5 (zxk (.bl false))) zbH) (za5 (zxh zah (zab (za6 (zaP (zu3 (ztZ 0)) (zaN 0) zw5 (zxj zu0 (ztZ 0) (zxk (.int 0))) [none])) zak))))
theorem zgX : FnScope ["rows", "step_names"] ["rows", "step_names"] (zag zdn) := ⟨rfl, rfl, rfl, by decide +kernel, rfl, by decide +kernel, by decide +kernel⟩
theorem zgH {zbG : List D -> Option D} {zao : List D -> Option D} {zah : List D -> Option D} (F : Dfn K mg "are_amounts" zdn) (B : Bn mg) (c_is_amount : Cal J P w K mg base "is_amount" 2 3 zbG) (c_is_list : Cal J P w K mg base "is_list" 3 1 zao) (c_are_unlike : Cal J P w K mg base "are_unlike" 1 1 zah) : Cal J P w K mg base "are_amounts" 2 4 (zeV zbG zao zah) :=
 F.cal (k := 3) zgX (fun _ _ _ _ _ _ us hl => match us, hl with | [_, _], _ => rfl) fun f cdv A outer s H E hr =>
  (zaf (zbj (DW.dt (zcC (zaO (zaI (zap c_is_list hr (by decide) rfl (zaa (zac 0) (zaa zad (zaa (zaA zdj rfl B.z_len (by rfl) (zaa (zac 1) zae)) zae))) zuR))) (zb9 (zaO (zaI (zaA (zdw rfl) rfl B.z_all (by rfl) (zaa (DO.de (zb4 rfl (CompScope.of rfl rfl) (FvOk.of (N' := ["row", "step_names"]) (fv := [none, some 1]) rfl) (zaY (zac 0)) ⟨fun _ _ _ _ _ => ⟨(zas 0 (show (["row", "step_names"] : List Str).Nodup by decide +kernel)), zaJ, (zap c_is_amount hr (by decide) rfl (zaa (zac 0) (zaa (zac 1) zae)) zuS)⟩⟩)) zae))))))) (zal (zax zcY)) zaE) (zal (zax (zap c_are_unlike hr (by decide) rfl (zaa (DO.de (zb4 rfl (CompScope.of rfl rfl) (FvOk.of (N' := ["row"]) (fv := [none]) rfl) (zaY (zac 0)) ⟨fun _ _ _ _ _ => ⟨(zas 0 (show (["row"] : List Str).Nodup by decide +kernel)), zaJ, (zau (zac 0) zad)⟩⟩)) zae) zuT))))
def zfn (zaw : List D -> Option D) (zan : List D -> Option D) (zam : List D -> Option D) (zbf : List D -> Option D) : List D -> Option D := zb3 0
  (zaC (zuw (zuF (zck (zt5 (zxh zan (zab (ztZ 0) (zab (zxk (.int 5)) zak))))) (zck (zt5 (zxh zaw (zab (zxj zu0 (ztZ 0) (zxk (.int 0))) zak))))) (za5 (zxk (.bl false))) zbH) (zaC (zuw (zuF (zck (zt5 (zxh zam (zab (zxj zu0 (ztZ 0) (zxk (.int 2))) (zab (zxk (.int 0)) (zab (zxk (.int 1000000)) zak)))))) (zck (zt5 (zxh zam (zab (zxj zu0 (ztZ 0) (zxk (.int 1))) (zab (zxk (.int 0)) (zab (zxj zu0 (ztZ 0) (zxk (.int 2))) zak))))))) (za5 (zxk (.bl false))) zbH) (za5 (zed (zxh zbf (zab (zxj zu0 (ztZ 0) (zxk (.int 3))) (zab (ztZ 1) zak))) (zxh zbf (zab (zxj zu0 (ztZ 0) (zxk (.int 4))) (zab (ztZ 1) zak)))))))
theorem zje : FnScope ["row", "step_names"] ["row", "step_names"] (zag ze3) := ⟨rfl, rfl, rfl, by decide +kernel, rfl, by decide +kernel, by decide +kernel⟩
theorem ziT {zaw : List D -> Option D} {zan : List D -> Option D} {zam : List D -> Option D} {zbf : List D -> Option D} (F : Dfn K mg "is_stock" ze3) (B : Bn mg) (c_is_name : Cal J P w K mg base "is_name" 1 1 zaw) (c_is_tuple : Cal J P w K mg base "is_tuple" 2 1 zan) (c_is_within : Cal J P w K mg base "is_within" 3 2 zam) (c_are_amounts : Cal J P w K mg base "are_amounts" 2 4 zbf) : Cal J P w K mg base "is_stock" 2 5 (zfn zaw zan zam zbf) :=
 F.cal (k := 4) zje (fun _ _ _ _ _ _ us hl => match us, hl with | [_, _], _ => rfl) fun f cdv A outer s H E hr =>
  (zaf (zbj (DW.dt (zcC (zaO (zaI (zap c_is_tuple hr (by decide) rfl (zaa (zac 0) (zaa zad zae)) zuS))) (zb9 (zaO (zaI (zap c_is_name hr (by decide) rfl (zaa (zau (zac 0) zad) zae) zuT)))))) (zal (zax zcY)) zaE) (zaf (zbj (DW.dt (zcC (zaO (zaI (zap c_is_within hr (by decide) rfl (zaa (zau (zac 0) zad) (zaa zad (zaa (zch rfl B.c_MOST_AMOUNT) zae))) zuR))) (zb9 (zaO (zaI (zap c_is_within hr (by decide) rfl (zaa (zau (zac 0) zad) (zaa zad (zaa (zau (zac 0) zad) zae))) zuR)))))) (zal (zax zcY)) zaE) (zal (zax (zcE (zap c_are_amounts hr (by decide) rfl (zaa (zau (zac 0) zad) (zaa (zac 1) zae)) zuS) (zdi (zap c_are_amounts hr (by decide) rfl (zaa (zau (zac 0) zad) (zaa (zac 1) zae)) zuS)))))))
def zfD (zbV : List D -> Option D) (zao : List D -> Option D) (zah : List D -> Option D) : List D -> Option D := zb3 0
  (zaC (zuw (zuF (zck (zt5 (zxh zao (zab (ztZ 0) (zab (zxk (.int 0)) (zab (zxk (.int 6)) zak)))))) (zck (zt5 (zxh zi4 (zab (za6 (zaP (zu3 (ztZ 0)) (zaN 0) zw5 (zxh zbV (zab (ztZ 0) (zab (ztZ 1) zak))) [none, some 1])) zak))))) (za5 (zxk (.bl false))) zbH) (za5 (zxh zah (zab (za6 (zaP (zu3 (ztZ 0)) (zaN 0) zw5 (zxj zu0 (ztZ 0) (zxk (.int 0))) [none])) zak))))
theorem zhD : FnScope ["stocks", "step_names"] ["stocks", "step_names"] (zag zdD) := ⟨rfl, rfl, rfl, by decide +kernel, rfl, by decide +kernel, by decide +kernel⟩
theorem zg3 {zbV : List D -> Option D} {zao : List D -> Option D} {zah : List D -> Option D} (F : Dfn K mg "are_stocks" zdD) (B : Bn mg) (c_is_stock : Cal J P w K mg base "is_stock" 2 5 zbV) (c_is_list : Cal J P w K mg base "is_list" 3 1 zao) (c_are_unlike : Cal J P w K mg base "are_unlike" 1 1 zah) : Cal J P w K mg base "are_stocks" 2 6 (zfD zbV zao zah) :=
 F.cal (k := 5) zhD (fun _ _ _ _ _ _ us hl => match us, hl with | [_, _], _ => rfl) fun f cdv A outer s H E hr =>
  (zaf (zbj (DW.dt (zcC (zaO (zaI (zap c_is_list hr (by decide) rfl (zaa (zac 0) (zaa zad (zaa (zch rfl B.c_MOST_STOCKS) zae))) zuR))) (zb9 (zaO (zaI (zaA (zdw rfl) rfl B.z_all (by rfl) (zaa (DO.de (zb4 rfl (CompScope.of rfl rfl) (FvOk.of (N' := ["row", "step_names"]) (fv := [none, some 1]) rfl) (zaY (zac 0)) ⟨fun _ _ _ _ _ => ⟨(zas 0 (show (["row", "step_names"] : List Str).Nodup by decide +kernel)), zaJ, (zap c_is_stock hr (by decide) rfl (zaa (zac 0) (zaa (zac 1) zae)) zuS)⟩⟩)) zae))))))) (zal (zax zcY)) zaE) (zal (zax (zap c_are_unlike hr (by decide) rfl (zaa (DO.de (zb4 rfl (CompScope.of rfl rfl) (FvOk.of (N' := ["row"]) (fv := [none]) rfl) (zaY (zac 0)) ⟨fun _ _ _ _ _ => ⟨(zas 0 (show (["row"] : List Str).Nodup by decide +kernel)), zaJ, (zau (zac 0) zad)⟩⟩)) zae) zuT))))
def zdx (zam : List D -> Option D) (zbl : List D -> Option D) (zbO : List D -> Option D) (zcp : List D -> Option D) (zbA : List D -> Option D) (zbP : List D -> Option D) (zbz : List D -> Option D) : List D -> Option D := zb3 2
  (zaC (zuw (zck (zt5 (zxh zam (zab (ztZ 6) (zab (zxk (.int 1)) (zab (zxk (.int 1000000)) zak)))))) (za5 (zxk (.str "horizon"))) zbH) (zaC (zuw (zck (zt5 (zxh zbl (zab (ztZ 0) (zab (ztZ 6) zak))))) (za5 (zxk (.str "benches"))) zbH) (zaC (zbs 7 (za6 (zaP (zu3 (ztZ 0)) (zaN 0) zw5 (zxj zu0 (ztZ 0) (zxk (.int 0))) [none]))) (zaC (zuw (zck (zt5 (zxh zbO (zab (ztZ 1) (zab (ztZ 7) (zab (ztZ 6) zak)))))) (za5 (zxk (.str "steps"))) zbH) (zaC (zbs 8 (za6 (zaP (zu3 (ztZ 1)) (zaN 0) zw5 (zxj zu0 (ztZ 0) (zxk (.int 0))) [none]))) (zaC (zuw (zck (zt5 (zxh zcp (zab (ztZ 2) (zab (ztZ 8) (zab (ztZ 6) zak)))))) (za5 (zxk (.str "jobs"))) zbH) (zaC (zuw (zck (zt5 (zxh zbA (zab (ztZ 3) (zab (ztZ 7) (zab (ztZ 6) zak)))))) (za5 (zxk (.str "setups"))) zbH) (zaC (zuw (zck (zt5 (zxh zbP (zab (ztZ 4) (zab (ztZ 8) (zab (ztZ 6) zak)))))) (za5 (zxk (.str "links"))) zbH) (zaC (zuw (zck (zt5 (zxh zbz (zab (ztZ 5) (zab (ztZ 8) zak))))) (za5 (zxk (.str "stocks"))) zbH) (za5 (zxk .non)))))))))))
theorem zcw : FnScope ["benches", "steps", "jobs", "setups", "links", "stocks", "horizon", "bench_names", "step_names"] ["benches", "steps", "jobs", "setups", "links", "stocks", "horizon"] (zag zcH) := ⟨rfl, rfl, rfl, by decide +kernel, rfl, by decide +kernel, by decide +kernel⟩
theorem zeS {zam : List D -> Option D} {zbl : List D -> Option D} {zbO : List D -> Option D} {zcp : List D -> Option D} {zbA : List D -> Option D} {zbP : List D -> Option D} {zbz : List D -> Option D} (F : Dfn K mg "first_bad_part" zcH) (B : Bn mg) (c_is_within : Cal J P w K mg base "is_within" 3 2 zam) (c_are_benches : Cal J P w K mg base "are_benches" 2 6 zbl) (c_are_steps : Cal J P w K mg base "are_steps" 3 6 zbO) (c_are_jobs : Cal J P w K mg base "are_jobs" 3 4 zcp) (c_are_setups : Cal J P w K mg base "are_setups" 3 4 zbA) (c_are_links : Cal J P w K mg base "are_links" 3 4 zbP) (c_are_stocks : Cal J P w K mg base "are_stocks" 2 6 zbz) : Cal J P w K mg base "first_bad_part" 7 7 (zdx zam zbl zbO zcp zbA zbP zbz) :=
 F.cal (k := 6) zcw (fun _ _ _ _ _ _ us hl => match us, hl with | [_, _, _, _, _, _, _], _ => rfl) fun f cdv A outer s H E hr =>
  (zaf (zbj (zaO (zaI (zap c_is_within hr (by decide) rfl (zaa (zac 6) (zaa zad (zaa (zch rfl B.c_MOST_HORIZON) zae))) zuR))) (zal (zax zcN)) zaE) (zaf (zbj (zaO (zaI (zap c_are_benches hr (by decide) rfl (zaa (zac 0) (zaa (zac 6) zae)) zuS))) (zal (zax zcN)) zaE) (zaf (zmt 7 zcw.nd rfl (CompScope.of rfl rfl) (FvOk.of (N' := ["row"]) (fv := [none]) rfl) (zaY (zac 0)) ⟨fun _ _ _ _ _ => ⟨(zas 0 (show (["row"] : List Str).Nodup by decide +kernel)), zaJ, (zau (zac 0) zad)⟩⟩) (zaf (zbj (zaO (zaI (zap c_are_steps hr (by decide) rfl (zaa (zac 1) (zaa (zac 7) (zaa (zac 6) zae))) zuR))) (zal (zax zcN)) zaE) (zaf (zmt 8 zcw.nd rfl (CompScope.of rfl rfl) (FvOk.of (N' := ["row"]) (fv := [none]) rfl) (zaY (zac 1)) ⟨fun _ _ _ _ _ => ⟨(zas 0 (show (["row"] : List Str).Nodup by decide +kernel)), zaJ, (zau (zac 0) zad)⟩⟩) (zaf (zbj (zaO (zaI (zap c_are_jobs hr (by decide) rfl (zaa (zac 2) (zaa (zac 8) (zaa (zac 6) zae))) zuR))) (zal (zax zcN)) zaE) (zaf (zbj (zaO (zaI (zap c_are_setups hr (by decide) rfl (zaa (zac 3) (zaa (zac 7) (zaa (zac 6) zae))) zuR))) (zal (zax zcN)) zaE) (zaf (zbj (zaO (zaI (zap c_are_links hr (by decide) rfl (zaa (zac 4) (zaa (zac 8) (zaa (zac 6) zae))) zuR))) (zal (zax zcN)) zaE) (zaf (zbj (zaO (zaI (zap c_are_stocks hr (by decide) rfl (zaa (zac 5) (zaa (zac 8) zae)) zuS))) (zal (zax zcN)) zaE) (zal (zax zht)))))))))))
def zdd (za4 : List D -> Option D) : List D -> Option D := zb3 0
  (zaC (zuw (zt5 (zxh zdA (zab (ztZ 0) (zab (zxk (.ty "list")) zak)))) (za5 (za6 (zaP (zu3 (ztZ 0)) (zaN 0) zw5 (zxh za4 (zab (ztZ 0) zak)) [none]))) zbH) (zaC (zuw (zt5 (zxh zdA (zab (ztZ 0) (zab (zxk (.ty "tuple")) zak)))) (za5 (zxh zj0 (zab (za6 (zaP (zu3 (ztZ 0)) (zaN 0) zw5 (zxh za4 (zab (ztZ 0) zak)) [none])) zak))) zbH) (za5 (ztZ 0))))
theorem zni : FnScope ["thing"] ["thing"] (zag zjj) := ⟨rfl, rfl, rfl, by decide +kernel, rfl, by decide +kernel, by decide +kernel⟩
theorem zmT {k : Nat} {za4 : List D -> Option D} (F : Dfn K mg "fresh" zjj) (B : Bn mg) (c_fresh : Cal J P w K mg base "fresh" 1 k za4) : Cal J P w K mg base "fresh" 1 (k + 1) (zdd za4) :=
 F.cal (k := k) zni (fun _ _ _ _ _ _ us hl => match us, hl with | [_], _ => rfl) fun f cdv A outer s H E hr =>
  (zaf (zbj (zaI (zaA zdk rfl B.z_isinstance (by rfl) (zaa (zac 0) (zaa (zfg rfl B.z_list (by rfl)) zae)))) (zal (zax (DO.de (zb4 rfl (CompScope.of rfl rfl) (FvOk.of (N' := ["part"]) (fv := [none]) rfl) (zaY (zac 0)) ⟨fun _ _ _ _ _ => ⟨(zas 0 (show (["part"] : List Str).Nodup by decide +kernel)), zaJ, (zap c_fresh hr (Nat.le_refl _) rfl (zaa (zac 0) zae) zuT)⟩⟩)))) zaE) (zaf (zbj (zaI (zaA zdk rfl B.z_isinstance (by rfl) (zaa (zac 0) (zaa (zfg rfl B.z_tuple (by rfl)) zae)))) (zal (zax (zcD zj1 rfl B.z_tuple (by rfl) (zaa (DO.de (zb4 rfl (CompScope.of rfl rfl) (FvOk.of (N' := ["part"]) (fv := [none]) rfl) (zaY (zac 0)) ⟨fun _ _ _ _ _ => ⟨(zas 0 (show (["part"] : List Str).Nodup by decide +kernel)), zaJ, (zap c_fresh hr (Nat.le_refl _) rfl (zaa (zac 0) zae) zuT)⟩⟩)) zae)))) zaE) (zal (zax (zac 0)))))
def zdS (za3 : List D -> Option D) (za4 : List D -> Option D) : List D -> Option D := zqH 3 "Shop"
  (zaC (zbs 8 (zxh za3 (zab (ztZ 1) (zab (ztZ 2) (zab (ztZ 3) (zab (ztZ 4) (zab (ztZ 5) (zab (ztZ 6) (zab (ztZ 7) zak))))))))) (zaC (zuw (zt5 (zxj zgt (ztZ 8) (zxk .non))) zuv zbH) (zaC (zeJ "Shop" "benches" 0 (zxh za4 (zab (ztZ 1) zak))) (zaC (zeJ "Shop" "steps" 0 (zxh za4 (zab (ztZ 2) zak))) (zaC (zeJ "Shop" "jobs" 0 (zxh za4 (zab (ztZ 3) zak))) (zaC (zeJ "Shop" "setups" 0 (zxh za4 (zab (ztZ 4) zak))) (zaC (zeJ "Shop" "links" 0 (zxh za4 (zab (ztZ 5) zak))) (zaC (zeJ "Shop" "stocks" 0 (zxh za4 (zab (ztZ 6) zak))) (zaC (zeJ "Shop" "horizon" 0 (ztZ 7)) (zaC (zeJ "Shop" "bench_by_name" 0 (zxh ziO (zab (za6 (zaP (zu3 (zgZ "Shop" "benches" 0)) (zaN 0) zw5 (zb7 (zuh (zab (zxj zu0 (ztZ 0) (zxk (.int 0))) (zab (ztZ 0) zak)))) [none])) zak))) (zaC (zeJ "Shop" "step_by_name" 0 (zxh ziO (zab (za6 (zaP (zu3 (zgZ "Shop" "steps" 0)) (zaN 0) zw5 (zb7 (zuh (zab (zxj zu0 (ztZ 0) (zxk (.int 0))) (zab (ztZ 0) zak)))) [none])) zak))) (zaC (zeJ "Shop" "setup_by_names" 0 (zxh zhs (zab (za6 (zaP (zu3 (zgZ "Shop" "setups" 0)) (zaN 0) zw5 (zb7 (zuh (zab (zuu (ztZ 0) zwZ (zw0 (zxk (.int 3)))) (zab (zxj zu0 (ztZ 0) (zxk (.int 3))) zak)))) [none])) zak))) (zaC (zqF "Shop" "job_by_step" 0) (zde (zu3 (zgZ "Shop" "jobs" 0)) (zaN 9) (zde (zu3 (zxj zu0 (ztZ 9) (zxk (.int 4)))) (zaN 10) (zc6 "Shop" "job_by_step" 0 (ztZ 10) (ztZ 9)))))))))))))))))
theorem zce : FnScope ["self", "benches", "steps", "jobs", "setups", "links", "stocks", "horizon", "part", "row", "step"] ["self", "benches", "steps", "jobs", "setups", "links", "stocks", "horizon"] (zag zcU) := ⟨rfl, rfl, rfl, by decide +kernel, rfl, by decide +kernel, by decide +kernel⟩
theorem zfk {za3 : List D -> Option D} {za4 : List D -> Option D} {C : Addr} (O : ClsOk J K mg "Shop" C) (F : DfnM K C "Shop" "__init__" "Shop.__init__" zcU) (B : Bn mg) (c_first_bad_part : Cal J P w K mg base "first_bad_part" 7 7 za3) (c_fresh : Cal J P w K mg base "fresh" 1 8 za4) (cf_Shop : CF J K "Shop" zez) : CalI J P w K mg base "Shop" 7 9 (zdS za3 za4) :=
 DfnM.calI (k := 8) O F zce (fun _ _ _ _ _ _ us hl => match us, hl with | [_, _, _, _, _, _, _, _], _ => rfl) fun f y cdv A outer s H E hr =>
  (zaf (zaZ 8 zce.nd (zap (c_first_bad_part.re y) hr (by decide) rfl (zaa (zac 1) (zaa (zac 2) (zaa (zac 3) (zaa (zac 4) (zaa (zac 5) (zaa (zac 6) (zaa (zac 7) zae))))))) zuN)) (zaf (zbj (zca zkx (zac 8) zht (zby _)) (zal zsY) zaE) (zaf (zda 0 (cf_Shop.re y) (.head _) (zap (c_fresh.re y) hr (by decide) rfl (zaa (zac 1) zae) zuT)) (zaf (zda 0 (cf_Shop.re y) (.tail _ (.head _)) (zap (c_fresh.re y) hr (by decide) rfl (zaa (zac 2) zae) zuT)) (zaf (zda 0 (cf_Shop.re y) (.tail _ (.tail _ (.head _))) (zap (c_fresh.re y) hr (by decide) rfl (zaa (zac 3) zae) zuT)) (zaf (zda 0 (cf_Shop.re y) (.tail _ (.tail _ (.tail _ (.head _)))) (zap (c_fresh.re y) hr (by decide) rfl (zaa (zac 4) zae) zuT)) (zaf (zda 0 (cf_Shop.re y) (.tail _ (.tail _ (.tail _ (.tail _ (.head _))))) (zap (c_fresh.re y) hr (by decide) rfl (zaa (zac 5) zae) zuT)) (zaf (zda 0 (cf_Shop.re y) (.tail _ (.tail _ (.tail _ (.tail _ (.tail _ (.head _)))))) (zap (c_fresh.re y) hr (by decide) rfl (zaa (zac 6) zae) zuT)) (zaf (zda 0 (cf_Shop.re y) (.tail _ (.tail _ (.tail _ (.tail _ (.tail _ (.tail _ (.head _))))))) (zac 7)) (zaf (zda 0 (cf_Shop.re y) (.tail _ (.tail _ (.tail _ (.tail _ (.tail _ (.tail _ (.tail _ (.head _)))))))) (zcD (zj3 rfl (zi8 hr)) rfl B.z_dict (by rfl) (zaa (DO.de (zb4 rfl (CompScope.of rfl rfl) (FvOk.of (N' := ["row"]) (fv := [none]) rfl) (zaY (zhX 0 (cf_Shop.re y) (.head _))) ⟨fun _ _ _ _ _ => ⟨(zas 0 (show (["row"] : List Str).Nodup by decide +kernel)), zaJ, (zb1 (zaa (zau (zac 0) zad) (zaa (zac 0) zae)))⟩⟩)) zae))) (zaf (zda 0 (cf_Shop.re y) (.tail _ (.tail _ (.tail _ (.tail _ (.tail _ (.tail _ (.tail _ (.tail _ (.head _))))))))) (zcD (zj3 rfl (zi8 hr)) rfl B.z_dict (by rfl) (zaa (DO.de (zb4 rfl (CompScope.of rfl rfl) (FvOk.of (N' := ["row"]) (fv := [none]) rfl) (zaY (zhX 0 (cf_Shop.re y) (.tail _ (.head _)))) ⟨fun _ _ _ _ _ => ⟨(zas 0 (show (["row"] : List Str).Nodup by decide +kernel)), zaJ, (zb1 (zaa (zau (zac 0) zad) (zaa (zac 0) zae)))⟩⟩)) zae))) (zaf (zda 0 (cf_Shop.re y) (.tail _ (.tail _ (.tail _ (.tail _ (.tail _ (.tail _ (.tail _ (.tail _ (.tail _ (.head _)))))))))) (zcD (zj2 rfl (zi8 hr)) rfl B.z_dict (by rfl) (zaa (DO.de (zb4 rfl (CompScope.of rfl rfl) (FvOk.of (N' := ["row"]) (fv := [none]) rfl) (zaY (zhX 0 (cf_Shop.re y) (.tail _ (.tail _ (.tail _ (.head _)))))) ⟨fun _ _ _ _ _ => ⟨(zas 0 (show (["row"] : List Str).Nodup by decide +kernel)), zaJ, (zb1 (zaa (zcg (zac 0) zcK (zcJ zad)) (zaa (zau (zac 0) zad) zae)))⟩⟩)) zae))) (zaf (zrZ 0 (cf_Shop.re y) (.tail _ (.tail _ (.tail _ (.tail _ (.tail _ (.tail _ (.tail _ (.tail _ (.tail _ (.tail _ (.head _)))))))))))) (zal (zcv PassesOwn.never rfl (zaY (zhX 0 (cf_Shop.re y) (.tail _ (.tail _ (.head _))))) (zas 9 zce.nd) (zal (zcv PassesOwn.never rfl (zaY (zau (zac 9) zad)) (zas 10 zce.nd) (zal (zms 0 (zi8 hr) (cf_Shop.re y) (.tail _ (.tail _ (.tail _ (.tail _ (.tail _ (.tail _ (.tail _ (.tail _ (.tail _ (.tail _ (.head _))))))))))) (zac 10) (zac 9))))))))))))))))))))
def zgS (zbc : List D -> Option D) : List D -> Option D := zb3 0
  (za5 (zxh zbc (zab (zxj zu0 (ztZ 0) (zxk (.int 0))) (zab (zxj zu0 (ztZ 0) (zxk (.int 1))) (zab (zxj zu0 (ztZ 0) (zxk (.int 2))) (zab (zxj zu0 (ztZ 0) (zxk (.int 3))) (zab (zxj zu0 (ztZ 0) (zxk (.int 4))) (zab (zxj zu0 (ztZ 0) (zxk (.int 5))) (zab (zxj zu0 (ztZ 0) (zxk (.int 6))) zak)))))))))
theorem ziv : FnScope ["_law_lists_here"] ["_law_lists_here"] (zag zeo) := ⟨rfl, rfl, rfl, by decide +kernel, rfl, by decide +kernel, by decide +kernel⟩
theorem zh7 {zbc : List D -> Option D} (F : Dfn K mg "_law_shop" zeo) (B : Bn mg) (c_Shop___init__ : CalI J P w K mg base "Shop" 7 9 zbc) : Cal J P w K mg base "_law_shop" 1 11 (zgS zbc) :=
 F.cal (k := 10) ziv (fun _ _ _ _ _ _ us hl => match us, hl with | [_], _ => rfl) fun f cdv A outer s H E hr =>
  (zal (zax (zqs c_Shop___init__ hr (by decide) rfl (zaa (zau (zac 0) zad) (zaa (zau (zac 0) zad) (zaa (zau (zac 0) zad) (zaa (zau (zac 0) zad) (zaa (zau (zac 0) zad) (zaa (zau (zac 0) zad) (zaa (zau (zac 0) zad) zae))))))) zuN)))
def zi6 (za4 : List D -> Option D) : List D -> Option (List D) := znn 0
  (zaC (zuw (zt5 (zxh zdA (zab (ztZ 0) (zab (zxk (.ty "list")) zak)))) (zjk (zaP (zu3 (ztZ 0)) (zaN 0) zw5 (zxh za4 (zab (ztZ 0) zak)) [none])) zbH) (zaC (zuw (zt5 (zxh zdA (zab (ztZ 0) (zab (zxk (.ty "tuple")) zak)))) (za5 (zxh zj0 (zab (za6 (zaP (zu3 (ztZ 0)) (zaN 0) zw5 (zxh za4 (zab (ztZ 0) zak)) [none])) zak))) zbH) (za5 (ztZ 0))))
theorem zkK : FnScope ["thing"] ["thing"] (zag zgc) := ⟨rfl, rfl, rfl, by decide +kernel, rfl, by decide +kernel, by decide +kernel⟩
theorem zjP {za4 : List D -> Option D} (F : Dfn K mg "fresh" zgc) (B : Bn mg) (c_fresh : Cal J P w K mg base "fresh" 1 8 za4) : CalO J P w K mg base "fresh" 1 9 (zi6 za4) :=
 F.calO (k := 8) zkK (fun _ _ _ _ _ _ us hl => match us, hl with | [_], _ => rfl) fun f cdv A outer s H E hr =>
  (zaf (zbj (zaI (zaA zdk rfl B.z_isinstance (by rfl) (zaa (zac 0) (zaa (zfg rfl B.z_list (by rfl)) zae)))) (zal (zjE (zb4 rfl (CompScope.of rfl rfl) (FvOk.of (N' := ["part"]) (fv := [none]) rfl) (zaY (zac 0)) ⟨fun _ _ _ _ _ => ⟨(zas 0 (show (["part"] : List Str).Nodup by decide +kernel)), zaJ, (zap c_fresh hr (by decide) rfl (zaa (zac 0) zae) zuT)⟩⟩))) zaE) (zaf (zbj (zaI (zaA zdk rfl B.z_isinstance (by rfl) (zaa (zac 0) (zaa (zfg rfl B.z_tuple (by rfl)) zae)))) (zal (zax (zcD zj1 rfl B.z_tuple (by rfl) (zaa (DO.de (zb4 rfl (CompScope.of rfl rfl) (FvOk.of (N' := ["part"]) (fv := [none]) rfl) (zaY (zac 0)) ⟨fun _ _ _ _ _ => ⟨(zas 0 (show (["part"] : List Str).Nodup by decide +kernel)), zaJ, (zap c_fresh hr (by decide) rfl (zaa (zac 0) zae) zuT)⟩⟩)) zae)))) zaE) (zal (zax (zac 0)))))
def zc1 (zbk : List D -> Option (List D)) : List D -> Option (List D) := znn 0
  (zjk (zvf zbk (zab (zxj zu0 (zxj zmD (zm5 "Shop" "bench_by_name" (ztZ 0)) (ztZ 1)) (zxk (.int 1))) zak)))
theorem zei : FnScope ["self", "bench"] ["self", "bench"] (zag zcq) := ⟨rfl, rfl, rfl, by decide +kernel, rfl, by decide +kernel, by decide +kernel⟩
theorem zd2 {zbk : List D -> Option (List D)} {C : Addr} (O : ClsOk J K mg "Shop" C) (F : DfnM K C "Shop" "breaks_of" "Shop.breaks_of" zcq) (B : Bn mg) (c_fresh_O : CalO J P w K mg base "fresh" 1 9 zbk) (cf_Shop : CF J K "Shop" zez) : CalMO J P w K mg base "Shop" "breaks_of" 2 10 (zc1 zbk) :=
 DfnM.calO (k := 9) O F zei (fun _ _ _ _ _ _ us hl => match us, hl with | [_, _], _ => rfl) fun f cdv A outer s H E hr =>
  (zal (zjE (zoL c_fresh_O hr (by decide) rfl (zaa (zau (zjI (zi8 hr) (ziP cf_Shop (.tail _ (.tail _ (.tail _ (.tail _ (.tail _ (.tail _ (.tail _ (.head _)))))))) (zac 0)) (zac 1)) zad) zae) zuT)))
def zdQ : List D -> Option D := zb3 0
  (za5 (zwp zeO (zm5 "Shop" "setup_by_names" (ztZ 0)) (zb7 (zuh (zab (ztZ 1) (zab (ztZ 2) (zab (ztZ 3) zak))))) (zxk (.int 0))))
theorem zfL : FnScope ["self", "bench", "first", "second"] ["self", "bench", "first", "second"] (zag zcS) := ⟨rfl, rfl, rfl, by decide +kernel, rfl, by decide +kernel, by decide +kernel⟩
theorem zfi {C : Addr} (O : ClsOk J K mg "Shop" C) (F : DfnM K C "Shop" "setup_of" "Shop.setup_of" zcS) (B : Bn mg) (cf_Shop : CF J K "Shop" zez) : CalM J P w K mg base "Shop" "setup_of" 4 1 (zdQ) :=
 DfnM.cal (k := 0) O F zfL (fun _ _ _ _ _ _ us hl => match us, hl with | [_, _, _, _], _ => rfl) fun f cdv A outer s H E hr =>
  (zal (zax (zks (zi8 hr) (ziP cf_Shop (.tail _ (.tail _ (.tail _ (.tail _ (.tail _ (.tail _ (.tail _ (.tail _ (.tail _ (.head _)))))))))) (zac 0)) (zb1 (zaa (zac 1) (zaa (zac 2) (zaa (zac 3) zae)))) zad)))
def zhz : List D -> Option D := zb3 1
  (zaC (zde (zu3 (ztZ 0)) (zaN 2) (zuw (zt5 (zxj zmh (ztZ 1) (zxj zu0 (ztZ 2) (zxk (.int 4))))) (za5 (ztZ 2)) zbH)) (za5 (zxk .non)))
theorem zf5 : FnScope ["_law_jobs_here", "_law_step", "_law_job_here"] ["_law_jobs_here", "_law_step"] (zag ze9) := ⟨rfl, rfl, rfl, by decide +kernel, rfl, by decide +kernel, by decide +kernel⟩
theorem ziZ (F : Dfn K mg "_law_job" ze9) (B : Bn mg)  : Cal J P w K mg base "_law_job" 2 1 (zhz) :=
 F.cal (k := 0) zf5 (fun _ _ _ _ _ _ us hl => match us, hl with | [_, _], _ => rfl) fun f cdv A outer s H E hr =>
  (zaf (zcv PassesOwn.never rfl (zaY (zac 0)) (zas 2 zf5.nd) (zal (zbj (zca (zoP (zi8 hr)) (zac 1) (zau (zac 2) zad) (by rfl)) (zal (zax (zac 2))) zaE))) (zal (zax zht)))
def zdy (zbk : List D -> Option (List D)) : List D -> Option (List D) := znn 0
  (zjk (zvf zbk (zab (zxj zu0 (zxj zmD (zm5 "Shop" "step_by_name" (ztZ 0)) (ztZ 1)) (zxk (.int 2))) zak)))
theorem ze0 : FnScope ["self", "step"] ["self", "step"] (zag zcI) := ⟨rfl, rfl, rfl, by decide +kernel, rfl, by decide +kernel, by decide +kernel⟩
theorem zeT {zbk : List D -> Option (List D)} {C : Addr} (O : ClsOk J K mg "Shop" C) (F : DfnM K C "Shop" "ways_of" "Shop.ways_of" zcI) (B : Bn mg) (c_fresh_O : CalO J P w K mg base "fresh" 1 9 zbk) (cf_Shop : CF J K "Shop" zez) : CalMO J P w K mg base "Shop" "ways_of" 2 10 (zdy zbk) :=
 DfnM.calO (k := 9) O F ze0 (fun _ _ _ _ _ _ us hl => match us, hl with | [_, _], _ => rfl) fun f cdv A outer s H E hr =>
  (zal (zjE (zoL c_fresh_O hr (by decide) rfl (zaa (zau (zjI (zi8 hr) (ziP cf_Shop (.tail _ (.tail _ (.tail _ (.tail _ (.tail _ (.tail _ (.tail _ (.tail _ (.head _))))))))) (zac 0)) (zac 1)) zad) zae) zuT)))
def zcd (zbw : List D -> Option D) : List D -> Option D := runN 0
  (zaC (zuw (zt5 (zxh zdA (zab (ztZ 0) (zab (zxk (.ty "list")) zak)))) (ziy (za6 (zaP (zu3 (ztZ 0)) (zaN 0) zw5 (zxh zbw (zab (ztZ 0) zak)) [none]))) zbH) (zaC (zuw (zt5 (zxh zdA (zab (ztZ 0) (zab (zxk (.ty "tuple")) zak)))) (ziy (zqR (za6 (zaP (zu3 (ztZ 0)) (zaN 0) zw5 (zxh zbw (zab (ztZ 0) zak)) [none])))) zbH) (ziy (zu8 (ztZ 0)))))
theorem zkL : FnScope ["thing"] ["thing"] (zag zgd) := ⟨rfl, rfl, rfl, by decide +kernel, rfl, by decide +kernel, by decide +kernel⟩
theorem zjQ {k : Nat} {zbw : List D -> Option D} (F : Dfn K mg "fresh" zgd) (B : Bn mg) (c_fresh_N : CalN J P w K mg base "fresh" 1 k zbw) : CalN J P w K mg base "fresh" 1 (k + 1) (zcd zbw) :=
 F.calN (k := k) zkL (fun _ _ _ _ _ _ us hl => match us, hl with | [_], _ => rfl) fun f cdv A outer s H E hr =>
  (zaf (zbj (zaI (zaA zdk rfl B.z_isinstance (by rfl) (zaa (zac 0) (zaa (zfg rfl B.z_list (by rfl)) zae)))) (zal (zhV (zr0 rfl (CompScope.of rfl rfl) (FvOk.of (N' := ["part"]) (fv := [none]) rfl) (zaY (zac 0)) ⟨fun _ _ _ _ _ => ⟨(zas 0 (show (["part"] : List Str).Nodup by decide +kernel)), zaJ, (zmy c_fresh_N hr (Nat.le_refl _) rfl (zaa (zac 0) zae) zuT)⟩⟩))) zaE) (zaf (zbj (zaI (zaA zdk rfl B.z_isinstance (by rfl) (zaa (zac 0) (zaa (zfg rfl B.z_tuple (by rfl)) zae)))) (zal (zhV (zn1 rfl B.z_tuple (zr0 rfl (CompScope.of rfl rfl) (FvOk.of (N' := ["part"]) (fv := [none]) rfl) (zaY (zac 0)) ⟨fun _ _ _ _ _ => ⟨(zas 0 (show (["part"] : List Str).Nodup by decide +kernel)), zaJ, (zmy c_fresh_N hr (Nat.le_refl _) rfl (zaa (zac 0) zae) zuT)⟩⟩)))) zaE) (zal (zhV (DE.dn (zac 0))))))
def zdR (zbw : List D -> Option D) : List D -> Option D := runN 0
  (ziy (zxh zbw (zab (zxj zmE (zm5 "Shop" "job_by_step" (ztZ 0)) (ztZ 1)) zak)))
theorem zfM : FnScope ["self", "step"] ["self", "step"] (zag zcT) := ⟨rfl, rfl, rfl, by decide +kernel, rfl, by decide +kernel, by decide +kernel⟩
theorem zfj {zbw : List D -> Option D} {C : Addr} (O : ClsOk J K mg "Shop" C) (F : DfnM K C "Shop" "job_of" "Shop.job_of" zcT) (B : Bn mg) (c_fresh_N : CalN J P w K mg base "fresh" 1 8 zbw) (cf_Shop : CF J K "Shop" zez) : CalMN J P w K mg base "Shop" "job_of" 2 9 (zdR zbw) :=
 DfnM.calN (k := 8) O F zfM (fun _ _ _ _ _ _ us hl => match us, hl with | [_, _], _ => rfl) fun f cdv A outer s H E hr =>
  (zal (zhV (zmy c_fresh_N hr (by decide) rfl (zaa (zn4 (zi8 hr) (ziP cf_Shop (.tail _ (.tail _ (.tail _ (.tail _ (.tail _ (.tail _ (.tail _ (.tail _ (.tail _ (.tail _ (.head _))))))))))) (zac 0)) (zac 1)) zae) zuT)))
def zef : List D -> Option D := zb3 0
  (za5 (zxj zu0 (zxj zmD (zm5 "Shop" "step_by_name" (ztZ 0)) (ztZ 1)) (zxk (.int 1))))
theorem zf6 : FnScope ["self", "step"] ["self", "step"] (zag zc5) := ⟨rfl, rfl, rfl, by decide +kernel, rfl, by decide +kernel, by decide +kernel⟩
theorem zfR {C : Addr} (O : ClsOk J K mg "Shop" C) (F : DfnM K C "Shop" "kind_of" "Shop.kind_of" zc5) (B : Bn mg) (cf_Shop : CF J K "Shop" zez) : CalM J P w K mg base "Shop" "kind_of" 2 1 (zef) :=
 DfnM.cal (k := 0) O F zf6 (fun _ _ _ _ _ _ us hl => match us, hl with | [_, _], _ => rfl) fun f cdv A outer s H E hr =>
  (zal (zax (zau (zjI (zi8 hr) (ziP cf_Shop (.tail _ (.tail _ (.tail _ (.tail _ (.tail _ (.tail _ (.tail _ (.tail _ (.head _))))))))) (zac 0)) (zac 1)) zad)))
def zdl (zbZ : List D -> Option D) (zaF : List D -> Option (List D)) (zaK : List D -> Option D) (zaT : List D -> Option D) : List D -> Option D := zb3 7
  (zaC (zde (zu3 (zxj zu0 (ztZ 1) (zxk (.int 1)))) (zcz 3 (zaH (zaN 2) (zaH (zaN 3) (zaH (zaN 4) zcy)))) (zaC (zbs 5 (zxh zbZ (zab (zxj zu0 (ztZ 1) (zxk (.int 2))) (zab (ztZ 2) zak)))) (zde (zu2 zgY (zab (zxk (.int 2)) zak)) (zaN 6) (zaC (zfv 7 (zfO "Shop" "ways_of" zaF (ztZ 0) (zab (ztZ 2) zak))) (zaC (zfN 8 (zdz "Shop" "job_of" zaK (ztZ 0) (zab (ztZ 2) zak))) (zaC (zuw (zvg 7 (zvh 8 (zuF (zt5 (zxj zuJ (ztZ 7) (ztZ 4))) (zuF (zt5 (zxj zuJ (zdz "Shop" "kind_of" zaT (ztZ 0) (zab (ztZ 2) zak)) (ztZ 3))) (zt5 (zxj zuJ (ztZ 8) (ztZ 5))))))) (za5 (zxk (.bl false))) zbH) (zaC (zdT 7 (zxk .non)) (zuw (zvh 8 (zt5 (zxj zgt (ztZ 8) (zxk .non)))) (zix 8 4 (zxk .non)) zbH)))))))) (za5 (zxk (.bl true))))
theorem zaQ : FnScope ["_law_shop_here", "_law_lists_here", "_law_name_here", "_law_kind", "_law_ways", "_law_job_here", "_law_turn", "_law_found", "_law_told"] ["_law_shop_here", "_law_lists_here"] (zag zcx) := ⟨rfl, rfl, rfl, by decide +kernel, rfl, by decide +kernel, by decide +kernel⟩
theorem zey {zbZ : List D -> Option D} {zaF : List D -> Option (List D)} {zaK : List D -> Option D} {zaT : List D -> Option D} (F : Dfn K mg "_law_steps_told" zcx) (B : Bn mg) (c__law_job : Cal J P w K mg base "_law_job" 2 1 zbZ) (c_Shop_ways_of_O : CalMO J P w K mg base "Shop" "ways_of" 2 10 zaF) (c_Shop_job_of_N : CalMN J P w K mg base "Shop" "job_of" 2 9 zaK) (c_Shop_kind_of : CalM J P w K mg base "Shop" "kind_of" 2 1 zaT) : Cal J P w K mg base "_law_steps_told" 2 11 (zdl zbZ zaF zaK zaT) :=
 F.cal (k := 10) zaQ (fun _ _ _ _ _ _ us hl => match us, hl with | [_, _], _ => rfl) fun f cdv A outer s H E hr =>
  (zaf (zcv PassesOwn.never rfl (zaY (zau (zac 1) zad)) (zea (n := 3) rfl (za8 (zas 2 zaQ.nd) (za8 (zas 3 zaQ.nd) (za8 (zas 4 zaQ.nd) zdb)))) (zaf (zaZ 5 zaQ.nd (zap c__law_job hr (by decide) rfl (zaa (zau (zac 1) zad) (zaa (zac 2) zae)) zuS)) (zal (zcv PassesOwn.never rfl (zcW rfl B.z_range (zaa zad zae)) (zas 6 zaQ.nd) (zaf (zdv 7 zaQ.nd (zmx c_Shop_ways_of_O hr (by decide) (zac 0) (zaa (zac 2) zae) zuT)) (zaf (zql 8 zaQ.nd (zqr c_Shop_job_of_N hr (by decide) (zac 0) (zaa (zac 2) zae) zuT)) (zaf (zbj (znY 7 (zoK 8 (DW.dt (zcC (zca (zeQ (znR hr)) (zac 7) (zac 4) (zby _)) (zcC (zca (zeQ (znR hr)) (zmI c_Shop_kind_of hr (by decide) (zac 0) (zaa (zac 2) zae) zuT) (zac 3) (zby _)) (zb9 (zca (zeQ (znR hr)) (zac 8) (zac 5) (zby _)))))))) (zal (zax zcY)) zaE) (zaf (zbI 7 zht) (zal (zbj (zoK 8 (zca zkx (zac 8) zht (zby _))) (zal (zqk 8 4 zht)) zaE)))))))))) (zal (zax zcY)))
def ztc (zav : List D -> Option D) (zbD : List D -> Option D) (zbQ : List D -> Option D) (zaM : List D -> Option (List D)) (za2 : List D -> Option D) (zaU : List D -> Option D) : List D -> Option D := zb3 10
  (zaC (zbs 1 (zxj zu0 (za6 (zuh (zab (zxk (.int 9)) (zab (zxk (.int 40)) (zab (zxj zpv (zxk (.int 10)) (zxk (.int 6))) (zab (zxj zbx (zxk (.int 1)) (zxj zcf (zxh zav (zab (ztZ 0) (zab (zxk (.int 20)) zak))) (zxk (.int 30)))) zak)))))) (zxj zcf (zxh zav (zab (ztZ 0) (zab (zxk (.int 21)) zak))) (zxk (.int 4))))) (zaC (zbs 2 (zxh zbD (zab (ztZ 0) (zab (zxj zbx (zxk (.int 1)) (zxj zcf (zxh zav (zab (ztZ 0) (zab (zxk (.int 22)) zak))) (zxk (.int 10)))) (zab (ztZ 1) (zab (zxk (.int 7)) zak)))))) (zaC (zbs 3 (zxh zbQ (zab (ztZ 2) zak))) (zaC (zbs 4 (zxh zhs (zab (za6 (zaP (zu3 (zxj zu0 (ztZ 2) (zxk (.int 3)))) (zaN 0) zw5 (zb7 (zuh (zab (zuu (ztZ 0) zwZ (zw0 (zxk (.int 3)))) (zab (zxj zu0 (ztZ 0) (zxk (.int 3))) zak)))) [none])) zak))) (zaC (zde (zu3 (zxj zu0 (ztZ 2) (zxk (.int 0)))) (zcz 2 (zaH (zaN 5) (zaH (zaN 6) zcy))) (zaC (zde (zu2 zgY (zab (zxk (.int 2)) zak)) (zaN 7) (zaC (zfv 8 (zfO "Shop" "breaks_of" zaM (ztZ 3) (zab (ztZ 5) zak))) (zaC (zuw (zvg 8 (zt5 (zxj zuJ (ztZ 8) (ztZ 6)))) (za5 (zxk (.bl false))) zbH) (zdT 8 (zb7 (zuh (zab (zxk (.int 0)) (zab (zxk (.int 1)) zak)))))))) (zde (zu1 (zxk (.str "pqrz"))) (zaN 9) (zde (zu1 (zxk (.str "pqrz"))) (zaN 10) (zaC (zbs 8 (zdz "Shop" "setup_of" za2 (ztZ 3) (zab (ztZ 5) (zab (ztZ 9) (zab (ztZ 10) zak))))) (zuw (zuF (zt5 (zxj zuJ (ztZ 8) (zwp zeO (ztZ 4) (zb7 (zuh (zab (ztZ 5) (zab (ztZ 9) (zab (ztZ 10) zak))))) (zxk (.int 0))))) (zt5 (zxh zdA (zab (ztZ 8) (zab (zxk (.ty "bool")) zak))))) (za5 (zxk (.bl false))) zbH)))))) (za5 (zxh zaU (zab (ztZ 3) (zab (ztZ 2) zak)))))))))
theorem zdu : FnScope ["_law_script", "_law_horizon", "_law_lists_here", "_law_shop_here", "_law_known", "_law_name_here", "_law_breaks", "_law_turn", "_law_found", "_law_first", "_law_second"] ["_law_script"] (zag zf7) := ⟨rfl, rfl, rfl, by decide +kernel, rfl, by decide +kernel, by decide +kernel⟩
theorem zqx {zav : List D -> Option D} {zbD : List D -> Option D} {zbQ : List D -> Option D} {zaM : List D -> Option (List D)} {za2 : List D -> Option D} {zaU : List D -> Option D} (B : Bn mg) (c__law_cell : Cal J P w K mg base "_law_cell" 2 1 zav) (c__law_lists : Cal J P w K mg base "_law_lists" 4 3 zbD) (c__law_shop : Cal J P w K mg base "_law_shop" 1 11 zbQ) (c_Shop_breaks_of_O : CalMO J P w K mg base "Shop" "breaks_of" 2 10 zaM) (c_Shop_setup_of : CalM J P w K mg base "Shop" "setup_of" 4 1 za2) (c__law_steps_told : Cal J P w K mg base "_law_steps_told" 2 11 zaU) (f : Addr) (cdv : Value) (A : Around) (outer : List Env) (s : Shared) (H : zxg) (E : zwV) (hr : Room 11 (A.deeper (envOfC "law" (zag zf7) s.heap.objs.size f cdv))) : DSs J (zih zvX P w K mg base ["_law_script", "_law_horizon", "_law_lists_here", "_law_shop_here", "_law_known", "_law_name_here", "_law_breaks", "_law_turn", "_law_found", "_law_first", "_law_second"] "law" (zag zf7) f cdv A outer s H E).nox (zaX zf7)
  (zaC (zbs 1 (zxj zu0 (za6 (zuh (zab (zxk (.int 9)) (zab (zxk (.int 40)) (zab (zxj zpv (zxk (.int 10)) (zxk (.int 6))) (zab (zxj zbx (zxk (.int 1)) (zxj zcf (zxh zav (zab (ztZ 0) (zab (zxk (.int 20)) zak))) (zxk (.int 30)))) zak)))))) (zxj zcf (zxh zav (zab (ztZ 0) (zab (zxk (.int 21)) zak))) (zxk (.int 4))))) (zaC (zbs 2 (zxh zbD (zab (ztZ 0) (zab (zxj zbx (zxk (.int 1)) (zxj zcf (zxh zav (zab (ztZ 0) (zab (zxk (.int 22)) zak))) (zxk (.int 10)))) (zab (ztZ 1) (zab (zxk (.int 7)) zak)))))) (zaC (zbs 3 (zxh zbQ (zab (ztZ 2) zak))) (zaC (zbs 4 (zxh zhs (zab (za6 (zaP (zu3 (zxj zu0 (ztZ 2) (zxk (.int 3)))) (zaN 0) zw5 (zb7 (zuh (zab (zuu (ztZ 0) zwZ (zw0 (zxk (.int 3)))) (zab (zxj zu0 (ztZ 0) (zxk (.int 3))) zak)))) [none])) zak))) (zaC (zde (zu3 (zxj zu0 (ztZ 2) (zxk (.int 0)))) (zcz 2 (zaH (zaN 5) (zaH (zaN 6) zcy))) (zaC (zde (zu2 zgY (zab (zxk (.int 2)) zak)) (zaN 7) (zaC (zfv 8 (zfO "Shop" "breaks_of" zaM (ztZ 3) (zab (ztZ 5) zak))) (zaC (zuw (zvg 8 (zt5 (zxj zuJ (ztZ 8) (ztZ 6)))) (za5 (zxk (.bl false))) zbH) (zdT 8 (zb7 (zuh (zab (zxk (.int 0)) (zab (zxk (.int 1)) zak)))))))) (zde (zu1 (zxk (.str "pqrz"))) (zaN 9) (zde (zu1 (zxk (.str "pqrz"))) (zaN 10) (zaC (zbs 8 (zdz "Shop" "setup_of" za2 (ztZ 3) (zab (ztZ 5) (zab (ztZ 9) (zab (ztZ 10) zak))))) (zuw (zuF (zt5 (zxj zuJ (ztZ 8) (zwp zeO (ztZ 4) (zb7 (zuh (zab (ztZ 5) (zab (ztZ 9) (zab (ztZ 10) zak))))) (zxk (.int 0))))) (zt5 (zxh zdA (zab (ztZ 8) (zab (zxk (.ty "bool")) zak))))) (za5 (zxk (.bl false))) zbH)))))) (za5 (zxh zaU (zab (ztZ 3) (zab (ztZ 2) zak))))))))) :=
  (zaf (zaZ 1 zdu.nd (zau (DO.de (zb0 (zaa zad (zaa zad (zaa (zr2 zad zad) (zaa (zbe zad (zbK (zap c__law_cell hr (by decide) rfl (zaa (zac 0) (zaa zad zae)) zuS) zad)) zae)))))) (zbK (zap c__law_cell hr (by decide) rfl (zaa (zac 0) (zaa zad zae)) zuS) zad))) (zaf (zaZ 2 zdu.nd (zap c__law_lists hr (by decide) rfl (zaa (zac 0) (zaa (zbe zad (zbK (zap c__law_cell hr (by decide) rfl (zaa (zac 0) (zaa zad zae)) zuS) zad)) (zaa (zac 1) (zaa zad zae)))) zuQ)) (zaf (zaZ 3 zdu.nd (zap c__law_shop hr (by decide) rfl (zaa (zac 2) zae) zuT)) (zaf (zaZ 4 zdu.nd (zcD (zj2 rfl (zi8 hr)) rfl B.z_dict (by rfl) (zaa (DO.de (zb4 rfl (CompScope.of rfl rfl) (FvOk.of (N' := ["_law_row"]) (fv := [none]) rfl) (zaY (zau (zac 2) zad)) ⟨fun _ _ _ _ _ => ⟨(zas 0 (show (["_law_row"] : List Str).Nodup by decide +kernel)), zaJ, (zb1 (zaa (zcg (zac 0) zcK (zcJ zad)) (zaa (zau (zac 0) zad) zae)))⟩⟩)) zae))) (zaf (zcv PassesOwn.never rfl (zaY (zau (zac 2) zad)) (zea (n := 2) rfl (za8 (zas 5 zdu.nd) (za8 (zas 6 zdu.nd) zdb))) (zaf (zcv PassesOwn.never rfl (zcW rfl B.z_range (zaa zad zae)) (zas 7 zdu.nd) (zaf (zdv 8 zdu.nd (zmx c_Shop_breaks_of_O hr (by decide) (zac 3) (zaa (zac 5) zae) zuT)) (zaf (zbj (znY 8 (zca (zeQ (znR hr)) (zac 8) (zac 6) (zby _))) (zal (zax zcY)) zaE) (zal (zbI 8 (zb1 (zaa zad (zaa zad zae)))))))) (zal (zcv PassesOwn.never rfl (zmB zcN) (zas 9 zdu.nd) (zal (zcv PassesOwn.never rfl (zmB zcN) (zas 10 zdu.nd) (zaf (zaZ 8 zdu.nd (zmI c_Shop_setup_of hr (by decide) (zac 3) (zaa (zac 5) (zaa (zac 9) (zaa (zac 10) zae))) zuR)) (zal (zbj (DW.dt (zcC (zca (zeQ (znR hr)) (zac 8) (zks (zi8 hr) (zac 4) (zb1 (zaa (zac 5) (zaa (zac 9) (zaa (zac 10) zae)))) zad) (zby _)) (zb9 (zaI (zaA zdk rfl B.z_isinstance (by rfl) (zaa (zac 8) (zaa (zfg rfl B.z_bool (by rfl)) zae))))))) (zal (zax zcY)) zaE))))))))) (zal (zax (zap c__law_steps_told hr (by decide) rfl (zaa (zac 3) (zaa (zac 2) zae)) zuS))))))))
end Law
end
section
namespace Law
open PySem L2 PySem.Spec PyProof.Rows
def zav : List D -> Option D := zgV
def zai : List D -> Option D := zeY
def zbn : List D -> Option D := zfH
def zar : List D -> Option D := zgT
def zbg : List D -> Option D := zee zai zbn zar
def zbC : List D -> Option D := zfG zai zar
def zbR : List D -> Option D := zgU zai zar
def zbo : List D -> Option D := zeX zai
def zbE : List D -> Option D := zfJ zai
def zbm : List D -> Option D := zeW zai zar
def zbD : List D -> Option D := zfI zav zbg zbC zbR zbo zbE zbm
def zbU : List D -> Option D := zfl
def zam : List D -> Option D := zeB zbU
def zan : List D -> Option D := zfm
def zbX : List D -> Option D := zfp zam zan
def zao : List D -> Option D := zgO
def zbB : List D -> Option D := zfF zbX zao
def zaw : List D -> Option D := zi5
def zbY : List D -> Option D := zfq zbB zaw zan
def zah : List D -> Option D := zcG
def zbl : List D -> Option D := zeU zbY zao zah
def zat : List D -> Option D := zeC zaw
def zcR : List D -> Option D := zid zam zat zan
def zco : List D -> Option D := zhx zcR zao zah
def zct : List D -> Option D := zgN zaw zan zco
def zbO : List D -> Option D := zgQ zct zao zah
def zc2 : List D -> Option D := zkB zaw zan zam zat zao
def zcp : List D -> Option D := zhy zc2 zao zah
def zbW : List D -> Option D := zfo zat zan zam zaw
def zbA : List D -> Option D := zfE zbW zao zah
def zcu : List D -> Option D := zgP zat zan zam
def zbP : List D -> Option D := zgR zcu zao zah
def zbG : List D -> Option D := zeD zam zat zan
def zbf : List D -> Option D := zeV zbG zao zah
def zbV : List D -> Option D := zfn zaw zan zam zbf
def zbz : List D -> Option D := zfD zbV zao zah
def za3 : List D -> Option D := zdx zam zbl zbO zcp zbA zbP zbz
def zdc : Nat -> List D -> Option D
 | 0 => fun _ => none
 | n + 1 => zdd (zdc n)
def za4 : List D -> Option D := zdc 8
def zbc : List D -> Option D := zdS za3 za4
def zbQ : List D -> Option D := zgS zbc
def zbk : List D -> Option (List D) := zi6 za4
def zaM : List D -> Option (List D) := zc1 zbk
def za2 : List D -> Option D := zdQ
def zbZ : List D -> Option D := zhz
def zaF : List D -> Option (List D) := zdy zbk
def zcc : Nat -> List D -> Option D
 | 0 => fun _ => none
 | n + 1 => zcd (zcc n)
def zbw : List D -> Option D := zcc 8
def zaK : List D -> Option D := zdR zbw
def zaT : List D -> Option D := zef
def zaU : List D -> Option D := zdl zbZ zaF zaK zaT
def zse : List D -> Option D := ztc zav zbD zbQ zaM za2 zaU
end Law
end
section
namespace Law
open PySem L2
theorem zwo : zi7 "int" "int" = some true := rfl
theorem zv0 : zi7 "int" "bool" = some false := rfl
theorem zvZ : zi7 "bool" "bool" = some true := rfl
theorem zwY : zi7 "list" "list" = some true := rfl
theorem zwR : zi7 "tuple" "list" = some false := rfl
theorem zwx : zi7 "tuple" "tuple" = some true := rfl
theorem zwD : zi7 "str" "list" = some false := rfl
theorem zwg : zi7 "str" "tuple" = some false := rfl
theorem zv8 : zi7 "int" "list" = some false := rfl
theorem zv7 : zi7 "int" "tuple" = some false := rfl
theorem zv6 : zi7 "bool" "list" = some false := rfl
theorem zv5 : zi7 "bool" "tuple" = some false := rfl
theorem zuW : zi7 "NoneType" "list" = some false := rfl
theorem zuV : zi7 "NoneType" "tuple" = some false := rfl
theorem zuo : (1 <= sizeLine) = True := by simp [sizeLine]
theorem zun : (1 + 1 <= sizeLine) = True := by simp [sizeLine]
theorem zum : (1 + 1 + 1 <= sizeLine) = True := by simp [sizeLine]
theorem zul : (1 + 1 + 1 + 1 <= sizeLine) = True := by simp [sizeLine]
theorem zuk : (1 + 1 + 1 + 1 + 1 <= sizeLine) = True := by simp [sizeLine]
theorem zuj : (1 + 1 + 1 + 1 + 1 + 1 <= sizeLine) = True := by simp [sizeLine]
theorem zui : (1 + 1 + 1 + 1 + 1 + 1 + 1 <= sizeLine) = True := by simp [sizeLine]
section
variable {x0 x1 x2 x3 x4 : D} {r : List D}
theorem zdP {α : Type} (l : List α) (n : Nat) : atI l (n : Int) = l[n]? := by
 unfold atI zuY
 rw [if_pos (by omega)]
 by_cases h : n < l.length
 ·rw [if_pos (by omega)]; simp
 ·rw [if_neg (by omega)]; simp; omega
theorem zjB : zu0 (.tup (x0 :: r)) (.int 0) = some x0 := zdP _ 0
theorem zle : zu0 (.tup (x0 :: x1 :: r)) (.int 1) = some x1 := zdP _ 1
theorem zqK : zu0 (.tup (x0 :: x1 :: x2 :: r)) (.int 2) = some x2 := zdP _ 2
theorem zsn : zu0 (.tup (x0 :: x1 :: x2 :: x3 :: r)) (.int 3) = some x3 := zdP _ 3
theorem zqJ : zu0 (.tup (x0 :: x1 :: x2 :: x3 :: x4 :: r)) (.int 4) = some x4 := zdP _ 4
end
theorem zqv {fe : zxe} {r : zaV} {f : D -> D} : ∀ {xs : List D} {a : Option Slot}, (∀ x ∈ xs, fe (some (.sh x) :: r) = some (f x)) -> zfP (zaN 0) zw5 fe xs (a :: r) = some (xs.map f)
 | [], _, _ => rfl
 | x :: xs, a, h => by
  have h1 := h x List.mem_cons_self
  have ih := zqv (xs := xs) (a := some (.sh x)) fun y hy => h y (List.mem_cons_of_mem _ hy)
  simp only [zfP, zaN, List.set_cons_zero, Option.bind_some, zw5, if_true, h1, ih, Option.map_some, List.map_cons]
theorem zmY : ∀ {l : List D}, (∀ x ∈ l, x = .bl true) -> ∃ bs : List Bool, zqM l = some bs /\ bs.all id = true
 | [], _ => ⟨[], rfl, rfl⟩
 | x :: r, h => by
  obtain ⟨bs, h1, h2⟩ := zmY (l := r) fun y hy => h y (List.mem_cons_of_mem _ hy)
  have hx := h x List.mem_cons_self
  subst hx
  exact ⟨true :: bs, by simp [zqM, h1], by simpa using h2⟩
theorem zci {fi : zw4} {fe : zxe} {fv : List (Option Nat)} {ρ r : zaV} {a : Option Slot} {xs : List D} (h1 : fi ρ = some xs) (h2 : xs.length <= sizeLine) (h3 : zev fv ρ = a :: r) (h : ∀ x ∈ xs, fe (some (.sh x) :: r) = some (.bl true)) :
  zxh zi4 (zab (za6 (zaP fi (zaN 0) zw5 fe fv)) zak) ρ = some (.bl true) := by
 have c := zqv (a := a) (f := fun _ => .bl true) h
 obtain ⟨bs, e1, e2⟩ := zmY (l := xs.map fun _ => D.bl true) (by simp)
 simp only [zxh, zab, zak, za6, zaP, h1, Option.bind_some, if_pos h2, h3, c, Option.map_some, zi4, e1]
 simpa using e2
theorem zbv {fi : zw4} {fe : zxe} {fv : List (Option Nat)} {ρ r : zaV} {a : Option Slot} {xs : List D} {f : D -> D} (h1 : fi ρ = some xs) (h2 : xs.length <= sizeLine) (h3 : zev fv ρ = a :: r) (h : ∀ x ∈ xs, fe (some (.sh x) :: r) = some (f x)) :
  za6 (zaP fi (zaN 0) zw5 fe fv) ρ = some (.lst (xs.map f)) := by
 simp only [za6, zaP, h1, Option.bind_some, if_pos h2, h3, zqv (a := a) h, Option.map_some]
theorem zbM {gg : zwL} {body : zxa} {xs : List D} {ρ : zaV} (I : Nat -> zaV -> Prop) (h0 : I 0 ρ) (hs : ∀ i x ρ, xs[i]? = some x -> I i ρ -> ∃ ρ1 ρ2, gg x ρ = some ρ1 /\ body ρ1 = some (.nx, ρ2) /\ I (i + 1) ρ2) :
  ∃ ρ', zkn gg body xs ρ = some (.nx, ρ') /\ I xs.length ρ' := by
 have key : ∀ (ys : List D) (k : Nat) (ρ : zaV), xs.drop k = ys -> I k ρ -> ∃ ρ', zkn gg body ys ρ = some (.nx, ρ') /\ I (k + ys.length) ρ' := by
  intro ys
  induction ys with
  | nil => intro k ρ _ hk; exact ⟨ρ, rfl, hk⟩
  | cons y r ih =>
   intro k ρ hd hk
   have hy : xs[k]? = some y := by
    have : (xs.drop k)[0]? = some y := by rw [hd]; rfl
    simpa using this
   obtain ⟨ρ1, ρ2, h1, h2, h3⟩ := hs k y ρ hy hk
   have hd' : xs.drop (k + 1) = r := by rw [← List.drop_drop, hd]; rfl
   obtain ⟨ρ', h4, h5⟩ := ih (k + 1) ρ2 hd' h3
   refine ⟨ρ', ?_, by rw [List.length_cons]; rwa [show k + 1 + r.length = k + (r.length + 1) by omega] at h5⟩
   simp only [zkn, h1, Option.bind_some, h2, h4]
 obtain ⟨ρ', h1, h2⟩ := key xs 0 ρ rfl h0
 exact ⟨ρ', h1, by rwa [Nat.zero_add] at h2⟩
theorem zsa : (2 : Int) ^ 62 = 4611686018427387904 := by decide +kernel
theorem zpj {i j : Int} (h : 0 <= i /\ i <= 1000000 /\ 0 <= j /\ j <= 1000000) : zpk [.int i, .int j] = some ((List.range (j - i).toNat).map fun k : Nat => D.int (i + k)) := by
 unfold zpk
 rw [zsa]
 exact if_pos ⟨by omega, by omega, by omega, by omega⟩
theorem zes {j : Int} (h : 0 <= j /\ j <= 1000000) : zgY [.int j] = some ((List.range j.toNat).map fun i : Nat => D.int (0 + i)) := by
 unfold zgY
 rw [zsa]
 exact if_pos ⟨by omega, by omega⟩
theorem zfz {g : List D -> Option (List D)} {fr : zw4} {ρ : zaV} {ds r : List D} (h1 : fr ρ = some ds) (h2 : g ds = some r) : zu2 g fr ρ = some r := by
 unfold zu2; rw [h1]; exact h2
theorem zay {g : D -> D -> Option D} {fa fb : zxe} {ρ : zaV} {x y z : D} (h1 : fa ρ = some x) (h2 : fb ρ = some y) (h3 : g x y = some z) : zxj g fa fb ρ = some z := by
 unfold zxj; rw [h1, Option.bind_some, h2, Option.bind_some]; exact h3
theorem za1 {g : List D -> Option D} {fr : zw4} {ρ : zaV} {ds : List D} {z : D} (h1 : fr ρ = some ds) (h2 : g ds = some z) : zxh g fr ρ = some z := by
 unfold zxh; rw [h1]; exact h2
theorem zaj {f : zxe} {fr : zw4} {ρ : zaV} {d : D} {ds : List D} (h1 : f ρ = some d) (h2 : fr ρ = some ds) : zab f fr ρ = some (d :: ds) := by
 unfold zab; rw [h1, Option.bind_some, h2]; rfl
theorem zaD {ρ : zaV} : zak ρ = some [] := rfl
theorem zol {n : Nat} {g : zxa} {ds : List D} {d : D} {ρ' : zaV} (h : g (ds.map (fun d => some (Slot.sh d)) ++ List.replicate n none) = some (.rt d, ρ')) : zb3 n g ds = some d := by
 unfold zb3; rw [h]; rfl
theorem zba {n : Nat} {g : zxa} {ds : List D} {d : D} (ρ : zaV) {ρ' : zaV} (e : ds.map (fun d => some (Slot.sh d)) ++ List.replicate n none = ρ) (h : g ρ = some (.rt d, ρ')) : zb3 n g ds = some d := by
 subst e; exact zol h
theorem zbb {f : zxe} {ρ : zaV} {d : D} (h : f ρ = some d) : za5 f ρ = some (.rt d, ρ) := by unfold za5; rw [h]; rfl
theorem zaG {f : zxe} {ρ : zaV} {b : Bool} (h : f ρ = some (.bl b)) : zt5 f ρ = some b := by unfold zt5; rw [h]; rfl
theorem zgx {A : zxe} {X E : zxa} {ρ : zaV} (hA : A ρ = some (.bl true)) : zaC (zuw (zck (zt5 A)) X zbH) E ρ = E ρ := by
 simp only [zaC, zuw, zck, zaG hA, Option.map_some, Option.bind_some, Bool.not_true, Bool.false_eq_true, if_false, zbH]
theorem zdN {A B : zxe} {X E : zxa} {ρ : zaV} (hA : A ρ = some (.bl true)) (hB : B ρ = some (.bl true)) : zaC (zuw (zuF (zck (zt5 A)) (zck (zt5 B))) X zbH) E ρ = E ρ := by
 simp only [zaC, zuw, zuF, zck, zaG hA, zaG hB, Option.map_some, Option.bind_some, Bool.not_true, Bool.false_eq_true, if_false, zbH]
theorem zrS {A B C : zxe} {X E : zxa} {ρ : zaV} (hA : A ρ = some (.bl true)) (hB : B ρ = some (.bl true)) (hC : C ρ = some (.bl true)) : zaC (zuw (zuF (zck (zt5 A)) (zuF (zck (zt5 B)) (zck (zt5 C)))) X zbH) E ρ = E ρ := by
 simp only [zaC, zuw, zuF, zck, zaG hA, zaG hB, zaG hC, Option.map_some, Option.bind_some, Bool.not_true, Bool.false_eq_true, if_false, zbH]
theorem zoT {A B : zxe} {ρ : zaV} (hA : A ρ = some (.bl true)) (hB : B ρ = some (.bl true)) : zed A B ρ = some (.bl true) := by
 simp only [zed, hA, hB, Option.bind_some]
theorem zaL {i : Nat} {f : zxe} {g : zxa} {ρ : zaV} {d : D} (h : f ρ = some d) : zaC (zbs i f) g ρ = g (ρ.set i (some (.sh d))) := by
 simp only [zaC, zbs, h, Option.map_some, Option.bind_some]
theorem zlg (i : Int) : zbU [.int i] = some (.bl true) := by
 simp only [zbU, zfl, zb3, za5, zed, zsl, zxh, zab, zak, ztZ, zxk, zdA, zt3, List.map_cons, List.map_nil, List.cons_append, List.nil_append, List.replicate, List.getElem?_cons_zero, Option.bind_some, Option.map_some, Bool.not_false, zwo, zv0]
theorem zbt (i a b : Int) (h : a <= i /\ i <= b) : zam [.int i, .int a, .int b] = some (.bl true) := by
 simp only [zam, zeB, zlg, zb3, za5, zed, zxh, zab, zak, ztZ, zve, zuU, List.map_cons, List.map_nil, List.cons_append, List.nil_append, List.replicate, List.getElem?_cons_zero, List.getElem?_cons_succ, Option.bind_some, Option.map_some, decide_eq_true h.1, decide_eq_true h.2]
theorem zc8 (l : List D) (a b : Int) (h : a <= l.length /\ (l.length : Int) <= b) : zao [.lst l, .int a, .int b] = some (.bl true) := by
 simp only [zao, zgO, zb3, za5, zed, zxh, zab, zak, ztZ, zxk, zve, zdA, zt3, zdt, zuU, List.map_cons, List.map_nil, List.cons_append, List.nil_append, List.replicate, List.getElem?_cons_zero, List.getElem?_cons_succ, Option.bind_some, Option.map_some, zwY, decide_eq_true h.1, decide_eq_true h.2]
theorem zfV (l : List D) (n : Int) (h : (l.length : Int) = n) : zan [.tup l, .int n] = some (.bl true) := by
 simp only [zan, zfm, zb3, za5, zed, zxh, zab, zak, ztZ, zxk, zxj, zdA, zt3, zdt, zvb, zva, List.map_cons, List.map_nil, List.cons_append, List.nil_append, List.replicate, List.getElem?_cons_zero, List.getElem?_cons_succ, Option.bind_some, Option.map_some, zwx, decide_eq_true h]
section
variable {a b c d e : D}
theorem zsi : zan [.tup [a, b], .int 2] = some (.bl true) := zfV _ _ rfl
theorem zte : zan [.tup [a, b, c], .int 3] = some (.bl true) := zfV _ _ rfl
theorem ztv : zan [.tup [a, b, c, d], .int 4] = some (.bl true) := zfV _ _ rfl
theorem ztd : zan [.tup [a, b, c, d, e], .int 5] = some (.bl true) := zfV _ _ rfl
end
def zvc (p : Int × Int) : D := .tup [.int p.1, .int p.2]
theorem zoc (p : Int × Int) (h : Int) (h1 : 0 <= p.1) (h2 : p.1 < p.2) (h3 : p.2 <= h) : zbX [zvc p, .int h] = some (.bl true) := by
 simp only [zbX, zfp, zvc, zb3, zaC, zuw, za5, zbH, zuF, zck, zt5, zxh, zab, zak, ztZ, zxk, zxj, zuM, zjB, zle, List.map_cons, List.map_nil, List.cons_append, List.nil_append, List.replicate, List.getElem?_cons_zero, List.getElem?_cons_succ, Option.bind_some, Option.map_some, if_false, Bool.not_true, Bool.false_eq_true, zsi, zbt p.1 0 h ⟨h1, by omega⟩, zbt p.2 0 h ⟨by omega, h3⟩, decide_eq_true h2]
def zwh (c : Nat) : Bool := !zuL ⟨#[c]⟩ "a" && !zuL "z" ⟨#[c]⟩
theorem zs8 {c : Nat} (h : zwh c = true) : c <= 122 := by
 have z : ("z" : Str) = ⟨#[122]⟩ := by decide +kernel
 unfold zwh zuL at h
 rw [z] at h
 simp only [Bool.and_eq_true, Bool.not_eq_true', decide_eq_false_iff_not] at h
 have h2 := h.2
 rcases Nat.lt_or_ge 122 c with q | q
 ·exact absurd (show ([122] : List Nat) < [c] from List.Lex.rel q) h2
 ·exact q
theorem zn8 (c : Nat) (r : zaV) : zve zuU zuU (zxk (.str "a")) (ztZ 0) (zxk (.str "z")) (some (.sh (.str ⟨#[c]⟩)) :: r) = some (.bl (zwh c)) := by
 simp only [zve, zxk, ztZ, List.getElem?_cons_zero, Option.bind_some, zuU, zwh]
 cases zuL ⟨#[c]⟩ "a" <;> simp
def zaR (x : Str) : Bool := decide (1 <= x.length) && decide (x.length <= 8) && x.cps.toList.all zwh
theorem zlS {x : Str} (h : zaR x = true) : 1 <= x.length /\ x.length <= 8 := by
 unfold zaR at h
 simp only [Bool.and_eq_true, decide_eq_true_eq] at h
 exact h.1
theorem zkg {x : Str} (h : zaR x = true) : ∀ c ∈ x.cps.toList, zwh c = true := by
 unfold zaR at h
 simp only [Bool.and_eq_true, List.all_eq_true] at h
 exact h.2
theorem zdM {x : Str} (h : zaR x = true) : zaw [.str x] = some (.bl true) := by
 obtain ⟨h1, h2⟩ := zlS h
 have hz : x.length <= sizeLine := by unfold sizeLine; omega
 have hl : (x.cps.toList.map fun c => D.str ⟨#[c]⟩).length <= sizeLine := by simpa [Str.length] using hz
 have e1 : decide ((1 : Int) <= (x.length : Nat)) = true := decide_eq_true (by omega)
 have e2 : decide (((x.length : Nat) : Int) <= 8) = true := decide_eq_true (by omega)
 have ha := zci (fi := zu1 (ztZ 0)) (fe := zve zuU zuU (zxk (.str "a")) (ztZ 0) (zxk (.str "z"))) (fv := [none]) (ρ := [some (.sh (.str x))]) (r := []) (a := none) (xs := x.cps.toList.map fun c => D.str ⟨#[c]⟩)
  (by simp [zu1, ztZ, zls]) hl rfl (fun y hy => by
   obtain ⟨c, hc, rfl⟩ := List.mem_map.mp hy
   rw [zn8, zkg h c hc])
 refine zol (ρ' := [some (.sh (.str x))]) ((zdN ?_ ?_).trans (zbb ha))
 ·rfl
 ·show zve zuU zuU (zxk (.int 1)) (zxh zdt (zab (ztZ 0) zak)) (zxk (.int 8)) [some (.sh (.str x))] = _
  simp only [zxh, zab, zak, ztZ, zxk, zve, zdt, zuU, List.getElem?_cons_zero, Option.bind_some, Option.map_some, if_pos hz, e1, e2]
theorem zfW {x : Str} (h : zaR x = true) : PyData.strOk x = true := by
 unfold PyData.strOk
 rw [Array.all_eq_true']
 intro c hc
 have := zs8 (zkg h c (by simpa using hc))
 exact decide_eq_true (by omega)
theorem zgg : ∀ (ns : List Str), zig (ns.map D.str) = some (ns.map PyData.str)
 | [] => by simp [zig]
 | x :: r => by simp [zig, zuD, zgg r]
theorem zdW : ∀ {ns : List Str}, (∀ x ∈ ns, zaR x = true) -> PyData.canLayAll0 (ns.map PyData.str) = true
 | [], _ => by simp [PyData.canLayAll0]
 | x :: r, h => by
  simp only [List.map_cons, PyData.canLayAll0, PyData.canLay0, zfW (h x List.mem_cons_self), Bool.true_and]
  exact zdW fun y hy => h y (List.mem_cons_of_mem _ hy)
theorem zkA (x : Str) : ∀ (ns : List Str), ((ns.map PyData.str).any fun z => PyData.eqv z (.str x)) = decide (x ∈ ns)
 | [] => by simp
 | y :: r => by
  have ih := zkA x r
  rw [List.map_cons, List.any_cons, ih]
  simp only [PyData.eqv]
  by_cases e : y = x
  ·subst e; simp
  ·have : x ≠ y := fun z => e z.symm
   simp [e, this]
theorem zmg {x : Str} {ns : List Str} (hx : zaR x = true) (hn : ∀ y ∈ ns, zaR y = true) : zmh (.str x) (.lst (ns.map D.str)) = some (.bl (decide (x ∈ ns))) := by
 have sh : SeqAt.shaped (.str x) = true := by simp [SeqAt.shaped, PyData.canLay0, zfW hx, PyData.depth]
 simp only [zmh, zu5, zuD, zgg, Option.map_some, Option.bind_some, sh, zdW hn, and_self, if_true, zkA]
theorem zdf {x : Str} {ns : List Str} (hx : x ∈ ns) (hn : ∀ y ∈ ns, zaR y = true) : zat [.str x, .lst (ns.map D.str)] = some (.bl true) := by
 simp only [zat, zeC, zb3, za5, zed, zxh, zab, zak, ztZ, zxj, List.map_cons, List.map_nil, List.cons_append, List.nil_append, List.replicate, List.getElem?_cons_zero, List.getElem?_cons_succ, Option.bind_some, Option.map_some, zdM (hn x hx), zmg (hn x hx) hn, decide_eq_true hx]
theorem zkt {κ : Type} [DecidableEq κ] {l : List κ} (h : l.Nodup) : ST.dd l = l := by
 have key : ∀ (l a : List κ), (a ++ l).Nodup -> l.foldl (fun a k => if k ∈ a then a else a ++ [k]) a = a ++ l := by
  intro l
  induction l with
  | nil => intro a _; simp
  | cons x r ih =>
   intro a hn
   have hx : x ∉ a := by
    intro z
    rw [List.nodup_append] at hn
    exact hn.2.2 x z x List.mem_cons_self rfl
   rw [List.foldl_cons, if_neg hx, ih (a ++ [x]) (by simpa using hn)]
   simp
 simpa [ST.dd] using key l [] (by simpa using h)
theorem zdX : ∀ (ns : List Str), zff (ns.map D.str) = some (ns.map Sum.inr)
 | [] => by simp [zff]
 | x :: r => by simp [zff, zm6, zdX r]
theorem zcj {ns : List Str} (h : ns.Nodup) (hl : ns.length <= 300) : zah [.lst (ns.map D.str)] = some (.bl true) := by
 have hd : (ns.map (Sum.inr : Str -> zvK)).Nodup := List.Pairwise.map _ (fun a b hab z => hab (Sum.inr.inj z)) h
 simp only [zah, zcG, zb3, za5, zxh, zab, zak, ztZ, zwE, zxj, zdt, zvb, zva, List.map_cons, List.map_nil, List.cons_append, List.nil_append, List.replicate, List.getElem?_cons_zero, Option.bind_some, Option.map_some, zfb, List.length_map, if_pos hl, zdX, zkt hd]
 simp
theorem zfr : ∀ (ts : List (List Str)), zeg (ts.map fun t => .tup (t.map D.str)) = some (ts.map fun t => t.map Sum.inr)
 | [] => by simp [zeg]
 | t :: r => by simp [zeg, zdX, zfr r]
theorem zf0 {ts : List (List Str)} (h : ts.Nodup) (hl : ts.length <= 300) : zah [.lst (ts.map fun t => .tup (t.map D.str))] = some (.bl true) := by
 have inj : ∀ a b : List Str, a.map (Sum.inr : Str -> zvK) = b.map Sum.inr -> a = b := fun a b z => (List.map_inj_right (fun x y q => Sum.inr.inj q)).mp z
 have hd : (ts.map fun t => t.map (Sum.inr : Str -> zvK)).Nodup := List.Pairwise.map _ (fun a b hab z => hab (inj a b z)) h
 cases ts with
 | nil => simp only [zah, zcG, zb3, za5, zxh, zab, zak, ztZ, zwE, zxj, zdt, zvb, zva, List.map_cons, List.map_nil, List.cons_append, List.nil_append, List.replicate, List.getElem?_cons_zero, Option.bind_some, Option.map_some, List.length_nil, zfb, zff, ST.dd]; simp
 | cons t r =>
  have e : zff ((t :: r).map fun t => D.tup (t.map D.str)) = none := by simp [zff, zm6]
  simp only [zah, zcG, zb3, za5, zxj, zwE, ztZ, List.map_cons, List.map_nil, List.cons_append, List.nil_append, List.replicate, List.getElem?_cons_zero, Option.bind_some, zfb, zxh, zab, zak, zdt, Option.map_some]
  rw [if_pos (by simpa using hl)]
  have e' := e
  rw [List.map_cons] at e'
  rw [e']
  have t' := zfr (t :: r)
  rw [List.map_cons] at t'
  rw [t']
  rw [Option.map_some, zkt hd]
  simp [zvb, zva]
end Law
end
section
namespace Law
open PySem L2
structure BenchT where
 nm : Str
 br : List (Int × Int)
structure StepT where
 nm : Str
 kd : Str
 ws : List (Str × Int)
structure JobT where
 nm : Str
 ea : Int
 du : Int
 od : Bool
 ms : List Str
structure SetT where
 b : Str
 p : Str
 q : Str
 n : Int
structure LinkT where
 a : Str
 b : Str
 g : Int
structure StockT where
 nm : Str
 lo : Int
 hi : Int
 tk : List (Str × Int)
 pt : List (Str × Int)
def zw2 (w : Str × Int) : D := .tup [.str w.1, .int w.2]
def zaS (b : BenchT) : D := .tup [.str b.nm, .lst (b.br.map zvc)]
def za0 (s : StepT) : D := .tup [.str s.nm, .str s.kd, .lst (s.ws.map zw2)]
def zbr (j : JobT) : D := .tup [.str j.nm, .int j.ea, .int j.du, .bl j.od, .lst (j.ms.map D.str)]
def zec (u : SetT) : D := .tup [.str u.b, .str u.p, .str u.q, .int u.n]
def zcL (l : LinkT) : D := .tup [.str l.a, .str l.b, .int l.g]
def zb2 (k : StockT) : D := .tup [.str k.nm, .int k.lo, .int k.hi, .lst (k.tk.map zw2), .lst (k.pt.map zw2)]
structure GoodB (h : Int) (b : BenchT) : Prop where
 nm : zaR b.nm = true
 len : b.br.length <= 10
 iv : ∀ p ∈ b.br, 0 <= p.1 /\ p.1 < p.2 /\ p.2 <= h
 gap : ∀ (i : Nat) p q, b.br[i]? = some p -> b.br[i + 1]? = some q -> p.2 < q.1
structure GoodS (bn : List Str) (h : Int) (s : StepT) : Prop where
 nm : zaR s.nm = true
 kd : zaR s.kd = true
 l1 : 1 <= s.ws.length
 l4 : s.ws.length <= 4
 ws : ∀ w ∈ s.ws, w.1 ∈ bn /\ 1 <= w.2 /\ w.2 <= h
 nd : (s.ws.map (·.1)).Nodup
structure GoodJ (sn : List Str) (h : Int) (j : JobT) : Prop where
 nm : zaR j.nm = true
 ea : 0 <= j.ea /\ j.ea <= h
 du : 0 <= j.du /\ j.du <= h
 l1 : 1 <= j.ms.length
 ln : j.ms.length <= sn.length
 ms : ∀ m ∈ j.ms, m ∈ sn
structure GoodU (bn : List Str) (h : Int) (u : SetT) : Prop where
 b : u.b ∈ bn
 p : zaR u.p = true
 q : zaR u.q = true
 n : 1 <= u.n /\ u.n <= h
structure GoodL (sn : List Str) (h : Int) (l : LinkT) : Prop where
 a : l.a ∈ sn
 b : l.b ∈ sn
 ne : l.a ≠ l.b
 g : 0 <= l.g /\ l.g <= h
structure GoodA (sn : List Str) (am : List (Str × Int)) : Prop where
 ln : am.length <= sn.length
 ws : ∀ w ∈ am, w.1 ∈ sn /\ 1 <= w.2 /\ w.2 <= 1000000
 nd : (am.map (·.1)).Nodup
structure GoodK (sn : List Str) (k : StockT) : Prop where
 nm : zaR k.nm = true
 lo : 0 <= k.lo /\ k.lo <= k.hi
 hi : 0 <= k.hi /\ k.hi <= 1000000
 tk : GoodA sn k.tk
 pt : GoodA sn k.pt
structure Good (bs : List BenchT) (ss : List StepT) (js : List JobT) (us : List SetT) (ls : List LinkT) (ks : List StockT) (hz : Int) : Prop where
 hh : 1 <= hz /\ hz <= 1000000
 bl : 1 <= bs.length /\ bs.length <= 8
 b : ∀ x ∈ bs, GoodB hz x
 bn : (bs.map (·.nm)).Nodup
 sl : 1 <= ss.length /\ ss.length <= 40
 s : ∀ x ∈ ss, GoodS (bs.map (·.nm)) hz x
 sn : (ss.map (·.nm)).Nodup
 jl : js.length <= 40
 j : ∀ x ∈ js, GoodJ (ss.map (·.nm)) hz x
 jn : (js.map (·.nm)).Nodup
 jm : (js.flatMap (·.ms)).Nodup
 ul : us.length <= 100
 u : ∀ x ∈ us, GoodU (bs.map (·.nm)) hz x
 un : (us.map fun u => [u.b, u.p, u.q]).Nodup
 ll : ls.length <= 100
 l : ∀ x ∈ ls, GoodL (ss.map (·.nm)) hz x
 ln : (ls.map fun l => [l.a, l.b]).Nodup
 kl : ks.length <= 6
 k : ∀ x ∈ ks, GoodK (ss.map (·.nm)) x
 kn : (ks.map (·.nm)).Nodup
theorem zuZ (l : List D) (n : Nat) : zu0 (.lst l) (.int (n : Int)) = l[n]? := zdP l n
theorem zug {n k : Nat} (h : n <= k) (hk : k <= 1000) : n <= sizeLine := by unfold sizeLine; omega
section
variable {h : Int} {bn sn : List Str}
theorem zrU {br : List (Int × Int)} (len : br.length <= 10) (gap : ∀ (i : Nat) p q, br[i]? = some p -> br[i + 1]? = some q -> p.2 < q.1) :
  zxh zi4 (zab (za6 (zaP (zu2 zpk (zab (zxk (.int 1)) (zab (zxh zdt (zab (ztZ 0) zak)) zak))) (zaN 0) zw5 (zxj zuM (zxj zu0 (zxj zu0 (ztZ 1) (zxj zog (ztZ 0) (zxk (.int 1)))) (zxk (.int 1))) (zxj zu0 (zxj zu0 (ztZ 1) (ztZ 0)) (zxk (.int 0)))) [none, some 0])) zak) [some (.sh (.lst (br.map zvc))), some (.sh (.int h))] = some (.bl true) := by
 have e0 : zu2 zpk (zab (zxk (.int 1)) (zab (zxh zdt (zab (ztZ 0) zak)) zak)) [some (.sh (.lst (br.map zvc))), some (.sh (.int h))] = some ((List.range (((br.map zvc).length : Int) - 1).toNat).map fun k : Nat => D.int (1 + k)) := by
  exact zfz rfl (zpj (i := 1) (j := ((br.map zvc).length : Nat)) (by rw [List.length_map]; omega))
 refine zci (r := [some (.sh (.lst (br.map zvc)))]) (a := none) e0 ?_ rfl fun x hx => ?_
 ·simp only [List.length_map, List.length_range]
  exact zug (k := 10) (by omega) (by decide)
 ·obtain ⟨k, hk, rfl⟩ := List.mem_map.mp hx
  rw [List.mem_range, List.length_map] at hk
  have hk1 : k < br.length := by omega
  have hk2 : k + 1 < br.length := by omega
  have e1 : br[k]? = some br[k] := by simp [hk1]
  have e2 : br[k + 1]? = some br[k + 1] := by simp [hk2]
  have g := gap k _ _ e1 e2
  have a1 : zu0 (.lst (br.map zvc)) (.int (1 + (k : Int) - 1)) = some (zvc br[k]) := by
   have : (1 + (k : Int) - 1) = ((k : Nat) : Int) := by omega
   rw [this, zuZ, List.getElem?_map, e1]; rfl
  have a2 : zu0 (.lst (br.map zvc)) (.int (1 + (k : Int))) = some (zvc br[k + 1]) := by
   have : (1 + (k : Int)) = ((k + 1 : Nat) : Int) := by omega
   rw [this, zuZ, List.getElem?_map, e2]; rfl
  simp only [ztZ, zxk, zxj, zuM, zog, List.getElem?_cons_zero, List.getElem?_cons_succ, Option.bind_some, a1, a2]
  simp only [zvc, zjB, zle, Option.bind_some, decide_eq_true g]
theorem zmW {br : List (Int × Int)} (len : br.length <= 10) (iv : ∀ p ∈ br, 0 <= p.1 /\ p.1 < p.2 /\ p.2 <= h) (gap : ∀ (i : Nat) p q, br[i]? = some p -> br[i + 1]? = some q -> p.2 < q.1) :
  zbB [.lst (br.map zvc), .int h] = some (.bl true) := by
 refine zba [some (.sh (.lst (br.map zvc))), some (.sh (.int h))] rfl ((zdN ?_ (zci (r := [some (.sh (.int h))]) (a := none) (xs := br.map zvc) rfl (by rw [List.length_map]; exact zug len (by decide)) rfl fun x hx => ?_)).trans (zbb (zrU len gap)))
 ·exact zc8 _ 0 10 ⟨by omega, by rw [List.length_map]; omega⟩
 ·obtain ⟨p, hp, rfl⟩ := List.mem_map.mp hx
  obtain ⟨h1, h2, h3⟩ := iv p hp
  exact zoc p h h1 h2 h3
theorem zod {b : BenchT} (g : GoodB h b) : zbY [zaS b, .int h] = some (.bl true) := by
 simp only [zbY, zfq, zaS, zb3, za5, zed, zxh, zab, zak, ztZ, zxk, zxj, zjB, zle, List.map_cons, List.map_nil, List.cons_append, List.nil_append, List.replicate, List.getElem?_cons_zero, List.getElem?_cons_succ, Option.bind_some, Option.map_some, zsi, zdM g.nm, zmW g.len g.iv g.gap]
theorem zcO {α : Type} {f : α -> D} {nm : α -> Str} {xs : List α} {i : Nat} {ρ : zaV} {fv : List (Option Nat)} (hf : ∀ x, ∃ r, f x = .tup (.str (nm x) :: r)) (h1 : ztZ i ρ = some (.lst (xs.map f))) (h2 : xs.length <= sizeLine) (h3 : zev fv ρ = [none]) :
  za6 (zaP (zu3 (ztZ i)) (zaN 0) zw5 (zxj zu0 (ztZ 0) (zxk (.int 0))) fv) ρ = some (.lst ((xs.map nm).map D.str)) := by
 have hc := zbv (fi := zu3 (ztZ i)) (fe := zxj zu0 (ztZ 0) (zxk (.int 0))) (fv := fv) (ρ := ρ) (r := []) (a := none) (xs := xs.map f) (f := fun d => match d with | .tup (x :: _) => x | _ => .non) (by unfold zu3; rw [h1]; rfl) (by rw [List.length_map]; exact h2) h3 (fun x hx => by
  obtain ⟨y, _, rfl⟩ := List.mem_map.mp hx
  obtain ⟨r, e⟩ := hf y
  simp only [zxj, ztZ, zxk, List.getElem?_cons_zero, Option.bind_some, e, zjB])
 rw [hc]
 congr 2
 rw [List.map_map, List.map_map]
 refine List.map_congr_left fun x _ => ?_
 obtain ⟨r, e⟩ := hf x
 simp [e]
theorem zla {bs : List BenchT} (l1 : 1 <= bs.length) (l8 : bs.length <= 8) (g : ∀ x ∈ bs, GoodB h x) (nd : (bs.map (·.nm)).Nodup) : zbl [.lst (bs.map zaS), .int h] = some (.bl true) := by
 refine zba [some (.sh (.lst (bs.map zaS))), some (.sh (.int h))] rfl ((zdN ?_ (zci (r := [some (.sh (.int h))]) (a := none) (xs := bs.map zaS) rfl (by rw [List.length_map]; exact zug l8 (by decide)) rfl fun x hx => ?_)).trans (zbb ?_))
 ·exact zc8 _ 1 8 ⟨by rw [List.length_map]; omega, by rw [List.length_map]; omega⟩
 ·obtain ⟨p, hp, rfl⟩ := List.mem_map.mp hx
  exact zod (g p hp)
 ·have := zcO (i := 0) (fv := [none]) (ρ := [some (.sh (.lst (bs.map zaS))), some (.sh (.int h))]) (f := zaS) (nm := (·.nm)) (xs := bs) (fun x => ⟨_, rfl⟩) rfl (zug l8 (by decide)) rfl
  simp only [zxh, zab, zak, this, Option.bind_some, Option.map_some]
  exact zcj nd (by rw [List.length_map]; omega)
theorem zqO {w : Str × Int} (hb : ∀ y ∈ bn, zaR y = true) (g : w.1 ∈ bn /\ 1 <= w.2 /\ w.2 <= h) : zcR [zw2 w, .lst (bn.map D.str), .int h] = some (.bl true) := by
 simp only [zcR, zid, zw2, zb3, za5, zed, zxh, zab, zak, ztZ, zxk, zxj, zjB, zle, List.map_cons, List.map_nil, List.cons_append, List.nil_append, List.replicate, List.getElem?_cons_zero, List.getElem?_cons_succ, Option.bind_some, Option.map_some, zsi, zdf g.1 hb, zbt w.2 1 h g.2]
theorem zoW {ws : List (Str × Int)} (hb : ∀ y ∈ bn, zaR y = true) (l1 : 1 <= ws.length) (l4 : ws.length <= 4) (g : ∀ w ∈ ws, w.1 ∈ bn /\ 1 <= w.2 /\ w.2 <= h) (nd : (ws.map (·.1)).Nodup) : zco [.lst (ws.map zw2), .lst (bn.map D.str), .int h] = some (.bl true) := by
 refine zba [some (.sh (.lst (ws.map zw2))), some (.sh (.lst (bn.map D.str))), some (.sh (.int h))] rfl ((zdN ?_ (zci (r := [some (.sh (.lst (bn.map D.str))), some (.sh (.int h))]) (a := none) (xs := ws.map zw2) rfl (by rw [List.length_map]; exact zug l4 (by decide)) rfl fun x hx => ?_)).trans (zbb ?_))
 ·exact zc8 _ 1 4 ⟨by rw [List.length_map]; omega, by rw [List.length_map]; omega⟩
 ·obtain ⟨p, hp, rfl⟩ := List.mem_map.mp hx
  exact zqO hb (g p hp)
 ·have := zcO (i := 0) (fv := [none]) (ρ := [some (.sh (.lst (ws.map zw2))), some (.sh (.lst (bn.map D.str))), some (.sh (.int h))]) (f := zw2) (nm := (·.1)) (xs := ws) (fun x => ⟨_, rfl⟩) rfl (zug l4 (by decide)) rfl
  simp only [zxh, zab, zak, this, Option.bind_some, Option.map_some]
  exact zcj nd (by rw [List.length_map]; omega)
theorem zo7 {s : StepT} (hb : ∀ y ∈ bn, zaR y = true) (g : GoodS bn h s) : zct [za0 s, .lst (bn.map D.str), .int h] = some (.bl true) := by
 simp only [zct, zgN, za0, zb3, zaC, zuw, za5, zbH, zuF, zck, zt5, zxh, zab, zak, ztZ, zxk, zxj, zjB, zle, zqK, List.map_cons, List.map_nil, List.cons_append, List.nil_append, List.replicate, List.getElem?_cons_zero, List.getElem?_cons_succ, Option.bind_some, Option.map_some, if_false, Bool.not_true, Bool.false_eq_true, zte, zdM g.nm, zdM g.kd, zoW hb g.l1 g.l4 g.ws g.nd]
theorem znc {ss : List StepT} (hb : ∀ y ∈ bn, zaR y = true) (l1 : 1 <= ss.length) (l4 : ss.length <= 40) (g : ∀ s ∈ ss, GoodS bn h s) (nd : (ss.map (·.nm)).Nodup) : zbO [.lst (ss.map za0), .lst (bn.map D.str), .int h] = some (.bl true) := by
 refine zba [some (.sh (.lst (ss.map za0))), some (.sh (.lst (bn.map D.str))), some (.sh (.int h))] rfl ((zdN ?_ (zci (r := [some (.sh (.lst (bn.map D.str))), some (.sh (.int h))]) (a := none) (xs := ss.map za0) rfl (by rw [List.length_map]; exact zug l4 (by decide)) rfl fun x hx => ?_)).trans (zbb ?_))
 ·exact zc8 _ 1 40 ⟨by rw [List.length_map]; omega, by rw [List.length_map]; omega⟩
 ·obtain ⟨p, hp, rfl⟩ := List.mem_map.mp hx
  exact zo7 hb (g p hp)
 ·have := zcO (i := 0) (fv := [none]) (ρ := [some (.sh (.lst (ss.map za0))), some (.sh (.lst (bn.map D.str))), some (.sh (.int h))]) (f := za0) (nm := (·.nm)) (xs := ss) (fun x => ⟨_, rfl⟩) rfl (zug l4 (by decide)) rfl
  simp only [zxh, zab, zak, this, Option.bind_some, Option.map_some]
  exact zcj nd (by rw [List.length_map]; omega)
end
end Law
end
section
namespace Law
open PySem L2
theorem zlQ (a b : Str) : zuJ (.str a) (.str b) = some (.bl (!decide (a = b))) := rfl
theorem zs0 {a b c d : D} : zhd none (some 3) (.tup [a, b, c, d]) = some (.tup [a, b, c]) := rfl
theorem ztq {a b c : D} : zhd none (some 2) (.tup [a, b, c]) = some (.tup [a, b]) := rfl
theorem zhS {α β : Type} {f : α -> List β} {m : Nat} : ∀ {l : List α}, (∀ x ∈ l, (f x).length <= m) -> (l.flatMap f).length <= l.length * m
 | [], _ => by simp
 | x :: r, h => by
  have h1 := h x List.mem_cons_self
  have h2 := zhS (l := r) fun y hy => h y (List.mem_cons_of_mem _ hy)
  rw [List.flatMap_cons, List.length_append, List.length_cons, Nat.succ_mul]
  omega
section
variable {h : Int} {bn sn : List Str}
theorem zrL {j : JobT} (hs : ∀ y ∈ sn, zaR y = true) (hl : sn.length <= 40) (g : GoodJ sn h j) : zc2 [zbr j, .lst (sn.map D.str), .int h] = some (.bl true) := by
 refine zba [some (.sh (zbr j)), some (.sh (.lst (sn.map D.str))), some (.sh (.int h))] rfl ((zrS ?_ ?_ ?_).trans ((zdN ?_ ?_).trans (zbb (zoT ?_ (zci (r := [some (.sh (.lst (sn.map D.str)))]) (a := none) (xs := j.ms.map D.str) ?_ ?_ rfl fun x hx => ?_)))))
 ·exact ztd
 ·simp only [zbr, zxh, zab, zak, ztZ, zxk, zxj, zjB, List.getElem?_cons_zero, Option.bind_some, Option.map_some, zdM g.nm]
 ·simp only [zbr, zxh, zab, zak, ztZ, zxk, zxj, zdA, zt3, zsn, List.getElem?_cons_zero, Option.bind_some, Option.map_some, zvZ]
 ·simp only [zbr, zxh, zab, zak, ztZ, zxk, zxj, zle, List.getElem?_cons_zero, List.getElem?_cons_succ, Option.bind_some, Option.map_some, zbt _ 0 h g.ea]
 ·simp only [zbr, zxh, zab, zak, ztZ, zxk, zxj, zqK, List.getElem?_cons_zero, List.getElem?_cons_succ, Option.bind_some, Option.map_some, zbt _ 0 h g.du]
 ·simp only [zbr, zxh, zab, zak, ztZ, zxk, zxj, zdt, zqJ, List.getElem?_cons_zero, List.getElem?_cons_succ, Option.bind_some, Option.map_some]
  exact zc8 _ _ _ ⟨by rw [List.length_map]; have := g.l1; omega, by rw [List.length_map, List.length_map]; have := g.ln; omega⟩
 ·simp only [zbr, ztZ, zxk, zxj, zu3, ziI, zqJ, List.getElem?_cons_zero, Option.bind_some]
 ·rw [List.length_map]; exact zug (Nat.le_trans g.ln hl) (by decide)
 ·obtain ⟨m, hm, rfl⟩ := List.mem_map.mp hx
  simp only [zxh, zab, zak, ztZ, List.getElem?_cons_zero, List.getElem?_cons_succ, Option.bind_some, Option.map_some, zdf (g.ms m hm) hs]
theorem zkQ {js : List JobT} {S H : Option Slot} (hl : js.length <= 40) (g : ∀ j ∈ js, j.ms.length <= 40) :
  ∃ z, zkn (zaN 4) (zqG 3 (zxj zu0 (ztZ 4) (zxk (.int 4)))) (js.map zbr) [some (.sh (.lst (js.map zbr))), S, H, some (.own []), none] = some (.nx, [some (.sh (.lst (js.map zbr))), S, H, some (.own ((js.flatMap (·.ms)).map D.str)), z]) := by
 obtain ⟨ρ', h1, z, h2⟩ := zbM (gg := zaN 4) (body := zqG 3 (zxj zu0 (ztZ 4) (zxk (.int 4)))) (xs := js.map zbr) (ρ := [some (.sh (.lst (js.map zbr))), S, H, some (.own []), none])
  (fun i ρ => ∃ z, ρ = [some (.sh (.lst (js.map zbr))), S, H, some (.own (((js.take i).flatMap (·.ms)).map D.str)), z]) ⟨none, by simp⟩ (fun i x ρ hx hI => by
   obtain ⟨z, rfl⟩ := hI
   rw [List.getElem?_map] at hx
   obtain ⟨j, hj, rfl⟩ := oMd hx
   have hm : j ∈ js := List.mem_of_getElem? hj
   have t1 : ((js.take i).flatMap (·.ms)).length <= (js.take i).length * 40 := zhS fun y hy => g y (List.mem_of_mem_take hy)
   have t2 : (js.take i).length <= 40 := by rw [List.length_take]; omega
   have t3 := g j hm
   have tk : js.take (i + 1) = js.take i ++ [j] := by rw [List.take_add_one, hj]; rfl
   have sz : (((js.take i).flatMap (·.ms)).map D.str).length + (j.ms.map D.str).length <= sizeLine := by
    rw [List.length_map, List.length_map]; unfold sizeLine; omega
   refine ⟨_, [some (.sh (.lst (js.map zbr))), S, H, some (.own (((js.take (i + 1)).flatMap (·.ms)).map D.str)), some (.sh (zbr j))], rfl, ?_, _, rfl⟩
   have e : zxj zu0 (ztZ 4) (zxk (.int 4)) [some (.sh (.lst (js.map zbr))), S, H, some (.own (((js.take i).flatMap (·.ms)).map D.str)), some (.sh (zbr j))] = some (.lst (j.ms.map D.str)) := by
    simp only [zbr, ztZ, zxk, zxj, zqJ, List.getElem?_cons_zero, List.getElem?_cons_succ, Option.bind_some]
   simp only [zqG, List.set_cons_zero, List.set_cons_succ, List.getElem?_cons_zero, List.getElem?_cons_succ, e, Option.bind_some, if_pos sz, tk]
   simp)
 refine ⟨z, ?_⟩
 rw [h1, h2, List.length_map, List.take_length]
theorem zp7 {js : List JobT} (hs : ∀ y ∈ sn, zaR y = true) (hl : sn.length <= 40) (l4 : js.length <= 40) (g : ∀ j ∈ js, GoodJ sn h j) (nd : (js.map (·.nm)).Nodup) (nm : (js.flatMap (·.ms)).Nodup) (ml : (js.flatMap (·.ms)).length <= 300) : zcp [.lst (js.map zbr), .lst (sn.map D.str), .int h] = some (.bl true) := by
 obtain ⟨z, hz⟩ := zkQ (js := js) (S := some (.sh (.lst (sn.map D.str)))) (H := some (.sh (.int h))) l4 fun j hj => Nat.le_trans (g j hj).ln hl
 refine zba [some (.sh (.lst (js.map zbr))), some (.sh (.lst (sn.map D.str))), some (.sh (.int h)), none, none] (ρ' := [some (.sh (.lst (js.map zbr))), some (.sh (.lst (sn.map D.str))), some (.sh (.int h)), some (.sh (.lst ((js.flatMap (·.ms)).map D.str))), z]) rfl ((zdN ?_ (zci (r := [some (.sh (.lst (sn.map D.str))), some (.sh (.int h))]) (a := none) (xs := js.map zbr) rfl (by rw [List.length_map]; exact zug l4 (by decide)) rfl fun x hx => ?_)).trans ?_)
 ·exact zc8 _ 0 40 ⟨by omega, by rw [List.length_map]; omega⟩
 ·obtain ⟨p, hp, rfl⟩ := List.mem_map.mp hx
  simp only [zxh, zab, zak, ztZ, List.getElem?_cons_zero, List.getElem?_cons_succ, Option.bind_some, Option.map_some, zrL hs hl (g p hp)]
 ·have nn := zcO (i := 0) (fv := [none]) (ρ := [some (.sh (.lst (js.map zbr))), some (.sh (.lst (sn.map D.str))), some (.sh (.int h)), some (.sh (.lst ((js.flatMap (·.ms)).map D.str))), z]) (f := zbr) (nm := (·.nm)) (xs := js) (fun x => ⟨_, rfl⟩) rfl (zug l4 (by decide)) rfl
  have u1 : zxh zah (zab (za6 (zaP (zu3 (ztZ 0)) (zaN 0) zw5 (zxj zu0 (ztZ 0) (zxk (.int 0))) [none])) zak) [some (.sh (.lst (js.map zbr))), some (.sh (.lst (sn.map D.str))), some (.sh (.int h)), some (.sh (.lst ((js.flatMap (·.ms)).map D.str))), z] = some (.bl true) :=
   za1 (zaj nn zaD) (zcj nd (by rw [List.length_map]; omega))
  have u2 : zxh zah (zab (ztZ 3) zak) [some (.sh (.lst (js.map zbr))), some (.sh (.lst (sn.map D.str))), some (.sh (.int h)), some (.sh (.lst ((js.flatMap (·.ms)).map D.str))), z] = some (.bl true) :=
   za1 (zaj rfl zaD) (zcj nm ml)
  have r := zbb (zoT u1 u2)
  have z0 : (0 <= sizeLine) = True := by simp
  simp only [zaC, zfv, zuh, zak, Option.bind_some, Option.map_some, List.length_nil, z0, if_true, List.set_cons_zero, List.set_cons_succ, zde, zu3, ztZ, List.getElem?_cons_zero, ziI]
  rw [hz]
  simp only [Option.bind_some, zie, List.getElem?_cons_zero, List.getElem?_cons_succ, List.set_cons_zero, List.set_cons_succ]
  exact r
theorem znf {u : SetT} (hb : ∀ y ∈ bn, zaR y = true) (g : GoodU bn h u) : zbW [zec u, .lst (bn.map D.str), .int h] = some (.bl true) := by
 simp only [zbW, zfo, zec, zb3, zaC, zuw, za5, zbH, zed, zuF, zck, zt5, zxh, zab, zak, ztZ, zxk, zxj, zjB, zle, zqK, zsn, List.map_cons, List.map_nil, List.cons_append, List.nil_append, List.replicate, List.getElem?_cons_zero, List.getElem?_cons_succ, Option.bind_some, Option.map_some, if_false, Bool.not_true, Bool.false_eq_true, ztv, zdf g.b hb, zdM g.p, zdM g.q, zbt _ 1 h g.n]
theorem zlt {us : List SetT} (hb : ∀ y ∈ bn, zaR y = true) (l4 : us.length <= 100) (g : ∀ u ∈ us, GoodU bn h u) (nd : (us.map fun u => [u.b, u.p, u.q]).Nodup) : zbA [.lst (us.map zec), .lst (bn.map D.str), .int h] = some (.bl true) := by
 refine zba [some (.sh (.lst (us.map zec))), some (.sh (.lst (bn.map D.str))), some (.sh (.int h))] rfl ((zdN ?_ (zci (r := [some (.sh (.lst (bn.map D.str))), some (.sh (.int h))]) (a := none) (xs := us.map zec) rfl (by rw [List.length_map]; exact zug l4 (by decide)) rfl fun x hx => ?_)).trans (zbb (za1 (zaj (zbv (r := []) (a := none) (xs := us.map zec) (f := fun d => match d with | .tup [a, b, c, d] => .tup [a, b, c] | _ => .non) rfl (by rw [List.length_map]; exact zug l4 (by decide)) rfl fun x hx => ?_) zaD) ?_)))
 ·exact zc8 _ 0 100 ⟨by omega, by rw [List.length_map]; omega⟩
 ·obtain ⟨p, hp, rfl⟩ := List.mem_map.mp hx
  simp only [zxh, zab, zak, ztZ, List.getElem?_cons_zero, List.getElem?_cons_succ, Option.bind_some, Option.map_some, znf hb (g p hp)]
 ·obtain ⟨p, hp, rfl⟩ := List.mem_map.mp hx
  simp only [ztZ, zxk, zuu, zwZ, zw0, List.getElem?_cons_zero, Option.bind_some, zec, zs0]
 ·have := zf0 nd (by rw [List.length_map]; omega)
  rw [List.map_map] at this ⊢
  exact this
theorem zp6 {l : LinkT} (hs : ∀ y ∈ sn, zaR y = true) (g : GoodL sn h l) : zcu [zcL l, .lst (sn.map D.str), .int h] = some (.bl true) := by
 have := g.ne
 simp only [zcu, zgP, zcL, zb3, zaC, zuw, za5, zbH, zed, zuF, zck, zt5, zxh, zab, zak, ztZ, zxk, zxj, zjB, zle, zqK, List.map_cons, List.map_nil, List.cons_append, List.nil_append, List.replicate, List.getElem?_cons_zero, List.getElem?_cons_succ, Option.bind_some, Option.map_some, if_false, Bool.not_true, Bool.not_false, Bool.false_eq_true, zte, zdf g.a hs, zdf g.b hs, zlQ, decide_eq_false g.ne, zbt _ 0 h g.g]
theorem znL {ls : List LinkT} (hs : ∀ y ∈ sn, zaR y = true) (l4 : ls.length <= 100) (g : ∀ l ∈ ls, GoodL sn h l) (nd : (ls.map fun l => [l.a, l.b]).Nodup) : zbP [.lst (ls.map zcL), .lst (sn.map D.str), .int h] = some (.bl true) := by
 refine zba [some (.sh (.lst (ls.map zcL))), some (.sh (.lst (sn.map D.str))), some (.sh (.int h))] rfl ((zdN ?_ (zci (r := [some (.sh (.lst (sn.map D.str))), some (.sh (.int h))]) (a := none) (xs := ls.map zcL) rfl (by rw [List.length_map]; exact zug l4 (by decide)) rfl fun x hx => ?_)).trans (zbb (za1 (zaj (zbv (r := []) (a := none) (xs := ls.map zcL) (f := fun d => match d with | .tup [a, b, c] => .tup [a, b] | _ => .non) rfl (by rw [List.length_map]; exact zug l4 (by decide)) rfl fun x hx => ?_) zaD) ?_)))
 ·exact zc8 _ 0 100 ⟨by omega, by rw [List.length_map]; omega⟩
 ·obtain ⟨p, hp, rfl⟩ := List.mem_map.mp hx
  simp only [zxh, zab, zak, ztZ, List.getElem?_cons_zero, List.getElem?_cons_succ, Option.bind_some, Option.map_some, zp6 hs (g p hp)]
 ·obtain ⟨p, hp, rfl⟩ := List.mem_map.mp hx
  simp only [ztZ, zxk, zuu, zwZ, zw0, List.getElem?_cons_zero, Option.bind_some, zcL, ztq]
 ·have := zf0 nd (by rw [List.length_map]; omega)
  rw [List.map_map] at this ⊢
  exact this
theorem zm1 {w : Str × Int} (hs : ∀ y ∈ sn, zaR y = true) (g : w.1 ∈ sn /\ 1 <= w.2 /\ w.2 <= 1000000) : zbG [zw2 w, .lst (sn.map D.str)] = some (.bl true) := by
 simp only [zbG, zeD, zw2, zb3, za5, zed, zxh, zab, zak, ztZ, zxk, zxj, zjB, zle, List.map_cons, List.map_nil, List.cons_append, List.nil_append, List.replicate, List.getElem?_cons_zero, List.getElem?_cons_succ, Option.bind_some, Option.map_some, zsi, zdf g.1 hs, zbt w.2 1 1000000 g.2]
theorem zhv {ws : List (Str × Int)} (hs : ∀ y ∈ sn, zaR y = true) (hl : sn.length <= 40) (g : GoodA sn ws) : zbf [.lst (ws.map zw2), .lst (sn.map D.str)] = some (.bl true) := by
 have l4 : ws.length <= 40 := Nat.le_trans g.ln hl
 refine zba [some (.sh (.lst (ws.map zw2))), some (.sh (.lst (sn.map D.str)))] rfl ((zdN ?_ (zci (r := [some (.sh (.lst (sn.map D.str)))]) (a := none) (xs := ws.map zw2) rfl (by rw [List.length_map]; exact zug l4 (by decide)) rfl fun x hx => ?_)).trans (zbb ?_))
 ·have e := zc8 (ws.map zw2) 0 ((sn.map D.str).length : Nat) ⟨by omega, by rw [List.length_map, List.length_map]; have := g.ln; omega⟩
  simp only [zxh, zab, zak, ztZ, zxk, zdt, List.getElem?_cons_zero, List.getElem?_cons_succ, Option.bind_some, Option.map_some]
  exact e
 ·obtain ⟨p, hp, rfl⟩ := List.mem_map.mp hx
  simp only [zxh, zab, zak, ztZ, List.getElem?_cons_zero, List.getElem?_cons_succ, Option.bind_some, Option.map_some, zm1 hs (g.ws p hp)]
 ·have := zcO (i := 0) (fv := [none]) (ρ := [some (.sh (.lst (ws.map zw2))), some (.sh (.lst (sn.map D.str)))]) (f := zw2) (nm := (·.1)) (xs := ws) (fun x => ⟨_, rfl⟩) rfl (zug l4 (by decide)) rfl
  exact za1 (zaj this zaD) (zcj g.nd (by rw [List.length_map]; omega))
theorem znb {k : StockT} (hs : ∀ y ∈ sn, zaR y = true) (hl : sn.length <= 40) (g : GoodK sn k) : zbV [zb2 k, .lst (sn.map D.str)] = some (.bl true) := by
 simp only [zbV, zfn, zb2, zb3, zaC, zuw, za5, zbH, zed, zuF, zck, zt5, zxh, zab, zak, ztZ, zxk, zxj, zjB, zle, zqK, zsn, zqJ, List.map_cons, List.map_nil, List.cons_append, List.nil_append, List.replicate, List.getElem?_cons_zero, List.getElem?_cons_succ, Option.bind_some, Option.map_some, if_false, Bool.not_true, Bool.false_eq_true, ztd, zdM g.nm, zbt _ 0 1000000 g.hi, zbt _ 0 _ g.lo, zhv hs hl g.tk, zhv hs hl g.pt]
theorem zlp {ks : List StockT} (hs : ∀ y ∈ sn, zaR y = true) (hl : sn.length <= 40) (l4 : ks.length <= 6) (g : ∀ k ∈ ks, GoodK sn k) (nd : (ks.map (·.nm)).Nodup) : zbz [.lst (ks.map zb2), .lst (sn.map D.str)] = some (.bl true) := by
 refine zba [some (.sh (.lst (ks.map zb2))), some (.sh (.lst (sn.map D.str)))] rfl ((zdN ?_ (zci (r := [some (.sh (.lst (sn.map D.str)))]) (a := none) (xs := ks.map zb2) rfl (by rw [List.length_map]; exact zug l4 (by decide)) rfl fun x hx => ?_)).trans (zbb ?_))
 ·exact zc8 _ 0 6 ⟨by omega, by rw [List.length_map]; omega⟩
 ·obtain ⟨p, hp, rfl⟩ := List.mem_map.mp hx
  simp only [zxh, zab, zak, ztZ, List.getElem?_cons_zero, List.getElem?_cons_succ, Option.bind_some, Option.map_some, znb hs hl (g p hp)]
 ·have := zcO (i := 0) (fv := [none]) (ρ := [some (.sh (.lst (ks.map zb2))), some (.sh (.lst (sn.map D.str)))]) (f := zb2) (nm := (·.nm)) (xs := ks) (fun x => ⟨_, rfl⟩) rfl (zug l4 (by decide)) rfl
  exact za1 (zaj this zaD) (zcj nd (by rw [List.length_map]; omega))
end
section
variable {bs : List BenchT} {ss : List StepT} {js : List JobT} {us : List SetT} {ls : List LinkT} {ks : List StockT} {h : Int}
theorem Good.bnn (g : Good bs ss js us ls ks h) : ∀ y ∈ bs.map (·.nm), zaR y = true := fun y hy => by
 obtain ⟨b, hb, rfl⟩ := List.mem_map.mp hy
 exact (g.b b hb).nm
theorem Good.snn (g : Good bs ss js us ls ks h) : ∀ y ∈ ss.map (·.nm), zaR y = true := fun y hy => by
 obtain ⟨b, hb, rfl⟩ := List.mem_map.mp hy
 exact (g.s b hb).nm
theorem zlJ (g : Good bs ss js us ls ks h) (ml : (js.flatMap (·.ms)).length <= 300) : za3 [.lst (bs.map zaS), .lst (ss.map za0), .lst (js.map zbr), .lst (us.map zec), .lst (ls.map zcL), .lst (ks.map zb2), .int h] = some .non := by
 have hb := g.bnn
 have hs := g.snn
 have hl : (ss.map (·.nm)).length <= 40 := by rw [List.length_map]; exact g.sl.2
 have n1 : ∀ z : Option Slot, za6 (zaP (zu3 (ztZ 0)) (zaN 0) zw5 (zxj zu0 (ztZ 0) (zxk (.int 0))) [none]) [some (.sh (.lst (bs.map zaS))), some (.sh (.lst (ss.map za0))), some (.sh (.lst (js.map zbr))), some (.sh (.lst (us.map zec))), some (.sh (.lst (ls.map zcL))), some (.sh (.lst (ks.map zb2))), some (.sh (.int h)), none, none] = some (.lst ((bs.map (·.nm)).map D.str)) := fun z =>
  zcO (f := zaS) (nm := (·.nm)) (xs := bs) (fun x => ⟨_, rfl⟩) rfl (zug g.bl.2 (by decide)) rfl
 have n2 : za6 (zaP (zu3 (ztZ 1)) (zaN 0) zw5 (zxj zu0 (ztZ 0) (zxk (.int 0))) [none]) [some (.sh (.lst (bs.map zaS))), some (.sh (.lst (ss.map za0))), some (.sh (.lst (js.map zbr))), some (.sh (.lst (us.map zec))), some (.sh (.lst (ls.map zcL))), some (.sh (.lst (ks.map zb2))), some (.sh (.int h)), some (.sh (.lst ((bs.map (·.nm)).map D.str))), none] = some (.lst ((ss.map (·.nm)).map D.str)) :=
  zcO (f := za0) (nm := (·.nm)) (xs := ss) (fun x => ⟨_, rfl⟩) rfl (zug g.sl.2 (by decide)) rfl
 refine zba [some (.sh (.lst (bs.map zaS))), some (.sh (.lst (ss.map za0))), some (.sh (.lst (js.map zbr))), some (.sh (.lst (us.map zec))), some (.sh (.lst (ls.map zcL))), some (.sh (.lst (ks.map zb2))), some (.sh (.int h)), none, none] rfl ((zgx ?_).trans ((zgx ?_).trans ((zaL (n1 none)).trans ((zgx ?_).trans ((zaL n2).trans ((zgx ?_).trans ((zgx ?_).trans ((zgx ?_).trans ((zgx ?_).trans (zbb rfl))))))))))
 ·exact zbt h 1 1000000 g.hh
 ·exact zla g.bl.1 g.bl.2 g.b g.bn
 ·exact znc hb g.sl.1 g.sl.2 g.s g.sn
 ·exact zp7 hs hl g.jl g.j g.jn g.jm ml
 ·exact zlt hb g.ul g.u g.un
 ·exact znL hs g.ll g.l g.ln
 ·exact zlp hs hl g.kl g.k g.kn
end
end Law
end
section
namespace Law
open PySem L2
def zwO : Nat -> D -> Prop
 | 0, _ => False
 | n + 1, .lst l => l.length <= sizeLine /\ ∀ x ∈ l, zwO n x
 | n + 1, .tup l => l.length <= sizeLine /\ ∀ x ∈ l, zwO n x
 | _ + 1, .non => True
 | _ + 1, .bl _ => True
 | _ + 1, .int _ => True
 | _ + 1, .str _ => True
 | _ + 1, _ => False
theorem zbh {ft : zw1} {X E : zxa} {ρ : zaV} (h : ft ρ = some false) : zaC (zuw ft X zbH) E ρ = E ρ := by
 simp only [zaC, zuw, h, Option.bind_some, Bool.false_eq_true, if_false, zbH]
theorem zja {ft : zw1} {A B E : zxa} {ρ ρ' : zaV} {d : D} (h : ft ρ = some true) (h2 : A ρ = some (.rt d, ρ')) : zaC (zuw ft A B) E ρ = some (.rt d, ρ') := by
 simp only [zaC, zuw, h, Option.bind_some, if_true, h2]
theorem zhR : ∀ (n : Nat) (d : D), zwO n d -> zdc n [d] = some d
 | 0, _, h => h.elim
 | n + 1, .lst l, h => by
  refine zba [some (.sh (.lst l))] rfl (zja (zaG (b := true) ?_) (zbb ?_))
  ·simp only [zxh, zab, zak, ztZ, zxk, zdA, zt3, List.getElem?_cons_zero, Option.bind_some, Option.map_some, zwY]
  ·have := zbv (fi := zu3 (ztZ 0)) (fe := zxh (zdc n) (zab (ztZ 0) zak)) (fv := [none]) (ρ := [some (.sh (.lst l))]) (r := []) (a := none) (xs := l) (f := fun x => x) rfl h.1 rfl (fun x hx => by simp only [zxh, zab, zak, ztZ, List.getElem?_cons_zero, Option.bind_some, Option.map_some, zhR n x (h.2 x hx)])
   rw [List.map_id'] at this
   exact this
 | n + 1, .tup l, h => by
  refine zba [some (.sh (.tup l))] rfl ((zbh (zaG (b := false) ?_)).trans (zja (zaG (b := true) ?_) (zbb (za1 (zaj (d := .lst l) ?_ zaD) rfl))))
  ·simp only [zxh, zab, zak, ztZ, zxk, zdA, zt3, List.getElem?_cons_zero, Option.bind_some, Option.map_some, zwR]
  ·simp only [zxh, zab, zak, ztZ, zxk, zdA, zt3, List.getElem?_cons_zero, Option.bind_some, Option.map_some, zwx]
  ·have := zbv (fi := zu3 (ztZ 0)) (fe := zxh (zdc n) (zab (ztZ 0) zak)) (fv := [none]) (ρ := [some (.sh (.tup l))]) (r := []) (a := none) (xs := l) (f := fun x => x) rfl h.1 rfl (fun x hx => by simp only [zxh, zab, zak, ztZ, List.getElem?_cons_zero, Option.bind_some, Option.map_some, zhR n x (h.2 x hx)])
   rw [List.map_id'] at this
   exact this
 | n + 1, .non, h => by
  show zdd (zdc n) [.non] = some .non
  unfold zdd
  refine zba [some (.sh .non)] rfl ((zbh (zaG (b := false) ?_)).trans ((zbh (zaG (b := false) ?_)).trans (zbb (f := ztZ 0) rfl))) <;> simp only [zxh, zab, zak, ztZ, zxk, zdA, zt3, List.getElem?_cons_zero, Option.bind_some, Option.map_some, zuW, zuV]
 | n + 1, .bl b, h => by
  show zdd (zdc n) [.bl b] = some (.bl b)
  unfold zdd
  refine zba [some (.sh (.bl b))] rfl ((zbh (zaG (b := false) ?_)).trans ((zbh (zaG (b := false) ?_)).trans (zbb (f := ztZ 0) rfl))) <;> simp only [zxh, zab, zak, ztZ, zxk, zdA, zt3, List.getElem?_cons_zero, Option.bind_some, Option.map_some, zv6, zv5]
 | n + 1, .int b, h => by
  show zdd (zdc n) [.int b] = some (.int b)
  unfold zdd
  refine zba [some (.sh (.int b))] rfl ((zbh (zaG (b := false) ?_)).trans ((zbh (zaG (b := false) ?_)).trans (zbb (f := ztZ 0) rfl))) <;> simp only [zxh, zab, zak, ztZ, zxk, zdA, zt3, List.getElem?_cons_zero, Option.bind_some, Option.map_some, zv8, zv7]
 | n + 1, .str b, h => by
  show zdd (zdc n) [.str b] = some (.str b)
  unfold zdd
  refine zba [some (.sh (.str b))] rfl ((zbh (zaG (b := false) ?_)).trans ((zbh (zaG (b := false) ?_)).trans (zbb (f := ztZ 0) rfl))) <;> simp only [zxh, zab, zak, ztZ, zxk, zdA, zt3, List.getElem?_cons_zero, Option.bind_some, Option.map_some, zwD, zwD, zwg]
theorem zgB {d : D} (h : zwO 8 d) : za4 [d] = some d := zhR 8 d h
theorem zd8 {n : Nat} {α : Type} {f : α -> D} {xs : List α} (hl : xs.length <= 1000) (h : ∀ x ∈ xs, zwO n (f x)) : zwO (n + 1) (.lst (xs.map f)) :=
 ⟨by rw [List.length_map]; exact zug hl (by decide), fun x hx => by
  obtain ⟨y, hy, rfl⟩ := List.mem_map.mp hx
  exact h y hy⟩
theorem zre {n : Nat} {xs : List Str} (hl : xs.length <= 1000) : zwO (n + 2) (.lst (xs.map D.str)) := zd8 hl fun x _ => (trivial : zwO (n + 1) (.str x))
theorem zsk {n : Nat} {xs : List (Str × Int)} (hl : xs.length <= 1000) : zwO (n + 3) (.lst (xs.map zw2)) := zd8 hl fun x _ => ⟨by simp [sizeLine], by
 intro y hy
 simp only [List.mem_cons, List.not_mem_nil, or_false] at hy
 rcases hy with rfl | rfl <;> trivial⟩
theorem znu {n : Nat} {h : Int} {b : BenchT} (g : GoodB h b) : zwO (n + 4) (zaS b) := ⟨by simp [sizeLine], by
 intro y hy
 simp only [List.mem_cons, List.not_mem_nil, or_false] at hy
 rcases hy with rfl | rfl
 ·trivial
 ·exact zd8 (by have := g.len; omega) fun x _ => ⟨by simp [sizeLine], by
   intro y hy
   simp only [List.mem_cons, List.not_mem_nil, or_false] at hy
   rcases hy with rfl | rfl <;> trivial⟩⟩
theorem zpy {n : Nat} {bn : List Str} {h : Int} {s : StepT} (g : GoodS bn h s) : zwO (n + 4) (za0 s) := ⟨by simp [sizeLine], by
 intro y hy
 simp only [List.mem_cons, List.not_mem_nil, or_false] at hy
 rcases hy with rfl | rfl | rfl
 ·trivial
 ·trivial
 ·exact zsk (by have := g.l4; omega)⟩
theorem zop {n : Nat} {sn : List Str} {h : Int} {j : JobT} (hl : sn.length <= 40) (g : GoodJ sn h j) : zwO (n + 3) (zbr j) := ⟨by simp [sizeLine], by
 intro y hy
 simp only [List.mem_cons, List.not_mem_nil, or_false] at hy
 rcases hy with rfl | rfl | rfl | rfl | rfl
 ·trivial
 ·trivial
 ·trivial
 ·trivial
 ·exact zre (by have := g.ln; omega)⟩
theorem zrf {n : Nat} {u : SetT} : zwO (n + 2) (zec u) := ⟨by simp [sizeLine], by
 intro y hy
 simp only [List.mem_cons, List.not_mem_nil, or_false] at hy
 rcases hy with rfl | rfl | rfl | rfl <;> trivial⟩
theorem zpz {n : Nat} {u : LinkT} : zwO (n + 2) (zcL u) := ⟨by simp [sizeLine], by
 intro y hy
 simp only [List.mem_cons, List.not_mem_nil, or_false] at hy
 rcases hy with rfl | rfl | rfl <;> trivial⟩
theorem znt {n : Nat} {sn : List Str} {k : StockT} (hl : sn.length <= 40) (g : GoodK sn k) : zwO (n + 4) (zb2 k) := ⟨by simp [sizeLine], by
 intro y hy
 simp only [List.mem_cons, List.not_mem_nil, or_false] at hy
 rcases hy with rfl | rfl | rfl | rfl | rfl
 ·trivial
 ·trivial
 ·trivial
 ·exact zsk (by have := g.tk.ln; omega)
 ·exact zsk (by have := g.pt.ln; omega)⟩
theorem zhj {α : Type} {nm : α -> Str} {f : α -> D} : ∀ (xs : List α), zhk (xs.map fun x => .tup [.str (nm x), f x]) = some (xs.map fun x => (.inr (nm x), f x))
 | [] => rfl
 | x :: r => by simp only [List.map_cons, zhk, zm6, Option.bind_some, zhj r, Option.map_some]
theorem zhi {α : Type} {t : α -> List Str} {f : α -> D} : ∀ (xs : List α), zgh (xs.map fun x => .tup [.tup ((t x).map D.str), f x]) = some (xs.map fun x => ((t x).map Sum.inr, f x))
 | [] => rfl
 | x :: r => by simp only [List.map_cons, zgh, zdX, Option.bind_some, zhi r, Option.map_some]
theorem zhm {κ : Type} [DecidableEq κ] {ps : List (κ × D)} (h : (ps.map (·.1)).Nodup) : zsm ps = ps := by
 have key : ∀ (l a : List (κ × D)), ((a ++ l).map (·.1)).Nodup -> l.foldl (fun acc kv => zjm acc kv.1 kv.2) a = a ++ l := by
  intro l
  induction l with
  | nil => intro a _; simp
  | cons x r ih =>
   intro a hn
   have hx : (a.any fun kv => decide (kv.1 = x.1)) = false := by
    rw [List.any_eq_false]
    intro y hy z
    rw [List.map_append, List.nodup_append] at hn
    exact hn.2.2 y.1 (List.mem_map_of_mem hy) x.1 (by simp) (of_decide_eq_true z)
   rw [List.foldl_cons]
   have e : zjm a x.1 x.2 = a ++ [x] := by
    unfold zjm
    rw [hx]
    rfl
   rw [e, ih (a ++ [x]) (by simpa using hn)]
   simp
 simpa [zsm] using key ps [] (by simpa using h)
theorem zfX {β : Type} : ∀ {fs : List (Str × β)} {i : Nat} {k : Str} {d : β}, (fs.map (·.1)).Nodup -> fs[i]? = some (k, d) -> fs.lookup k = some d
 | [], i, k, d, _, h => by simp at h
 | (a, b) :: r, 0, k, d, _, h => by
  simp only [List.getElem?_cons_zero, Option.some.injEq, Prod.mk.injEq] at h
  obtain ⟨rfl, rfl⟩ := h
  simp [List.lookup]
 | (a, b) :: r, i + 1, k, d, nd, h => by
  rw [List.getElem?_cons_succ] at h
  rw [List.map_cons, List.nodup_cons] at nd
  have ne : k ≠ a := by
   intro z
   subst z
   exact nd.1 (List.mem_map_of_mem (f := (·.1)) (List.mem_of_getElem? h))
  have hb : (k == a) = false := by simpa using ne
  simp only [List.lookup, hb]
  exact zfX nd.2 h
theorem zfa {β : Type} : ∀ {fs : List (Str × β)} {k : Str}, k ∉ fs.map (·.1) -> fs.lookup k = none
 | [], _, _ => rfl
 | (a, b) :: r, k, h => by
  rw [List.map_cons, List.mem_cons, not_or] at h
  have hb : (k == a) = false := by simpa using h.1
  simp only [List.lookup, hb]
  exact zfa h.2
end Law
end
section
namespace Law
open PySem L2
def zkN (j : JobT) (acc : List (zvK × D)) (m : Str) : List (zvK × D) := zjm acc (.inr m) (zbr j)
def zuX (js : List JobT) : List (zvK × D) := js.foldl (fun acc j => j.ms.foldl (zkN j) acc) []
theorem znp {κ : Type} [DecidableEq κ] (kvs : List (κ × D)) (k : κ) (v : D) : (zjm kvs k v).length <= kvs.length + 1 := by
 unfold zjm
 split
 ·rw [List.length_map]; omega
 ·rw [List.length_append]; simp
theorem zgv (j : JobT) : ∀ (ms : List Str) (acc : List (zvK × D)), (ms.foldl (zkN j) acc).length <= acc.length + ms.length
 | [], acc => by simp
 | m :: r, acc => by
  rw [List.foldl_cons]
  have h1 := zgv j r (zkN j acc m)
  have h2 : (zkN j acc m).length <= acc.length + 1 := znp _ _ _
  rw [List.length_cons]; omega
theorem zmd {m : Nat} : ∀ {js : List JobT} (acc : List (zvK × D)), (∀ j ∈ js, j.ms.length <= m) -> (js.foldl (fun acc j => j.ms.foldl (zkN j) acc) acc).length <= acc.length + js.length * m
 | [], acc, _ => by simp
 | j :: r, acc, h => by
  rw [List.foldl_cons]
  have h1 := zmd (js := r) (j.ms.foldl (zkN j) acc) fun y hy => h y (List.mem_cons_of_mem _ hy)
  have h2 := zgv j j.ms acc
  have h3 := h j List.mem_cons_self
  rw [List.length_cons, Nat.succ_mul]; omega
def zmn (bs : List BenchT) (ss : List StepT) (js : List JobT) (us : List SetT) (ls : List LinkT) (ks : List StockT) (h : Int) : List (Str × D) :=
 [("benches", .lst (bs.map zaS)), ("steps", .lst (ss.map za0)), ("jobs", .lst (js.map zbr)), ("setups", .lst (us.map zec)), ("links", .lst (ls.map zcL)), ("stocks", .lst (ks.map zb2)), ("horizon", .int h),
 ("bench_by_name", .dk (bs.map fun b => (.inr b.nm, zaS b))), ("step_by_name", .dk (ss.map fun s => (.inr s.nm, za0 s))), ("setup_by_names", .dt (us.map fun u => ([u.b, u.p, u.q].map Sum.inr, .int u.n)))]
def zoE (bs : List BenchT) (ss : List StepT) (js : List JobT) (us : List SetT) (ls : List LinkT) (ks : List StockT) (h : Int) : List (Str × D) := zmn bs ss js us ls ks h ++ [(("job_by_step" : Str), D.dk (zuX js))]
def zbL (bs : List BenchT) (ss : List StepT) (js : List JobT) (us : List SetT) (ls : List LinkT) (ks : List StockT) (h : Int) : D := .ins "Shop" (zoE bs ss js us ls ks h)
def zeL : List Str := ["benches", "steps", "jobs", "setups", "links", "stocks", "horizon", "bench_by_name", "step_by_name", "setup_by_names", "job_by_step"]
theorem zhO : zeL.Nodup := by decide +kernel
theorem zlR {α : Type} {l : List α} (h : l.Nodup) (n : Nat) : (l.take n).Nodup := List.Sublist.nodup (List.take_sublist n l) h
section
variable {fs : List (Str × D)} {f : Str} {fv : zxe} {r : zaV} {g : zxa} {d : D}
theorem zc7 (n : Nat) (hk : zeL[n]? = some f) (hf : fs.map (·.1) = zeL.take n) (h : fv (some (.obj "Shop" fs) :: r) = some d) : zaC (zeJ "Shop" f 0 fv) g (some (.obj "Shop" fs) :: r) = g (some (.obj "Shop" (fs ++ [(f, d)])) :: r) := by
 have hno : fs.lookup f = none := zfa (by
  rw [hf]
  intro z
  obtain ⟨i, hi⟩ := List.getElem?_of_mem z
  have hin : i < n := by
   rcases Nat.lt_or_ge i n with q | q
   ·exact q
   ·rw [List.getElem?_eq_none (by rw [List.length_take]; omega)] at hi; cases hi
  rw [List.getElem?_take_of_lt hin] at hi
  have := (List.getElem?_inj (List.getElem?_eq_some_iff.mp hi).1 zhO).mp (hi.trans hk.symm)
  omega)
 have hlen : fs.length < 100 := by
  have := congrArg List.length hf
  rw [List.length_map, List.length_take] at this
  have k : zeL.length = 11 := rfl
  omega
 simp only [zaC, zeJ, h, Option.bind_some, List.getElem?_cons_zero, hno, hlen, and_self, if_true, List.set_cons_zero]
theorem zhL (n i : Nat) (hf : fs.map (·.1) = zeL.take n) (h : fs[i]? = some (f, d)) : zgZ "Shop" f 0 (some (.obj "Shop" fs) :: r) = some d := by
 have e : fs.lookup f = some d := zfX (by rw [hf]; exact zlR zhO n) h
 show (if some ("Shop" : Str) = some ("Shop" : Str) then fs.lookup f else none) = some d
 rw [if_pos rfl, e]
end
theorem zmz {α : Type} {f : α -> D} {nm : α -> Str} {xs : List α} {fo : zxe} {ρ : zaV} (hf : ∀ x, ∃ r, f x = .tup (.str (nm x) :: r)) (h1 : fo ρ = some (.lst (xs.map f))) (h2 : xs.length <= 1000) (nd : (xs.map nm).Nodup) :
  zxh ziO (zab (za6 (zaP (zu3 fo) (zaN 0) zw5 (zb7 (zuh (zab (zxj zu0 (ztZ 0) (zxk (.int 0))) (zab (ztZ 0) zak)))) [none])) zak) ρ = some (.dk (xs.map fun x => (.inr (nm x), f x))) := by
 have hc := zbv (fi := zu3 fo) (fe := zb7 (zuh (zab (zxj zu0 (ztZ 0) (zxk (.int 0))) (zab (ztZ 0) zak)))) (fv := [none]) (ρ := ρ) (r := []) (a := none) (xs := xs.map f) (f := fun d => .tup [match d with | .tup (x :: _) => x | _ => .non, d]) (by unfold zu3; rw [h1]; rfl) (by rw [List.length_map]; exact zug h2 (by decide)) rfl (fun x hx => by
  obtain ⟨y, _, rfl⟩ := List.mem_map.mp hx
  obtain ⟨r, e⟩ := hf y
  simp only [zab, zak, ztZ, zxk, zxj, zb7, zuh, zjB, List.getElem?_cons_zero, Option.bind_some, Option.map_some, if_true, List.length_cons, List.length_nil, Nat.zero_add, zun, e])
 have e : (xs.map f).map (fun d => D.tup [match d with | .tup (x :: _) => x | _ => .non, d]) = xs.map fun x => .tup [.str (nm x), f x] := by
  rw [List.map_map]
  refine List.map_congr_left fun x _ => ?_
  obtain ⟨r, e⟩ := hf x
  simp [e]
 rw [e] at hc
 have kn : ((xs.map fun x => ((.inr (nm x) : zvK), f x)).map (·.1)).Nodup := by
  rw [List.map_map]
  have := List.Pairwise.map (S := fun a b : zvK => a ≠ b) (Sum.inr : Str -> zvK) (fun a b hab z => hab (Sum.inr.inj z)) nd
  rw [List.map_map] at this
  exact this
 refine za1 (zaj hc zaD) ?_
 show (if _ then _ else _) = _
 rw [if_pos (by rw [List.length_map]; exact h2), zhj, Option.map_some, zhm kn]
theorem zkp {us : List SetT} {fo : zxe} {ρ : zaV} (h1 : fo ρ = some (.lst (us.map zec))) (h2 : us.length <= 1000) (nd : (us.map fun u => [u.b, u.p, u.q]).Nodup) :
  zxh zhs (zab (za6 (zaP (zu3 fo) (zaN 0) zw5 (zb7 (zuh (zab (zuu (ztZ 0) zwZ (zw0 (zxk (.int 3)))) (zab (zxj zu0 (ztZ 0) (zxk (.int 3))) zak)))) [none])) zak) ρ = some (.dt (us.map fun u => ([u.b, u.p, u.q].map Sum.inr, .int u.n))) := by
 have hc := zbv (fi := zu3 fo) (fe := zb7 (zuh (zab (zuu (ztZ 0) zwZ (zw0 (zxk (.int 3)))) (zab (zxj zu0 (ztZ 0) (zxk (.int 3))) zak)))) (fv := [none]) (ρ := ρ) (r := []) (a := none) (xs := us.map zec) (f := fun d => match d with | .tup [a, b, c, d] => .tup [.tup [a, b, c], d] | _ => .non) (by unfold zu3; rw [h1]; rfl) (by rw [List.length_map]; exact zug h2 (by decide)) rfl (fun x hx => by
  obtain ⟨y, _, rfl⟩ := List.mem_map.mp hx
  simp only [zab, zak, ztZ, zxk, zxj, zb7, zuh, zuu, zwZ, zw0, zsn, List.getElem?_cons_zero, Option.bind_some, Option.map_some, if_true, List.length_cons, List.length_nil, Nat.zero_add, zun, zec, zs0])
 rw [List.map_map] at hc
 have kn : ((us.map fun u => ([u.b, u.p, u.q].map (Sum.inr : Str -> zvK), D.int u.n)).map (·.1)).Nodup := by
  rw [List.map_map]
  have inj : ∀ a b : List Str, a.map (Sum.inr : Str -> zvK) = b.map Sum.inr -> a = b := fun a b z => (List.map_inj_right (fun x y q => Sum.inr.inj q)).mp z
  have := List.Pairwise.map (S := fun a b : List zvK => a ≠ b) (List.map (Sum.inr : Str -> zvK)) (fun a b hab z => hab (inj a b z)) nd
  rw [List.map_map] at this
  exact this
 refine za1 (zaj hc zaD) ?_
 show (if _ then _ else _) = _
 have e := zhi (t := fun u : SetT => [u.b, u.p, u.q]) (f := fun u => .int u.n) us
 rw [if_pos (by rw [List.length_map]; exact h2)]
 have e2 : zgh (us.map ((fun d => match d with | .tup [a, b, c, d] => D.tup [.tup [a, b, c], d] | _ => .non) ∘ zec)) = some (us.map fun u => ([u.b, u.p, u.q].map Sum.inr, .int u.n)) := e
 rw [e2, Option.map_some, zhm kn]
section
variable {bs : List BenchT} {ss : List StepT} {js : List JobT} {us : List SetT} {ls : List LinkT} {ks : List StockT} {h : Int}
theorem zgz : (zmn bs ss js us ls ks h).map (·.1) = zeL.take 10 := rfl
theorem zgy : (zoE bs ss js us ls ks h).map (·.1) = zeL := rfl
abbrev zwM (bs : List BenchT) (ss : List StepT) (js : List JobT) (us : List SetT) (ls : List LinkT) (ks : List StockT) (h : Int) (a b : Option Slot) : zaV := [some (.sh (.lst (bs.map zaS))), some (.sh (.lst (ss.map za0))), some (.sh (.lst (js.map zbr))), some (.sh (.lst (us.map zec))), some (.sh (.lst (ls.map zcL))), some (.sh (.lst (ks.map zb2))), some (.sh (.int h)), some (.sh .non), a, b]
abbrev zw9 (bs : List BenchT) (ss : List StepT) (js : List JobT) (us : List SetT) (ls : List LinkT) (ks : List StockT) (h : Int) (kvs : List (zvK × D)) : Option Slot := some (.objd "Shop" (zmn bs ss js us ls ks h) "job_by_step" kvs)
theorem zq9 {j : JobT} {m : Str} {kvs : List (zvK × D)} (hl : kvs.length < 100000) : zc6 "Shop" "job_by_step" 0 (ztZ 10) (ztZ 9) (zw9 bs ss js us ls ks h kvs :: zwM bs ss js us ls ks h (some (.sh (zbr j))) (some (.sh (.str m)))) = some (.nx, zw9 bs ss js us ls ks h (zkN j kvs m) :: zwM bs ss js us ls ks h (some (.sh (zbr j))) (some (.sh (.str m)))) := by
 have hno : (zmn bs ss js us ls ks h).lookup ("job_by_step" : Str) = none := zfa (by rw [zgz]; decide +kernel)
 simp only [zc6, ztZ, List.getElem?_cons_zero, List.getElem?_cons_succ, Option.bind_some, zm6, hno, hl, and_self, if_true, List.set_cons_zero, zkN]
theorem znQ {j : JobT} {acc : List (zvK × D)} {z : Option Slot} (hl : acc.length + j.ms.length < 100000) : ∃ z', zde (zu3 (zxj zu0 (ztZ 9) (zxk (.int 4)))) (zaN 10) (zc6 "Shop" "job_by_step" 0 (ztZ 10) (ztZ 9)) (zw9 bs ss js us ls ks h acc :: zwM bs ss js us ls ks h (some (.sh (zbr j))) z) = some (.nx, zw9 bs ss js us ls ks h (j.ms.foldl (zkN j) acc) :: zwM bs ss js us ls ks h (some (.sh (zbr j))) z') := by
 obtain ⟨ρ', h1, z', h2⟩ := zbM (gg := zaN 10) (body := zc6 "Shop" "job_by_step" 0 (ztZ 10) (ztZ 9)) (xs := j.ms.map D.str) (ρ := zw9 bs ss js us ls ks h acc :: zwM bs ss js us ls ks h (some (.sh (zbr j))) z)
  (fun i ρ => ∃ z, ρ = zw9 bs ss js us ls ks h ((j.ms.take i).foldl (zkN j) acc) :: zwM bs ss js us ls ks h (some (.sh (zbr j))) z) ⟨z, by simp⟩ (fun i x ρ hx hI => by
   obtain ⟨z, rfl⟩ := hI
   rw [List.getElem?_map] at hx
   obtain ⟨m, hm, rfl⟩ := oMd hx
   have tk : j.ms.take (i + 1) = j.ms.take i ++ [m] := by rw [List.take_add_one, hm]; rfl
   have hlen := zgv j (j.ms.take i) acc
   rw [List.length_take] at hlen
   refine ⟨_, _, rfl, zq9 (by omega), some (.sh (.str m)), ?_⟩
   rw [tk, List.foldl_append]; rfl)
 refine ⟨z', ?_⟩
 have e : zu3 (zxj zu0 (ztZ 9) (zxk (.int 4))) (zw9 bs ss js us ls ks h acc :: zwM bs ss js us ls ks h (some (.sh (zbr j))) z) = some (j.ms.map D.str) := by
  simp only [ztZ, zxk, zxj, zu3, ziI, zqJ, List.getElem?_cons_zero, List.getElem?_cons_succ, Option.bind_some, zbr]
 unfold zde
 rw [e, Option.bind_some, h1, h2, List.length_map, List.take_length]
theorem znC (hj : js.length <= 40) (hm : ∀ j ∈ js, j.ms.length <= 40) : ∃ z z', zkn (zaN 9) (zde (zu3 (zxj zu0 (ztZ 9) (zxk (.int 4)))) (zaN 10) (zc6 "Shop" "job_by_step" 0 (ztZ 10) (ztZ 9))) (js.map zbr) (zw9 bs ss js us ls ks h [] :: zwM bs ss js us ls ks h none none) = some (.nx, zw9 bs ss js us ls ks h (zuX js) :: zwM bs ss js us ls ks h z z') := by
 obtain ⟨ρ', h1, z, z', h2⟩ := zbM (gg := zaN 9) (body := zde (zu3 (zxj zu0 (ztZ 9) (zxk (.int 4)))) (zaN 10) (zc6 "Shop" "job_by_step" 0 (ztZ 10) (ztZ 9))) (xs := js.map zbr) (ρ := zw9 bs ss js us ls ks h [] :: zwM bs ss js us ls ks h none none)
  (fun i ρ => ∃ z z', ρ = zw9 bs ss js us ls ks h (zuX (js.take i)) :: zwM bs ss js us ls ks h z z') ⟨none, none, by simp [zuX]⟩ (fun i x ρ hx hI => by
   obtain ⟨z, z', rfl⟩ := hI
   rw [List.getElem?_map] at hx
   obtain ⟨j, hjm, rfl⟩ := oMd hx
   have tk : js.take (i + 1) = js.take i ++ [j] := by rw [List.take_add_one, hjm]; rfl
   have hlen := zmd (m := 40) (js := js.take i) [] fun y hy => hm y (List.mem_of_mem_take hy)
   rw [List.length_take, List.length_nil] at hlen
   have h4 := hm j (List.mem_of_getElem? hjm)
   obtain ⟨w, hw⟩ := znQ (bs := bs) (ss := ss) (js := js) (us := us) (ls := ls) (ks := ks) (h := h) (j := j) (acc := zuX (js.take i)) (z := z') (by unfold zuX; omega)
   refine ⟨_, _, rfl, hw, some (.sh (zbr j)), w, ?_⟩
   rw [tk]
   unfold zuX
   rw [List.foldl_append]; rfl)
 refine ⟨z, z', ?_⟩
 rw [h1, h2, List.length_map, List.take_length]
theorem zqe (g : Good bs ss js us ls ks h) (ml : (js.flatMap (·.ms)).length <= 300) : zbc [.lst (bs.map zaS), .lst (ss.map za0), .lst (js.map zbr), .lst (us.map zec), .lst (ls.map zcL), .lst (ks.map zb2), .int h] = some (zbL bs ss js us ls ks h) := by
 have hl : (ss.map (·.nm)).length <= 40 := by rw [List.length_map]; exact g.sl.2
 have f1 := zgB (d := .lst (bs.map zaS)) (zd8 (by have := g.bl.2; omega) fun x hx => znu (g.b x hx))
 have f2 := zgB (d := .lst (ss.map za0)) (zd8 (by have := g.sl.2; omega) fun x hx => zpy (g.s x hx))
 have f3 := zgB (d := .lst (js.map zbr)) (zd8 (by have := g.jl; omega) fun x hx => zop hl (g.j x hx))
 have f4 := zgB (d := .lst (us.map zec)) (zd8 (by have := g.ul; omega) fun x hx => zrf)
 have f5 := zgB (d := .lst (ls.map zcL)) (zd8 (by have := g.ll; omega) fun x hx => zpz)
 have f6 := zgB (d := .lst (ks.map zb2)) (zd8 (by have := g.kl; omega) fun x hx => znt hl (g.k x hx))
 obtain ⟨z, z', ho⟩ := znC (bs := bs) (ss := ss) (us := us) (ls := ls) (ks := ks) (h := h) g.jl fun j hj => Nat.le_trans (g.j j hj).ln hl
 have key : ∀ (G : zxa) (ρ' : zaV), G (some (.obj "Shop" []) :: [some (.sh (.lst (bs.map zaS))), some (.sh (.lst (ss.map za0))), some (.sh (.lst (js.map zbr))), some (.sh (.lst (us.map zec))), some (.sh (.lst (ls.map zcL))), some (.sh (.lst (ks.map zb2))), some (.sh (.int h)), none, none, none]) = some (.nx, zw9 bs ss js us ls ks h (zuX js) :: ρ') ->
   zqH 3 "Shop" G [.lst (bs.map zaS), .lst (ss.map za0), .lst (js.map zbr), .lst (us.map zec), .lst (ls.map zcL), .lst (ks.map zb2), .int h] = some (zbL bs ss js us ls ks h) := fun G ρ' e => by
  unfold zqH
  show (G (some (.obj "Shop" []) :: [some (.sh (.lst (bs.map zaS))), some (.sh (.lst (ss.map za0))), some (.sh (.lst (js.map zbr))), some (.sh (.lst (us.map zec))), some (.sh (.lst (ls.map zcL))), some (.sh (.lst (ks.map zb2))), some (.sh (.int h)), none, none, none])).bind _ = _
  rw [e]
  rfl
 refine key _ (zwM bs ss js us ls ks h z z') ((zaL (za1 rfl (zlJ g ml))).trans ?_)
 show zaC _ _ (some (.obj "Shop" []) :: zwM bs ss js us ls ks h none none) = _
 refine (zbh (zaG (b := false) rfl)).trans ?_
 refine (zc7 0 rfl rfl (za1 rfl f1)).trans ?_
 refine (zc7 1 rfl rfl (za1 rfl f2)).trans ?_
 refine (zc7 2 rfl rfl (za1 rfl f3)).trans ?_
 refine (zc7 3 rfl rfl (za1 rfl f4)).trans ?_
 refine (zc7 4 rfl rfl (za1 rfl f5)).trans ?_
 refine (zc7 5 rfl rfl (za1 rfl f6)).trans ?_
 refine (zc7 6 rfl rfl (d := .int h) rfl).trans ?_
 refine (zc7 7 rfl rfl (zmz (f := zaS) (nm := (·.nm)) (xs := bs) (fun x => ⟨_, rfl⟩) (zhL 7 0 rfl rfl) (by have := g.bl.2; omega) g.bn)).trans ?_
 refine (zc7 8 rfl rfl (zmz (f := za0) (nm := (·.nm)) (xs := ss) (fun x => ⟨_, rfl⟩) (zhL 8 1 rfl rfl) (by have := g.sl.2; omega) g.sn)).trans ?_
 refine (zc7 9 rfl rfl (zkp (us := us) (zhL 9 3 rfl rfl) (by have := g.ul; omega) g.un)).trans ?_
 have hno : (zmn bs ss js us ls ks h).lookup ("job_by_step" : Str) = none := zfa (by rw [zgz]; decide +kernel)
 have hle : (zmn bs ss js us ls ks h).length < 100 := by simp [zmn]
 have e1 : zqF "Shop" "job_by_step" 0 (some (.obj "Shop" (zmn bs ss js us ls ks h)) :: zwM bs ss js us ls ks h none none) = some (.nx, zw9 bs ss js us ls ks h [] :: zwM bs ss js us ls ks h none none) := by
  simp only [zqF, List.getElem?_cons_zero, hno, hle, and_self, if_true, List.set_cons_zero]
 have e2 : zu3 (zgZ "Shop" "jobs" 0) (zw9 bs ss js us ls ks h [] :: zwM bs ss js us ls ks h none none) = some (js.map zbr) := by
  have lk : (zmn bs ss js us ls ks h).lookup ("jobs" : Str) = some (.lst (js.map zbr)) := zfX (i := 2) (by rw [zgz]; exact zlR zhO 10) rfl
  have n1 : ("jobs" : Str) ≠ "job_by_step" := by decide +kernel
  have e : zgZ "Shop" "jobs" 0 (zw9 bs ss js us ls ks h [] :: zwM bs ss js us ls ks h none none) = some (.lst (js.map zbr)) := by
   show (if some ("Shop" : Str) = some ("Shop" : Str) then (if ("jobs" : Str) = "job_by_step" then none else (zmn bs ss js us ls ks h).lookup ("jobs" : Str)) else none) = _
   rw [if_pos rfl, if_neg n1, lk]
  unfold zu3
  rw [e]; rfl
 show zaC (zqF "Shop" "job_by_step" 0) (zde (zu3 (zgZ "Shop" "jobs" 0)) (zaN 9) (zde (zu3 (zxj zu0 (ztZ 9) (zxk (.int 4)))) (zaN 10) (zc6 "Shop" "job_by_step" 0 (ztZ 10) (ztZ 9)))) (some (.obj "Shop" (zmn bs ss js us ls ks h)) :: zwM bs ss js us ls ks h none none) = _
 unfold zaC
 rw [e1, Option.bind_some]
 show zde _ _ _ _ = _
 unfold zde
 rw [e2, Option.bind_some]
 exact ho
end
end Law
end
section
namespace Law
open PySem L2
theorem zgw {ft : zw1} {g g' : zxa} {ρ : zaV} {b : Bool} (h : ft ρ = some b) : zuw ft g g' ρ = if b = true then g ρ else g' ρ := by unfold zuw; rw [h]; rfl
theorem zcm {g g' : zxa} {ρ ρ1 : zaV} (h : g ρ = some (.nx, ρ1)) : zaC g g' ρ = g' ρ1 := by unfold zaC; rw [h]; rfl
theorem zj7 {i : Nat} {f : zxe} {ρ : zaV} {d : D} (h : f ρ = some d) : zbs i f ρ = some (.nx, ρ.set i (some (.sh d))) := by unfold zbs; rw [h]; rfl
theorem zgM {i : Nat} {f : zxe} {ρ : zaV} {ds : List D} {d : D} (h1 : ρ[i]? = some (some (.own ds))) (h2 : f ρ = some d) (h3 : ds.length < sizeLine) : zdT i f ρ = some (.nx, ρ.set i (some (.own (ds ++ [d])))) := by
 unfold zdT
 rw [h1]
 show (f ρ).bind _ = _
 rw [h2, Option.bind_some, if_pos h3]
theorem zfy {i : Nat} {g : zxa} {ρ : zaV} : zaC (zfv i (zuh zak)) g ρ = g (ρ.set i (some (.own []))) := by
 have z0 : (0 <= sizeLine) = True := by simp
 simp only [zaC, zfv, zuh, zak, Option.bind_some, Option.map_some, List.length_nil, z0, if_true]
theorem zeM {i : Nat} {g : zxa} {ρ : zaV} {ds : List D} (h1 : ρ[i]? = some (some (.own ds))) : zie i g ρ = g (ρ.set i (some (.sh (.lst ds)))) := by unfold zie; rw [h1]
theorem zcV {fi : zw4} {gg : zwL} {body : zxa} {ρ : zaV} {xs : List D} (h : fi ρ = some xs) : zde fi gg body ρ = zkn gg body xs ρ := by unfold zde; rw [h]; rfl
theorem zcn {a b : Int} (h : 0 < b) : zcf (.int a) (.int b) = some (.int (a % b)) := if_pos h
theorem zhT {a b : Int} (h : 0 < b /\ b < 1073741824) : zew (.int a) (.int b) = some (.int (a / b)) := if_pos h
theorem zs6 : (2 : Int) ^ 64 = 18446744073709551616 := by decide +kernel
theorem zhl {a b : Int} (h : (-1000000000000 < a /\ a < 1000000000000) \/ (-1000000000000 < b /\ b < 1000000000000)) : zd9 (.int a) (.int b) = some (.int (a * b)) := by
 show (if _ then _ else _) = _
 rw [zs6]
 exact if_pos (by omega)
theorem zdO (ns : List Int) (k : Nat) : zav [.scr ns, .int (k : Int)] = some (.int (ns.getD k 0)) := by
 have e : zt5 (zxj zuM (ztZ 1) (zxh zdt (zab (ztZ 0) zak))) [some (.sh (.scr ns)), some (.sh (.int k))] = some (decide (k < ns.length)) := by
  simp only [zt5, zxh, zab, zak, ztZ, zxj, zdt, zuM, List.getElem?_cons_zero, List.getElem?_cons_succ, Option.bind_some, Option.map_some]
  congr 1
  exact decide_eq_decide.mpr (by omega)
 by_cases h : k < ns.length
 ·refine zba [some (.sh (.scr ns)), some (.sh (.int k))] rfl (zja (e.trans (by rw [decide_eq_true h])) (zbb ?_))
  show (atI ns (k : Int)).map D.int = _
  rw [zdP]
  simp [List.getD, h]
 ·refine zba [some (.sh (.scr ns)), some (.sh (.int k))] rfl ((zbh (e.trans (by rw [decide_eq_false h]))).trans (zbb ?_))
  have : ns.getD k 0 = 0 := by simp [List.getD, Nat.le_of_not_lt h]
  rw [this]
  rfl
abbrev zws (c : Int) (k : Nat) (sz : List Int) (n : Int) (ds : List Int) (a b : Option Slot) : zaV := [some (.sh (.int c)), some (.sh (.int k)), some (.sh (.lst (sz.map D.int))), some (.sh (.int n)), some (.own (ds.map D.int)), a, b]
def zjF : zxa := zuw (zuF (zt5 (zxj zvb (zxj zcf (ztZ 0) (zxk (.int 2))) (zxk (.int 1)))) (zt5 (zxj zvb (ztZ 3) (zxk (.int 0))))) (zaC (zbs 3 (zxj zbx (zxj zcf (zxj zbx (ztZ 3) (ztZ 0)) (zxk (.int 2147483629))) (zxk (.int 48271)))) (zaC (zbs 3 (zxj zbx (ztZ 3) (zxj zd9 (zxj zd9 (zxk (.int 7919)) (zxj zbx (ztZ 1) (ztZ 5))) (zxj zbx (ztZ 1) (ztZ 5))))) (zaC (zbs 3 (zxj zcf (zxj zd9 (ztZ 3) (ztZ 3)) (zxk (.int 2147483587)))) (zdT 4 (zxj zcf (zxj zew (ztZ 3) (zxk (.int 16))) (ztZ 6)))))) (zaC (zdT 4 (zxj zcf (ztZ 3) (ztZ 6))) (zbs 3 (zxj zew (ztZ 3) (ztZ 6))))
theorem zn3 {c n s : Int} {k t : Nat} {sz ds : List Int} (hk : k <= 1000) (ht : t <= 100) (hs : 0 < s /\ s < 1073741824) (hl : ds.length <= 100) : ∃ n' d, zjF (zws c k sz n ds (some (.sh (.int t))) (some (.sh (.int s)))) = some (.nx, zws c k sz n' (ds ++ [d]) (some (.sh (.int t))) (some (.sh (.int s)))) /\ 0 <= d /\ d < s := by
 have e1 : zt5 (zxj zvb (zxj zcf (ztZ 0) (zxk (.int 2))) (zxk (.int 1))) (zws c k sz n ds (some (.sh (.int t))) (some (.sh (.int s)))) = some (decide (c % 2 = 1)) :=
  zaG (zay (zay rfl rfl (zcn (by decide))) rfl rfl)
 have e2 : zt5 (zxj zvb (ztZ 3) (zxk (.int 0))) (zws c k sz n ds (some (.sh (.int t))) (some (.sh (.int s)))) = some (decide (n = 0)) := zaG (zay rfl rfl rfl)
 have e3 : zuF (zt5 (zxj zvb (zxj zcf (ztZ 0) (zxk (.int 2))) (zxk (.int 1)))) (zt5 (zxj zvb (ztZ 3) (zxk (.int 0)))) (zws c k sz n ds (some (.sh (.int t))) (some (.sh (.int s)))) = some (decide (c % 2 = 1) || decide (n = 0)) := by
  unfold zuF
  rw [e1, Option.bind_some, e2]
  cases decide (c % 2 = 1) <;> rfl
 have hsz : (ds.map D.int).length < sizeLine := by rw [List.length_map]; unfold sizeLine; omega
 unfold zjF
 rw [zgw e3]
 split
 ·have q1 : 0 <= (n + c) % 2147483629 := Int.emod_nonneg _ (by decide)
  have q2 : (n + c) % 2147483629 < 2147483629 := Int.emod_lt_of_pos _ (by decide)
  have q3 : 0 <= (k : Int) + t /\ (k : Int) + t <= 1100 := by omega
  have q4 : 0 <= 7919 * ((k : Int) + t) * ((k : Int) + t) := Int.mul_nonneg (by omega) q3.1
  have q5 : 7919 * ((k : Int) + t) * ((k : Int) + t) <= 7919 * 1100 * 1100 := Int.mul_le_mul (by omega) q3.2 q3.1 (by decide)
  let n2 : Int := (n + c) % 2147483629 + 48271 + 7919 * ((k : Int) + t) * ((k : Int) + t)
  refine ⟨n2 * n2 % 2147483587, n2 * n2 % 2147483587 / 16 % s, (zaL (zay (zay (zay rfl rfl rfl) rfl (zcn (by decide))) rfl rfl)).trans ((zaL (zay rfl (zay (zay rfl (zay rfl rfl rfl) (zhl (.inl (by decide)))) (zay rfl rfl rfl) (zhl (.inr (by omega)))) rfl)).trans ((zaL (zay (zay rfl rfl (zhl (.inl (by omega)))) rfl (zcn (by decide)))).trans (zgM rfl (zay (zay rfl rfl (zhT (by decide))) rfl (zcn hs.1)) hsz))) |>.trans ?_, Int.emod_nonneg _ (by omega), Int.emod_lt_of_pos _ hs.1⟩
  simp [zws]
  exact ⟨rfl, rfl⟩
 ·refine ⟨n / s, n % s, (zcm (zgM rfl (zay rfl rfl (zcn hs.1)) hsz)).trans (zj7 (zay rfl rfl (zhT hs))) |>.trans ?_, Int.emod_nonneg _ (by omega), Int.emod_lt_of_pos _ hs.1⟩
  simp [zws]
theorem zeN {xs : List D} {i : Nat} {d : D} (h : (xs.mapIdx fun i d => D.tup [.int i, d])[i]? = some d) : ∃ x, xs[i]? = some x /\ d = .tup [.int i, x] := by
 rw [List.getElem?_mapIdx] at h
 obtain ⟨x, hx, rfl⟩ := oMd h
 exact ⟨x, hx, rfl⟩
theorem zdh (c : Int) (k : Nat) (hk : k <= 1000) (sz : List Int) (hs : ∀ s ∈ sz, 0 < s /\ s < 1073741824) (hl : sz.length <= 100) :
  ∃ ds : List Int, zai [.int c, .int (k : Int), .lst (sz.map D.int)] = some (.lst (ds.map D.int)) /\ ds.length = sz.length /\ ∀ (i : Nat) s, sz[i]? = some s -> ∃ d, ds[i]? = some d /\ 0 <= d /\ d < s := by
 obtain ⟨n0, hn0⟩ : ∃ n0 : Int, zxj zew (zxh zso (zab (ztZ 0) zak)) (zxk (.int 2)) [some (.sh (.int c)), some (.sh (.int k)), some (.sh (.lst (sz.map D.int))), none, none, none, none] = some (.int n0) := ⟨_, zay (za1 (zaj rfl zaD) rfl) rfl (zhT (by decide))⟩
 obtain ⟨ρ', h1, n, ds, a, b, h2, h3, h4⟩ := zbM (gg := zcz 2 (zaH (zaN 5) (zaH (zaN 6) zcy))) (body := zjF) (xs := (sz.map D.int).mapIdx fun i d => D.tup [.int i, d]) (ρ := zws c k sz n0 [] none none)
  (fun i ρ => ∃ n ds a b, ρ = zws c k sz n ds a b /\ ds.length = i /\ ∀ (j : Nat) s, j < i -> sz[j]? = some s -> ∃ d, ds[j]? = some d /\ 0 <= d /\ d < s) ⟨n0, [], none, none, rfl, rfl, fun j s hj => by omega⟩ (fun i x ρ hx hI => by
   obtain ⟨n, ds, a, b, rfl, hlen, hb⟩ := hI
   obtain ⟨y, hy, rfl⟩ := zeN hx
   rw [List.getElem?_map] at hy
   obtain ⟨s, hsi, rfl⟩ := oMd hy
   have hi : i < sz.length := (List.getElem?_eq_some_iff.mp hsi).1
   obtain ⟨n', d, e1, e2, e3⟩ := zn3 (c := c) (n := n) (k := k) (t := i) (sz := sz) (ds := ds) hk (by omega) (hs s (List.mem_of_getElem? hsi)) (by omega)
   refine ⟨_, _, rfl, e1, n', ds ++ [d], _, _, rfl, by rw [List.length_append, hlen]; rfl, fun j s' hj hs' => ?_⟩
   by_cases hji : j = i
   ·subst hji
    rw [hsi] at hs'
    cases hs'
    exact ⟨d, by rw [List.getElem?_append_right (by omega), hlen, Nat.sub_self]; rfl, e2, e3⟩
   ·obtain ⟨d', q1, q2⟩ := hb j s' (by omega) hs'
    exact ⟨d', by rw [List.getElem?_append_left (by omega)]; exact q1, q2⟩)
 rw [List.length_mapIdx, List.length_map] at h3 h4
 refine ⟨ds, ?_, h3, fun i s hi => h4 i s (List.getElem?_eq_some_iff.mp hi).1 hi⟩
 refine zba [some (.sh (.int c)), some (.sh (.int k)), some (.sh (.lst (sz.map D.int))), none, none, none, none] rfl ((zaL hn0).trans (zfy.trans ((zcm ((zcV (xs := (sz.map D.int).mapIdx fun i d => D.tup [.int i, d]) rfl).trans (h1.trans (by rw [h2])))).trans ((zeM rfl).trans (zbb (f := ztZ 4) rfl)))))
end Law
end
section
namespace Law
open PySem L2
def nm (k : Nat) : Str := match zar [.int (k : Int)] with
 | some (.str x) => x
 | _ => ⟨#[]⟩
def zto (k : Nat) : Bool := match zar [.int (k : Int)] with
 | some (.str x) => zaR x
 | _ => false
theorem zrF : ∀ k, k < 90 -> zto k = true := by decide +kernel
theorem ziE {k : Nat} (h : k < 90) : zar [.int (k : Int)] = some (.str (nm k)) /\ zaR (nm k) = true := by
 have := zrF k h
 unfold zto at this
 unfold nm
 split at this
 ·rename_i x e
  rw [e]
  exact ⟨rfl, this⟩
 ·cases this
theorem zpU : ∀ i, i < 10 -> ∀ j, j < 10 -> nm i = nm j -> i = j := by decide +kernel
theorem zpT : ∀ i, i < 3 -> ∀ j, j < 3 -> nm (60 + i) = nm (60 + j) -> i = j := by decide +kernel
theorem zpS : ∀ i, i < 3 -> ∀ j, j < 3 -> nm (70 + i) = nm (70 + j) -> i = j := by decide +kernel
theorem zpR : ∀ i, i < 3 -> ∀ j, j < 3 -> nm (80 + i) = nm (80 + j) -> i = j := by decide +kernel
def zuC (i : Nat) : Str := if i = 0 then "p" else if i = 1 then "q" else "r"
theorem zhh : ∀ i, i < 3 -> zaR (zuC i) = true := by decide +kernel
theorem zlE {i : Int} (h0 : 0 <= i) (h : i < 3) : zu0 (.str "pqr") (.int i) = some (.str (zuC i.toNat)) := by
 have : i = 0 \/ i = 1 \/ i = 2 := by omega
 rcases this with rfl | rfl | rfl <;> rfl
theorem zr7 {xs : List D} {d : Int} (h : 0 <= d) : zhd none (some d) (.lst xs) = some (.lst (xs.take d.toNat)) := by
 show some (D.lst (zi9 xs none (some d))) = _
 unfold zi9 HT.sIx
 simp only
 rw [if_neg (by omega), List.drop_zero, Nat.sub_zero]
 congr 2
 rw [Nat.min_def]
 split
 ·rfl
 ·rw [List.take_of_length_le (Nat.le_refl _), List.take_of_length_le (by omega)]
theorem zr6 {xs : List D} {d : Int} (h : 0 <= d) : zhd (some d) none (.lst xs) = some (.lst (xs.drop d.toNat)) := by
 show some (D.lst (zi9 xs (some d) none)) = _
 unfold zi9 HT.sIx
 simp only
 rw [if_neg (by omega)]
 congr 2
 rw [Nat.min_def]
 split
 ·rw [List.take_of_length_le (by rw [List.length_drop]; omega)]
 ·rw [List.drop_of_length_le (Nat.le_refl _), List.drop_of_length_le (by omega)]; simp
theorem zpc {f : zxe} {g : zxe} {ρ : zaV} {xs : List D} {d : Int} (h1 : f ρ = some (.lst xs)) (h2 : g ρ = some (.int d)) (h : 0 <= d) : zuu f zwZ (zw0 g) ρ = some (.lst (xs.take d.toNat)) := by
 unfold zuu zwZ zw0
 rw [h1, h2]
 exact zr7 h
theorem zq0 {f : zxe} {g : zxe} {ρ : zaV} {xs : List D} {d : Int} (h1 : f ρ = some (.lst xs)) (h2 : g ρ = some (.int d)) (h : 0 <= d) : zuu f (zw0 g) zwZ ρ = some (.lst (xs.drop d.toNat)) := by
 unfold zuu zwZ zw0
 rw [h1, h2]
 exact zr6 h
structure GoodI (h : Int) (br : List (Int × Int)) : Prop where
 iv : ∀ p ∈ br, 0 <= p.1 /\ p.1 < p.2 /\ p.2 <= h
 gap : ∀ (i : Nat) p q, br[i]? = some p -> br[i + 1]? = some q -> p.2 < q.1
abbrev zwf (rs : List (Int × Int)) (h : Int) (br : List (Int × Int)) (f : Int) (a b c d : Option Slot) : zaV := [some (.sh (.lst (rs.map zvc))), some (.sh (.int h)), some (.own (br.map zvc)), some (.sh (.int f)), a, b, c, d]
def zoj : zxa := zaC (zbs 6 (zxj zbx (ztZ 3) (ztZ 4))) (zaC (zbs 7 (zxj zbx (zxj zbx (ztZ 6) (zxk (.int 1))) (ztZ 5))) (zuw (zt5 (zxj zuU (ztZ 7) (ztZ 1))) (zaC (zdT 2 (zb7 (zuh (zab (ztZ 6) (zab (ztZ 7) zak))))) (zbs 3 (zxj zbx (ztZ 7) (zxk (.int 1))))) zbH))
theorem zc3 {f g : zxe} {ρ : zaV} {x y : D} (h1 : f ρ = some x) (h2 : g ρ = some y) : zb7 (zuh (zab f (zab g zak))) ρ = some (.tup [x, y]) := by
 simp only [zb7, zuh, zab, zak, h1, h2, Option.bind_some, Option.map_some, List.length_cons, List.length_nil, Nat.zero_add, zun, if_true]
theorem zhA {f g e : zxe} {ρ : zaV} {x y z : D} (h1 : f ρ = some x) (h2 : g ρ = some y) (h3 : e ρ = some z) : zb7 (zuh (zab f (zab g (zab e zak)))) ρ = some (.tup [x, y, z]) := by
 simp only [zb7, zuh, zab, zak, h1, h2, h3, Option.bind_some, Option.map_some, List.length_cons, List.length_nil, Nat.zero_add, zum, if_true]
theorem zo0 {f g e a : zxe} {ρ : zaV} {x y z w : D} (h1 : f ρ = some x) (h2 : g ρ = some y) (h3 : e ρ = some z) (h4 : a ρ = some w) : zb7 (zuh (zab f (zab g (zab e (zab a zak))))) ρ = some (.tup [x, y, z, w]) := by
 simp only [zb7, zuh, zab, zak, h1, h2, h3, h4, Option.bind_some, Option.map_some, List.length_cons, List.length_nil, Nat.zero_add, zul, if_true]
theorem zll {f g e a b : zxe} {ρ : zaV} {x y z w u : D} (h1 : f ρ = some x) (h2 : g ρ = some y) (h3 : e ρ = some z) (h4 : a ρ = some w) (h5 : b ρ = some u) : zb7 (zuh (zab f (zab g (zab e (zab a (zab b zak)))))) ρ = some (.tup [x, y, z, w, u]) := by
 simp only [zb7, zuh, zab, zak, h1, h2, h3, h4, h5, Option.bind_some, Option.map_some, List.length_cons, List.length_nil, Nat.zero_add, zuk, if_true]
theorem zne (rs : List (Int × Int)) (h : Int) (hr : ∀ p ∈ rs, 0 <= p.1 /\ 0 <= p.2) (hl : rs.length <= 3) : ∃ br : List (Int × Int), zbn [.lst (rs.map zvc), .int h] = some (.lst (br.map zvc)) /\ br.length <= rs.length /\ GoodI h br := by
 obtain ⟨ρ', h1, br, f, a, b, c, d, h2, h3, h4, h5, h6⟩ := zbM (gg := zcz 2 (zaH (zaN 4) (zaH (zaN 5) zcy))) (body := zoj) (xs := rs.map zvc) (ρ := zwf rs h [] 0 none none none none)
  (fun i ρ => ∃ br f a b c d, ρ = zwf rs h br f a b c d /\ br.length <= i /\ GoodI h br /\ 0 <= f /\ ∀ p ∈ br, p.2 < f) ⟨[], 0, none, none, none, none, rfl, Nat.le_refl _, ⟨fun p hp => (by cases hp), fun i p q hp => (by simp at hp)⟩, Int.le_refl _, fun p hp => (by cases hp)⟩ (fun i x ρ hx hI => by
   obtain ⟨br, f, a, b, c, d, rfl, hlen, hg, hf, hlt⟩ := hI
   rw [List.getElem?_map] at hx
   obtain ⟨p, hp, rfl⟩ := oMd hx
   obtain ⟨p1, p2⟩ := hr p (List.mem_of_getElem? hp)
   have hi : i < rs.length := (List.getElem?_eq_some_iff.mp hp).1
   have hsz : (br.map zvc).length < sizeLine := by rw [List.length_map]; unfold sizeLine; omega
   have pre : ∀ ρ2, (zuw (zt5 (zxj zuU (ztZ 7) (ztZ 1))) (zaC (zdT 2 (zb7 (zuh (zab (ztZ 6) (zab (ztZ 7) zak))))) (zbs 3 (zxj zbx (ztZ 7) (zxk (.int 1))))) zbH) (zwf rs h br f (some (.sh (.int p.1))) (some (.sh (.int p.2))) (some (.sh (.int (f + p.1)))) (some (.sh (.int (f + p.1 + 1 + p.2))))) = some (.nx, ρ2) -> zoj (zwf rs h br f (some (.sh (.int p.1))) (some (.sh (.int p.2))) c d) = some (.nx, ρ2) := fun ρ2 q =>
    (zaL (zay rfl rfl rfl)).trans ((zaL (zay (zay rfl rfl rfl) rfl rfl)).trans q)
   have e : zt5 (zxj zuU (ztZ 7) (ztZ 1)) (zwf rs h br f (some (.sh (.int p.1))) (some (.sh (.int p.2))) (some (.sh (.int (f + p.1)))) (some (.sh (.int (f + p.1 + 1 + p.2))))) = some (decide (f + p.1 + 1 + p.2 <= h)) := zaG (zay rfl rfl rfl)
   by_cases hh : f + p.1 + 1 + p.2 <= h
   ·rw [decide_eq_true hh] at e
    refine ⟨_, _, rfl, pre _ ((zgw e).trans ((if_pos rfl).trans ((zcm (zgM rfl (zc3 rfl rfl) hsz)).trans (zj7 (zay rfl rfl rfl))))), br ++ [(f + p.1, f + p.1 + 1 + p.2)], f + p.1 + 1 + p.2 + 1, some (.sh (.int p.1)), some (.sh (.int p.2)), some (.sh (.int (f + p.1))), some (.sh (.int (f + p.1 + 1 + p.2))), ?_, ?_, ⟨fun q hq => ?_, fun j q q' hq hq' => ?_⟩, by omega, fun q hq => ?_⟩
    ·simp [zwf, zvc]
    ·rw [List.length_append]; simp; omega
    ·rcases List.mem_append.mp hq with z | z
     ·exact hg.iv q z
     ·rw [List.mem_singleton.mp z]; exact ⟨by omega, by omega, hh⟩
    ·have hj : j + 1 < br.length + 1 := by
      have := (List.getElem?_eq_some_iff.mp hq').1
      simpa using this
     rw [List.getElem?_append_left (by omega)] at hq
     by_cases hj2 : j + 1 < br.length
     ·rw [List.getElem?_append_left hj2] at hq'
      exact hg.gap j q q' hq hq'
     ·rw [List.getElem?_append_right (by omega), show j + 1 - br.length = 0 by omega] at hq'
      cases hq'
      have := hlt q (List.mem_of_getElem? hq)
      show q.2 < f + p.1
      omega
    ·rcases List.mem_append.mp hq with z | z
     ·have := hlt q z; omega
     ·rw [List.mem_singleton.mp z]; show f + p.1 + 1 + p.2 < _; omega
   ·rw [decide_eq_false hh] at e
    exact ⟨_, _, rfl, pre _ ((zgw e).trans rfl), br, f, _, _, _, _, rfl, by omega, hg, hf, hlt⟩)
 rw [List.length_map] at h3
 refine ⟨br, zba [some (.sh (.lst (rs.map zvc))), some (.sh (.int h)), none, none, none, none, none, none] rfl (zfy.trans ((zaL (d := .int 0) rfl).trans ((zcm ((zcV (xs := rs.map zvc) rfl).trans (h1.trans (by rw [h2])))).trans ((zeM rfl).trans (zbb (f := ztZ 2) rfl))))), h3, h4⟩
theorem zeA {α : Type} {g : α -> D} {xs : List α} {x : α} {i : Nat} {f : zxe} {ρ : zaV} (h1 : ρ[i]? = some (some (.own (xs.map g)))) (h2 : f ρ = some (g x)) (h3 : xs.length <= 1000) : zdT i f ρ = some (.nx, ρ.set i (some (.own ((xs ++ [x]).map g)))) := by
 rw [zgM h1 h2 (by rw [List.length_map]; unfold sizeLine; omega), List.map_append]; rfl
theorem zlY {f g e : zxe} {ρ : zaV} {x y z : D} (h1 : f ρ = some x) (h2 : g ρ = some y) (h3 : e ρ = some z) : za6 (zuh (zab f (zab g (zab e zak)))) ρ = some (.lst [x, y, z]) := by
 simp only [za6, zuh, zab, zak, h1, h2, h3, Option.bind_some, Option.map_some, List.length_cons, List.length_nil, Nat.zero_add, zum, if_true]
theorem zcl {f : zxe} {ρ : zaV} {ds : List Int} {n : Nat} {d : Int} (h1 : f ρ = some (.lst (ds.map D.int))) (h2 : ds[n]? = some d) : zxj zu0 f (zxk (.int (n : Int))) ρ = some (.int d) :=
 zay h1 rfl (by rw [zuZ, List.getElem?_map, h2]; rfl)
structure BenchAt (h : Int) (i : Nat) (b : BenchT) : Prop where
 nm : b.nm = nm (60 + i)
 len : b.br.length <= 3
 good : GoodI h b.br
abbrev zwb (cs : List Int) (h : Int) (bs : List BenchT) (a b c d : Option Slot) : zaV := [some (.sh (.lst (cs.map D.int))), some (.sh (.int h)), some (.own (bs.map zaS)), a, b, c, d]
def ztr : zxe := za6 (zuh (zab (zxk (.int 4)) (zab (zxk (.int 5)) (zab (zxk (.int 3)) (zab (zxk (.int 7)) (zab (zxk (.int 4)) (zab (zxk (.int 9)) (zab (zxk (.int 5)) zak))))))))
theorem zqz (ρ : zaV) : ztr ρ = some (.lst (([4, 5, 3, 7, 4, 9, 5] : List Int).map D.int)) := rfl
def zoS : zxa := zaC (zbs 5 (zxh zai (zab (ztZ 4) (zab (ztZ 3) (zab ztr zak))))) (zaC (zbs 6 (zuu (za6 (zuh (zab (zb7 (zuh (zab (zxj zu0 (ztZ 5) (zxk (.int 1))) (zab (zxj zu0 (ztZ 5) (zxk (.int 2))) zak)))) (zab (zb7 (zuh (zab (zxj zu0 (ztZ 5) (zxk (.int 3))) (zab (zxj zu0 (ztZ 5) (zxk (.int 4))) zak)))) (zab (zb7 (zuh (zab (zxj zu0 (ztZ 5) (zxk (.int 5))) (zab (zxj zu0 (ztZ 5) (zxk (.int 6))) zak)))) zak))))) zwZ (zw0 (zxj zu0 (ztZ 5) (zxk (.int 0)))))) (zdT 2 (zb7 (zuh (zab (zxh zar (zab (zxj zbx (zxk (.int 60)) (ztZ 3)) zak)) (zab (zxh zbn (zab (ztZ 6) (zab (ztZ 1) zak))) zak))))))
theorem zqy {cs : List Int} {h c : Int} {bs : List BenchT} {i : Nat} {y z : Option Slot} (hi : i < 3) (hl : bs.length <= 3) : ∃ b u v, zoS (zwb cs h bs (some (.sh (.int i))) (some (.sh (.int c))) y z) = some (.nx, zwb cs h (bs ++ [b]) (some (.sh (.int i))) (some (.sh (.int c))) u v) /\ BenchAt h i b := by
 obtain ⟨ds, e, hd, hb⟩ := zdh c i (by omega) [4, 5, 3, 7, 4, 9, 5] (by decide) (by decide)
 obtain ⟨d0, q0, p0, _⟩ := hb 0 4 rfl
 obtain ⟨d1, q1, p1, _⟩ := hb 1 5 rfl
 obtain ⟨d2, q2, p2, _⟩ := hb 2 3 rfl
 obtain ⟨d3, q3, p3, _⟩ := hb 3 7 rfl
 obtain ⟨d4, q4, p4, _⟩ := hb 4 4 rfl
 obtain ⟨d5, q5, p5, _⟩ := hb 5 9 rfl
 obtain ⟨d6, q6, p6, _⟩ := hb 6 5 rfl
 have hrs : ∀ p ∈ ([(d1, d2), (d3, d4), (d5, d6)] : List (Int × Int)).take d0.toNat, 0 <= p.1 /\ 0 <= p.2 := fun p hp => by
  have := List.mem_of_mem_take hp
  simp only [List.mem_cons, List.not_mem_nil, or_false] at this
  rcases this with rfl | rfl | rfl
  ·exact ⟨p1, p2⟩
  ·exact ⟨p3, p4⟩
  ·exact ⟨p5, p6⟩
 obtain ⟨br, es, hbl, hbg⟩ := zne (([(d1, d2), (d3, d4), (d5, d6)] : List (Int × Int)).take d0.toNat) h hrs (by rw [List.length_take]; simp; omega)
 have hn := (ziE (k := 60 + i) (by omega)).1
 have hn' : zar [.int (60 + (i : Int))] = some (.str (nm (60 + i))) := by
  rw [← hn]; congr 2
 refine ⟨⟨nm (60 + i), br⟩, _, _, (zaL (d := .lst (ds.map D.int)) (za1 (zaj rfl (zaj rfl (zaj (zqz _) zaD))) e)).trans ((zaL (d := .lst ((([(d1, d2), (d3, d4), (d5, d6)] : List (Int × Int)).take d0.toNat).map zvc)) ?_).trans (zeA rfl (zc3 (za1 (zaj (zay rfl rfl rfl) zaD) hn') (za1 (zaj rfl (zaj rfl zaD)) es)) (by omega))), rfl, by rw [List.length_take] at hbl; simp at hbl; show br.length <= 3; omega, hbg⟩
 rw [List.map_take]
 exact zpc (xs := [zvc (d1, d2), zvc (d3, d4), zvc (d5, d6)]) (zlY (zc3 (zcl rfl q1) (zcl rfl q2)) (zc3 (zcl rfl q3) (zcl rfl q4)) (zc3 (zcl rfl q5) (zcl rfl q6))) (zcl rfl q0) p0
theorem zjz (cs : List Int) (h : Int) (hl : cs.length <= 3) : ∃ bs : List BenchT, zbg [.lst (cs.map D.int), .int h] = some (.lst (bs.map zaS)) /\ bs.length = cs.length /\ ∀ (i : Nat) b, bs[i]? = some b -> BenchAt h i b := by
 obtain ⟨ρ', h1, bs, a, b, c, d, h2, h3, h4⟩ := zbM (gg := zcz 2 (zaH (zaN 3) (zaH (zaN 4) zcy))) (body := zoS) (xs := (cs.map D.int).mapIdx fun i d => D.tup [.int i, d]) (ρ := zwb cs h [] none none none none)
  (fun i ρ => ∃ bs a b c d, ρ = zwb cs h bs a b c d /\ bs.length = i /\ ∀ (j : Nat) b, bs[j]? = some b -> BenchAt h j b) ⟨[], none, none, none, none, rfl, rfl, fun j b hj => (by simp at hj)⟩ (fun i x ρ hx hI => by
   obtain ⟨bs, a, b, c, d, rfl, hlen, hb⟩ := hI
   obtain ⟨y, hy, rfl⟩ := zeN hx
   rw [List.getElem?_map] at hy
   obtain ⟨s, hsi, rfl⟩ := oMd hy
   have hi : i < cs.length := (List.getElem?_eq_some_iff.mp hsi).1
   obtain ⟨b', u, v, e1, e2⟩ := zqy (cs := cs) (h := h) (c := s) (bs := bs) (i := i) (y := c) (z := d) (by omega) (by omega)
   refine ⟨_, _, rfl, e1, bs ++ [b'], _, _, _, _, rfl, by rw [List.length_append, hlen]; rfl, fun j b'' hj => ?_⟩
   by_cases hji : j < bs.length
   ·rw [List.getElem?_append_left hji] at hj
    exact hb j b'' hj
   ·have hl2 := (List.getElem?_eq_some_iff.mp hj).1
    rw [List.length_append, List.length_singleton] at hl2
    rw [List.getElem?_append_right (by omega), show j - bs.length = 0 by omega] at hj
    cases hj
    rw [show j = i by omega]
    exact e2)
 rw [List.length_mapIdx, List.length_map] at h3
 exact ⟨bs, zba [some (.sh (.lst (cs.map D.int))), some (.sh (.int h)), none, none, none, none, none] rfl (zfy.trans ((zcm ((zcV (xs := (cs.map D.int).mapIdx fun i d => D.tup [.int i, d]) rfl).trans (h1.trans (by rw [h2])))).trans ((zeM rfl).trans (zbb (f := ztZ 2) rfl)))), h3, h4⟩
end Law
end
section
namespace Law
open PySem L2
def zvk (bs : List BenchT) (i : Nat) : Str := (bs.map (·.nm)).getD i ⟨#[]⟩
theorem zmX {bs : List BenchT} {i : Nat} (h : i < bs.length) : zvk bs i ∈ bs.map (·.nm) := by
 unfold zvk
 rw [List.getD_eq_getElem?_getD, List.getElem?_map, List.getElem?_eq_getElem h]
 exact List.mem_map_of_mem (List.getElem_mem h)
theorem zky {bs : List BenchT} {ρ : zaV} {f g : zxe} {d : Int} (h1 : f ρ = some (.lst (bs.map zaS))) (h2 : g ρ = some (.int d)) (h3 : 0 <= d) (h4 : d < bs.length) : zxj zu0 (zxj zu0 f g) (zxk (.int 0)) ρ = some (.str (zvk bs d.toNat)) := by
 obtain ⟨n, rfl⟩ := Int.eq_ofNat_of_zero_le h3
 have hd : n < bs.length := by omega
 have e : zu0 (.lst (bs.map zaS)) (.int (n : Int)) = some (zaS bs[n]) := by
  rw [zuZ, List.getElem?_map, List.getElem?_eq_getElem hd]
  rfl
 refine zay (zay h1 h2 e) rfl ?_
 show zu0 (.tup _) (.int 0) = _
 rw [zjB]
 unfold zvk
 rw [Int.toNat_natCast, List.getD_eq_getElem?_getD, List.getElem?_map, List.getElem?_eq_getElem hd]
 rfl
structure StepAt (bn : List Str) (h : Int) (i : Nat) (s : StepT) : Prop where
 nm : s.nm = nm i
 good : GoodS bn h s
abbrev zwq (cs : List Int) (bs : List BenchT) (h lo : Int) (ss : List StepT) (a b c d : Option Slot) : zaV := [some (.sh (.lst (cs.map D.int))), some (.sh (.lst (bs.map zaS))), some (.sh (.int h)), some (.sh (.int lo)), some (.own (ss.map za0)), a, b, c, d]
theorem zp3 {f : zxe} {ρ : zaV} {x : D} (h1 : f ρ = some x) : zuh (zab f zak) ρ = some [x] := by
 simp only [zuh, zab, zak, h1, Option.bind_some, Option.map_some, List.length_cons, List.length_nil, Nat.zero_add, zuo, if_true]
theorem zlX {f g e a b c : zxe} {ρ : zaV} {x y z w u v : D} (h1 : f ρ = some x) (h2 : g ρ = some y) (h3 : e ρ = some z) (h4 : a ρ = some w) (h5 : b ρ = some u) (h6 : c ρ = some v) : za6 (zuh (zab f (zab g (zab e (zab a (zab b (zab c zak))))))) ρ = some (.lst [x, y, z, w, u, v]) := by
 simp only [za6, zuh, zab, zak, h1, h2, h3, h4, h5, h6, Option.bind_some, Option.map_some, List.length_cons, List.length_nil, Nat.zero_add, zuj, if_true]
theorem zjw {f g e a b c d : zxe} {ρ : zaV} {x y z w u v t : D} (h1 : f ρ = some x) (h2 : g ρ = some y) (h3 : e ρ = some z) (h4 : a ρ = some w) (h5 : b ρ = some u) (h6 : c ρ = some v) (h7 : d ρ = some t) : za6 (zuh (zab f (zab g (zab e (zab a (zab b (zab c (zab d zak)))))))) ρ = some (.lst [x, y, z, w, u, v, t]) := by
 simp only [za6, zuh, zab, zak, h1, h2, h3, h4, h5, h6, h7, Option.bind_some, Option.map_some, List.length_cons, List.length_nil, Nat.zero_add, zui, if_true]
theorem zgi {i : Nat} {fr : zw4} {g : zxa} {ρ : zaV} {ds : List D} (h : fr ρ = some ds) : zaC (zfv i fr) g ρ = g (ρ.set i (some (.own ds))) := by
 simp only [zaC, zfv, h, Option.map_some, Option.bind_some]
theorem zjT {f g : zw1} {ρ : zaV} {a b : Bool} (h1 : f ρ = some a) (h2 : g ρ = some b) : zlb f g ρ = some (a && b) := by
 unfold zlb; rw [h1, Option.bind_some, h2]; cases a <;> rfl
theorem zjt (a : Int) {h : Int} (hh : 1 <= h) : 1 <= 1 + a % h /\ 1 + a % h <= h := by
 have h1 := Int.emod_nonneg a (show h ≠ 0 by omega)
 have h2 := Int.emod_lt_of_pos a (show 0 < h by omega)
 omega
def zoi : zxa := (zaC (zbs 7 (zxh zai (zab (ztZ 6) (zab (zxj zbx (ztZ 5) (zxk (.int 7))) (zab (za6 (zuh (zab (zxk (.int 3)) (zab (zxh zdt (zab (ztZ 1) zak)) (zab (ztZ 3) (zab (zxh zdt (zab (ztZ 1) zak)) (zab (ztZ 3) (zab (zxk (.int 3)) zak)))))))) zak))))) (zaC (zfv 8 (zuh (zab (zb7 (zuh (zab (zxj zu0 (zxj zu0 (ztZ 1) (zxj zu0 (ztZ 7) (zxk (.int 1)))) (zxk (.int 0))) (zab (zxj zbx (zxk (.int 1)) (zxj zcf (zxj zu0 (ztZ 7) (zxk (.int 2))) (ztZ 2))) zak)))) zak))) (zaC (zuw (zlb (zt5 (zxj zvb (zxj zu0 (ztZ 7) (zxk (.int 0))) (zxk (.int 0)))) (zt5 (zxj zuJ (zxj zu0 (ztZ 7) (zxk (.int 3))) (zxj zu0 (ztZ 7) (zxk (.int 1)))))) (zdT 8 (zb7 (zuh (zab (zxj zu0 (zxj zu0 (ztZ 1) (zxj zu0 (ztZ 7) (zxk (.int 3)))) (zxk (.int 0))) (zab (zxj zbx (zxk (.int 1)) (zxj zcf (zxj zu0 (ztZ 7) (zxk (.int 4))) (ztZ 2))) zak))))) zbH) (zie 8 (zdT 4 (zb7 (zuh (zab (zxh zar (zab (ztZ 5) zak)) (zab (zxj zu0 (zxk (.str "pqr")) (zxj zu0 (ztZ 7) (zxk (.int 5)))) (zab (ztZ 8) zak))))))))))
theorem zo8 {cs : List Int} {h lo c : Int} {bs : List BenchT} {ss : List StepT} {i : Nat} {y z : Option Slot} (hh : 1 <= h) (hlo : 0 < lo /\ lo < 1000) (hi : i < 10) (hb : 1 <= bs.length /\ bs.length <= 3) (bnd : (bs.map (·.nm)).Nodup) (hl : ss.length <= 10) :
  ∃ s u v, zoi (zwq cs bs h lo ss (some (.sh (.int i))) (some (.sh (.int c))) y z) = some (.nx, zwq cs bs h lo (ss ++ [s]) (some (.sh (.int i))) (some (.sh (.int c))) u v) /\ StepAt (bs.map (·.nm)) h i s := by
 obtain ⟨ds, e, hd, hbd⟩ := zdh c (i + 7) (by omega) [3, (bs.length : Int), lo, (bs.length : Int), lo, 3] (by
  intro s hs
  simp only [List.mem_cons, List.not_mem_nil, or_false] at hs
  rcases hs with rfl | rfl | rfl | rfl | rfl | rfl <;> omega) (by simp)
 obtain ⟨d0, q0, p0, _⟩ := hbd 0 3 rfl
 obtain ⟨d1, q1, p1, r1⟩ := hbd 1 _ rfl
 obtain ⟨d2, q2, p2, _⟩ := hbd 2 _ rfl
 obtain ⟨d3, q3, p3, r3⟩ := hbd 3 _ rfl
 obtain ⟨d4, q4, p4, _⟩ := hbd 4 _ rfl
 obtain ⟨d5, q5, p5, r5⟩ := hbd 5 3 rfl
 obtain ⟨hn, hnb⟩ := ziE (k := i) (by omega)
 have w1 : (zvk bs d1.toNat) ∈ bs.map (·.nm) := zmX (by omega)
 have w3 : (zvk bs d3.toNat) ∈ bs.map (·.nm) := zmX (by omega)
 have bm : ∀ a b : Nat, a < bs.length -> b < bs.length -> zvk bs a = zvk bs b -> a = b := fun a b ha hb' hab => by
  unfold zvk at hab
  rw [List.getD_eq_getElem?_getD, List.getD_eq_getElem?_getD, List.getElem?_eq_getElem (by simpa using ha), List.getElem?_eq_getElem (by simpa using hb')] at hab
  exact (List.getElem_inj bnd).mp hab
 let W1 : Str × Int := (zvk bs d1.toNat, 1 + d2 % h)
 let W3 : Str × Int := (zvk bs d3.toNat, 1 + d4 % h)
 have e7 : ((i : Int) + 7) = ((i + 7 : Nat) : Int) := by omega
 have eD : zxh zai (zab (ztZ 6) (zab (zxj zbx (ztZ 5) (zxk (.int 7))) (zab (za6 (zuh (zab (zxk (.int 3)) (zab (zxh zdt (zab (ztZ 1) zak)) (zab (ztZ 3) (zab (zxh zdt (zab (ztZ 1) zak)) (zab (ztZ 3) (zab (zxk (.int 3)) zak)))))))) zak))) (zwq cs bs h lo ss (some (.sh (.int i))) (some (.sh (.int c))) y z) = some (.lst (ds.map D.int)) := by
  refine za1 (zaj (d := .int c) rfl (zaj (d := .int ((i : Int) + 7)) (zay rfl rfl rfl) (zaj (zlX rfl (y := .int (bs.length : Nat)) ?_ rfl (w := .int (bs.length : Nat)) ?_ rfl rfl) zaD))) (by rw [e7]; exact e) <;>
  ·refine za1 (zaj rfl zaD) ?_
   show some (D.int _) = _
   rw [List.length_map]
 have fin : ∀ (ws : List (Str × Int)), GoodS (bs.map (·.nm)) h ⟨nm i, zuC d5.toNat, ws⟩ -> zie 8 (zdT 4 (zb7 (zuh (zab (zxh zar (zab (ztZ 5) zak)) (zab (zxj zu0 (zxk (.str "pqr")) (zxj zu0 (ztZ 7) (zxk (.int 5)))) (zab (ztZ 8) zak)))))) (zwq cs bs h lo ss (some (.sh (.int i))) (some (.sh (.int c))) (some (.sh (.lst (ds.map D.int)))) (some (.own (ws.map zw2)))) = some (.nx, zwq cs bs h lo (ss ++ [⟨nm i, zuC d5.toNat, ws⟩]) (some (.sh (.int i))) (some (.sh (.int c))) (some (.sh (.lst (ds.map D.int)))) (some (.sh (.lst (ws.map zw2))))) := fun ws _ =>
  (zeM rfl).trans (zeA rfl (zhA (za1 (zaj rfl zaD) hn) (zay rfl (zcl rfl q5) (zlE p5 r5)) rfl) (by omega))
 have eW : ∀ Z, zuh (zab (zb7 (zuh (zab (zxj zu0 (zxj zu0 (ztZ 1) (zxj zu0 (ztZ 7) (zxk (.int 1)))) (zxk (.int 0))) (zab (zxj zbx (zxk (.int 1)) (zxj zcf (zxj zu0 (ztZ 7) (zxk (.int 2))) (ztZ 2))) zak)))) zak) (zwq cs bs h lo ss (some (.sh (.int i))) (some (.sh (.int c))) (some (.sh (.lst (ds.map D.int)))) Z) = some ([W1].map zw2) := fun Z =>
  zp3 (zc3 (zky rfl (zcl rfl q1) p1 (by omega)) (zay rfl (zay (zcl rfl q2) rfl (zcn (by omega))) rfl))
 have eT : ∀ Z, zlb (zt5 (zxj zvb (zxj zu0 (ztZ 7) (zxk (.int 0))) (zxk (.int 0)))) (zt5 (zxj zuJ (zxj zu0 (ztZ 7) (zxk (.int 3))) (zxj zu0 (ztZ 7) (zxk (.int 1))))) (zwq cs bs h lo ss (some (.sh (.int i))) (some (.sh (.int c))) (some (.sh (.lst (ds.map D.int)))) Z) = some (decide (d0 = 0) && !decide (d3 = d1)) := fun Z =>
  zjT (zaG (zay (zcl rfl q0) rfl rfl)) (zaG (zay (zcl rfl q3) (zcl rfl q1) rfl))
 have g1 : GoodS (bs.map (·.nm)) h ⟨nm i, zuC d5.toNat, [W1]⟩ := ⟨hnb, zhh _ (by omega), by simp, by simp, fun w hw => by
  rw [List.mem_singleton.mp hw]
  exact ⟨w1, zjt d2 hh⟩, by simp⟩
 by_cases ht : (decide (d0 = 0) && !decide (d3 = d1)) = true
 ·have hne : d3 ≠ d1 := by
   simp only [Bool.and_eq_true, Bool.not_eq_true', decide_eq_false_iff_not] at ht
   exact ht.2
  have g2 : GoodS (bs.map (·.nm)) h ⟨nm i, zuC d5.toNat, [W1] ++ [W3]⟩ := ⟨hnb, zhh _ (by omega), by simp, by simp, fun w hw => by
   rcases List.mem_append.mp hw with q | q
   ·rw [List.mem_singleton.mp q]; exact ⟨w1, zjt d2 hh⟩
   ·rw [List.mem_singleton.mp q]; exact ⟨w3, zjt d4 hh⟩, by
   show [zvk bs d1.toNat, zvk bs d3.toNat].Nodup
   rw [List.nodup_cons]
   refine ⟨fun q => ?_, by simp⟩
   have := bm _ _ (by omega) (by omega) (List.mem_singleton.mp q)
   omega⟩
  exact ⟨_, _, _, (zaL eD).trans ((zgi (eW z)).trans ((zcm ((zgw (eT _)).trans ((if_pos ht).trans (zeA (x := W3) rfl (zc3 (zky rfl (zcl rfl q3) p3 (by omega)) (zay rfl (zay (zcl rfl q4) rfl (zcn (by omega))) rfl)) (by simp))))).trans (fin _ g2))), rfl, g2⟩
 ·exact ⟨_, _, _, (zaL eD).trans ((zgi (eW z)).trans ((zcm ((zgw (eT _)).trans ((if_neg ht).trans rfl))).trans (fin _ g1))), rfl, g1⟩
theorem zlW (cs : List Int) (bs : List BenchT) (h lo : Int) (hh : 1 <= h) (hlo : 0 < lo /\ lo < 1000) (hl : cs.length <= 10) (hb : 1 <= bs.length /\ bs.length <= 3) (bnd : (bs.map (·.nm)).Nodup) : ∃ ss : List StepT, zbC [.lst (cs.map D.int), .lst (bs.map zaS), .int h, .int lo] = some (.lst (ss.map za0)) /\ ss.length = cs.length /\ ∀ (i : Nat) s, ss[i]? = some s -> StepAt (bs.map (·.nm)) h i s := by
 obtain ⟨ρ', h1, ss, a, b, c, d, h2, h3, h4⟩ := zbM (gg := zcz 2 (zaH (zaN 5) (zaH (zaN 6) zcy))) (body := zoi) (xs := (cs.map D.int).mapIdx fun i d => D.tup [.int i, d]) (ρ := zwq cs bs h lo [] none none none none)
  (fun i ρ => ∃ ss a b c d, ρ = zwq cs bs h lo ss a b c d /\ ss.length = i /\ ∀ (j : Nat) s, ss[j]? = some s -> StepAt (bs.map (·.nm)) h j s) ⟨[], none, none, none, none, rfl, rfl, fun j b hj => (by simp at hj)⟩ (fun i x ρ hx hI => by
   obtain ⟨ss, a, b, c, d, rfl, hlen, hb'⟩ := hI
   obtain ⟨y, hy, rfl⟩ := zeN hx
   rw [List.getElem?_map] at hy
   obtain ⟨s, hsi, rfl⟩ := oMd hy
   have hi : i < cs.length := (List.getElem?_eq_some_iff.mp hsi).1
   obtain ⟨s', u, v, e1, e2⟩ := zo8 (cs := cs) (h := h) (lo := lo) (c := s) (bs := bs) (ss := ss) (i := i) (y := c) (z := d) hh hlo (by omega) hb bnd (by omega)
   refine ⟨_, _, rfl, e1, ss ++ [s'], _, _, _, _, rfl, by rw [List.length_append, hlen]; rfl, fun j b'' hj => ?_⟩
   by_cases hji : j < ss.length
   ·rw [List.getElem?_append_left hji] at hj
    exact hb' j b'' hj
   ·have hl2 := (List.getElem?_eq_some_iff.mp hj).1
    rw [List.length_append, List.length_singleton] at hl2
    rw [List.getElem?_append_right (by omega), show j - ss.length = 0 by omega] at hj
    cases hj
    rw [show j = i by omega]
    exact e2)
 rw [List.length_mapIdx, List.length_map] at h3
 exact ⟨ss, zba [some (.sh (.lst (cs.map D.int))), some (.sh (.lst (bs.map zaS))), some (.sh (.int h)), some (.sh (.int lo)), none, none, none, none, none] rfl (zfy.trans ((zcm ((zcV (xs := (cs.map D.int).mapIdx fun i d => D.tup [.int i, d]) rfl).trans (h1.trans (by rw [h2])))).trans ((zeM rfl).trans (zbb (f := ztZ 4) rfl)))), h3, h4⟩
end Law
end
section
namespace Law
open PySem L2
theorem zdZ : ∀ (ns : List Str), PyData.depthAll (ns.map PyData.str) = 0
 | [] => by simp [PyData.depthAll]
 | x :: r => by simp [PyData.depthAll, PyData.depth, zdZ r]
theorem zjb {ns : List Str} (h : ∀ x ∈ ns, zaR x = true) : SeqAt.shaped (.list (ns.map PyData.str)) = true := by
 simp [SeqAt.shaped, PyData.canLay0, zdW h, PyData.depth, zdZ]
theorem zpW {ns : List Str} (h : ∀ x ∈ ns, zaR x = true) : zuJ (.lst (ns.map D.str)) (.lst []) = some (.bl (!ns.isEmpty)) := by
 have e0 : zuJ (.lst (ns.map D.str)) (.lst []) = zpV (.lst (ns.map D.str)) (.lst []) := rfl
 have s1 := zjb h
 have s2 : SeqAt.shaped (.list []) = true := by simp [SeqAt.shaped, PyData.canLay0, PyData.canLayAll0, PyData.depth, PyData.depthAll]
 have p1 : zuD (.lst (ns.map D.str)) = some (.list (ns.map PyData.str)) := by simp [zuD, zgg]
 have p2 : zuD (.lst []) = some (.list []) := by simp [zuD, zig]
 have q : PyData.eqv (.list (ns.map PyData.str)) (.list []) = ns.isEmpty := by
  cases ns <;> simp [PyData.eqv, PyData.eqvAll]
 rw [e0]
 unfold zpV zu9
 rw [p1, p2, Option.bind_some, Option.bind_some, if_pos ⟨s1, s2⟩, q]
 rfl
abbrev zwB (cs : List Int) (ss : List StepT) (h : Int) (js : List JobT) (lf : List Str) (a b c d e f : Option Slot) : zaV := [some (.sh (.lst (cs.map D.int))), some (.sh (.lst (ss.map za0))), some (.sh (.int h)), some (.own (js.map zbr)), some (.sh (.lst (lf.map D.str))), a, b, c, d, e, f]
structure JInv (sn : List Str) (h : Int) (i : Nat) (js : List JobT) (lf : List Str) : Prop where
 len : js.length <= i
 nd : (js.flatMap (·.ms) ++ lf).Nodup
 sub : ∀ x ∈ js.flatMap (·.ms) ++ lf, x ∈ sn
 ll : lf.length <= sn.length
 good : ∀ j ∈ js, GoodJ sn h j
 nmd : (js.map (·.nm)).Nodup
 nmk : ∀ j ∈ js, ∃ k, k < i /\ j.nm = nm (70 + k)
def zoy : zxa := (zaC (zbs 7 (zxh zai (zab (ztZ 6) (zab (zxj zbx (ztZ 5) (zxk (.int 17))) (zab (za6 (zuh (zab (zxk (.int 4)) (zab (zxk (.int 3)) (zab (zxk (.int 3)) (zab (zxk (.int 2)) (zab (zxk (.int 5)) (zab (zxk (.int 7)) zak)))))))) zak))))) (zaC (zbs 8 (zuu (ztZ 4) zwZ (zw0 (zxj zu0 (ztZ 7) (zxk (.int 0)))))) (zaC (zbs 4 (zuu (ztZ 4) (zw0 (zxj zu0 (ztZ 7) (zxk (.int 0)))) zwZ)) (zuw (zt5 (zxj zuJ (ztZ 8) (za6 (zuh zak)))) (zaC (zbs 9 (zxh zlV (zab (ztZ 2) (zab (zxj zd9 (zxj zu0 (ztZ 7) (zxk (.int 1))) (zxh znP (zab (zxj zvb (zxj zu0 (ztZ 7) (zxk (.int 2))) (zxk (.int 0))) zak))) zak)))) (zaC (zbs 10 (zxh zqI (zab (zxk (.int 0)) (zab (zxj zog (ztZ 2) (zxj zd9 (zxj zu0 (ztZ 7) (zxk (.int 4))) (zxh znP (zab (zxj zvb (zxj zu0 (ztZ 7) (zxk (.int 2))) (zxk (.int 1))) zak)))) zak)))) (zaC (zbs 8 (zxj zbx (zuu (ztZ 8) (zw0 (zxj zcf (zxj zu0 (ztZ 7) (zxk (.int 5))) (zxk (.int 2)))) zwZ) (zuu (ztZ 8) zwZ (zw0 (zxj zcf (zxj zu0 (ztZ 7) (zxk (.int 5))) (zxk (.int 2))))))) (zdT 3 (zb7 (zuh (zab (zxh zar (zab (zxj zbx (zxk (.int 70)) (ztZ 5)) zak)) (zab (ztZ 9) (zab (ztZ 10) (zab (zxj zvb (zxj zu0 (ztZ 7) (zxk (.int 3))) (zxk (.int 1))) (zab (ztZ 8) zak))))))))))) zbH))))
theorem zpY {h a : Int} (hh : 1 <= h) (ha : 0 <= a) : ∃ m, zlV [.int h, .int a] = some (.int m) /\ 0 <= m /\ m <= h := by
 refine ⟨_, rfl, ?_, ?_⟩
 ·omega
 ·omega
theorem zp0 {h a : Int} (hh : 1 <= h) (ha : a <= h) : ∃ m, zqI [.int 0, .int a] = some (.int m) /\ 0 <= m /\ m <= h := by
 refine ⟨_, rfl, ?_, ?_⟩
 ·omega
 ·omega
theorem zmp {f : zxe} {ρ : zaV} {a c : Int} (h : f ρ = some (.int a)) : ∃ b : Int, zxh znP (zab (zxj zvb f (zxk (.int c))) zak) ρ = some (.int b) /\ 0 <= b /\ b <= 1 := by
 refine ⟨if decide (a = c) = true then 1 else 0, za1 (zaj (zay h rfl rfl) zaD) rfl, ?_, ?_⟩ <;> split <;> decide
theorem zp9 {cs : List Int} {h c : Int} {ss : List StepT} {js : List JobT} {lf : List Str} {i : Nat} {y z w v : Option Slot} (hh : 1 <= h) (hi : i < 3) (hs : ∀ x ∈ ss.map (·.nm), zaR x = true) (I : JInv (ss.map (·.nm)) h i js lf) (hsl : ss.length <= 40) :
  ∃ js' lf' y' z' w' v', zoy (zwB cs ss h js lf (some (.sh (.int i))) (some (.sh (.int c))) y z w v) = some (.nx, zwB cs ss h js' lf' (some (.sh (.int i))) (some (.sh (.int c))) y' z' w' v') /\ JInv (ss.map (·.nm)) h (i + 1) js' lf' := by
 obtain ⟨ds, e, hd, hbd⟩ := zdh c (i + 17) (by omega) [4, 3, 3, 2, 5, 7] (by decide) (by decide)
 obtain ⟨d0, q0, p0, r0⟩ := hbd 0 4 rfl
 obtain ⟨d1, q1, p1, _⟩ := hbd 1 3 rfl
 obtain ⟨d2, q2, p2, _⟩ := hbd 2 3 rfl
 obtain ⟨d3, q3, p3, _⟩ := hbd 3 2 rfl
 obtain ⟨d4, q4, p4, _⟩ := hbd 4 5 rfl
 obtain ⟨d5, q5, p5, _⟩ := hbd 5 7 rfl
 have hn := (ziE (k := 70 + i) (by omega)).1
 have hnb := (ziE (k := 70 + i) (by omega)).2
 have hn' : zar [.int (70 + (i : Int))] = some (.str (nm (70 + i))) := by rw [← hn]; congr 2
 have e17 : ((i : Int) + 17) = ((i + 17 : Nat) : Int) := by omega
 generalize hsm : lf.take d0.toNat = sm
 generalize hlf : lf.drop d0.toNat = lf'
 have hlf2 : lf = sm ++ lf' := by rw [← hsm, ← hlf, List.take_append_drop]
 have hslen : sm.length <= 3 := by rw [← hsm, List.length_take]; omega
 have hsml : sm.length + lf'.length = lf.length := by rw [hlf2, List.length_append]
 have hsn : ∀ x ∈ sm, zaR x = true := fun x hx => hs x (I.sub x (List.mem_append_right _ (by rw [hlf2]; exact List.mem_append_left _ hx)))
 have eD : zxh zai (zab (ztZ 6) (zab (zxj zbx (ztZ 5) (zxk (.int 17))) (zab (za6 (zuh (zab (zxk (.int 4)) (zab (zxk (.int 3)) (zab (zxk (.int 3)) (zab (zxk (.int 2)) (zab (zxk (.int 5)) (zab (zxk (.int 7)) zak)))))))) zak))) (zwB cs ss h js lf (some (.sh (.int i))) (some (.sh (.int c))) y z w v) = some (.lst (ds.map D.int)) :=
  za1 (zaj (d := .int c) rfl (zaj (d := .int ((i : Int) + 17)) (zay rfl rfl rfl) (zaj (zlX rfl rfl rfl rfl rfl rfl) zaD))) (by rw [e17]; exact e)
 have e8 : zuu (ztZ 4) zwZ (zw0 (zxj zu0 (ztZ 7) (zxk (.int 0)))) (zwB cs ss h js lf (some (.sh (.int i))) (some (.sh (.int c))) (some (.sh (.lst (ds.map D.int)))) z w v) = some (.lst (sm.map D.str)) := by
  rw [← hsm, List.map_take]
  exact zpc rfl (zcl rfl q0) p0
 have e4 : zuu (ztZ 4) (zw0 (zxj zu0 (ztZ 7) (zxk (.int 0)))) zwZ (zwB cs ss h js lf (some (.sh (.int i))) (some (.sh (.int c))) (some (.sh (.lst (ds.map D.int)))) (some (.sh (.lst (sm.map D.str)))) w v) = some (.lst (lf'.map D.str)) := by
  rw [← hlf, List.map_drop]
  exact zq0 rfl (zcl rfl q0) p0
 have eT : zt5 (zxj zuJ (ztZ 8) (za6 (zuh zak))) (zwB cs ss h js lf' (some (.sh (.int i))) (some (.sh (.int c))) (some (.sh (.lst (ds.map D.int)))) (some (.sh (.lst (sm.map D.str)))) w v) = some (!sm.isEmpty) := zaG (zay rfl (y := .lst []) rfl (zpW hsn))
 by_cases hem : sm.isEmpty = true
 ·have hsm0 : sm = [] := List.isEmpty_iff.mp hem
  rw [hem] at eT
  refine ⟨js, lf', _, _, _, _, (zaL eD).trans ((zaL e8).trans ((zaL e4).trans ((zgw eT).trans rfl))), ⟨by have := I.len; omega, ?_, ?_, by have := I.ll; omega, I.good, I.nmd, fun j hj => ?_⟩⟩
  ·have := I.nd; rw [hlf2, hsm0] at this; exact this
  ·have := I.sub; rw [hlf2, hsm0] at this; exact this
  ·obtain ⟨k, h1, h2⟩ := I.nmk j hj
   exact ⟨k, by omega, h2⟩
 ·have hem' : sm.isEmpty = false := by simpa using hem
  rw [hem'] at eT
  have hs1 : 1 <= sm.length := by
   cases sm with
   | nil => simp at hem
   | cons a b => simp
  obtain ⟨zwE, f1, f2, f3⟩ := zmp (c := 0) (f := zxj zu0 (ztZ 7) (zxk (.int 2))) (ρ := zwB cs ss h js lf' (some (.sh (.int i))) (some (.sh (.int c))) (some (.sh (.lst (ds.map D.int)))) (some (.sh (.lst (sm.map D.str)))) w v) (zcl rfl q2)
  obtain ⟨ea, m1, m2, m3⟩ := zpY (h := h) (a := d1 * zwE) hh (Int.mul_nonneg p1 f2)
  have e9 : zxh zlV (zab (ztZ 2) (zab (zxj zd9 (zxj zu0 (ztZ 7) (zxk (.int 1))) (zxh znP (zab (zxj zvb (zxj zu0 (ztZ 7) (zxk (.int 2))) (zxk (.int 0))) zak))) zak)) (zwB cs ss h js lf' (some (.sh (.int i))) (some (.sh (.int c))) (some (.sh (.lst (ds.map D.int)))) (some (.sh (.lst (sm.map D.str)))) w v) = some (.int ea) :=
   za1 (zaj rfl (zaj (zay (zcl rfl q1) f1 (zhl (.inr (by omega)))) zaD)) m1
  obtain ⟨b2', f4, f5, f6⟩ := zmp (c := 1) (f := zxj zu0 (ztZ 7) (zxk (.int 2))) (ρ := zwB cs ss h js lf' (some (.sh (.int i))) (some (.sh (.int c))) (some (.sh (.lst (ds.map D.int)))) (some (.sh (.lst (sm.map D.str)))) (some (.sh (.int ea))) v) (zcl rfl q2)
  obtain ⟨du, n1, n2, n3⟩ := zp0 (h := h) (a := h - d4 * b2') hh (by have := Int.mul_nonneg p4 f5; omega)
  have e10 : zxh zqI (zab (zxk (.int 0)) (zab (zxj zog (ztZ 2) (zxj zd9 (zxj zu0 (ztZ 7) (zxk (.int 4))) (zxh znP (zab (zxj zvb (zxj zu0 (ztZ 7) (zxk (.int 2))) (zxk (.int 1))) zak)))) zak)) (zwB cs ss h js lf' (some (.sh (.int i))) (some (.sh (.int c))) (some (.sh (.lst (ds.map D.int)))) (some (.sh (.lst (sm.map D.str)))) (some (.sh (.int ea))) v) = some (.int du) :=
   za1 (zaj rfl (zaj (zay rfl (zay (zcl rfl q4) f4 (zhl (.inr (by omega)))) rfl) zaD)) n1
  have t0 : 0 <= d5 % 2 := Int.emod_nonneg _ (by decide)
  generalize htt : (d5 % 2).toNat = t
  have hrl : (sm.drop t ++ sm.take t).length = sm.length := by rw [List.length_append, List.length_drop, List.length_take]; omega
  have e8' : zxj zbx (zuu (ztZ 8) (zw0 (zxj zcf (zxj zu0 (ztZ 7) (zxk (.int 5))) (zxk (.int 2)))) zwZ) (zuu (ztZ 8) zwZ (zw0 (zxj zcf (zxj zu0 (ztZ 7) (zxk (.int 5))) (zxk (.int 2))))) (zwB cs ss h js lf' (some (.sh (.int i))) (some (.sh (.int c))) (some (.sh (.lst (ds.map D.int)))) (some (.sh (.lst (sm.map D.str)))) (some (.sh (.int ea))) (some (.sh (.int du)))) = some (.lst ((sm.drop t ++ sm.take t).map D.str)) := by
   refine zay (zq0 rfl (zay (zcl rfl q5) rfl (zcn (by decide))) t0) (zpc rfl (zay (zcl rfl q5) rfl (zcn (by decide))) t0) ?_
   show (if _ then _ else _) = _
   rw [if_pos, htt, List.map_append, List.map_drop, List.map_take]
   rw [List.length_drop, List.length_take, List.length_map]; unfold sizeLine; omega
  let zxi : JobT := ⟨nm (70 + i), ea, du, decide (d3 = 1), sm.drop t ++ sm.take t⟩
  have perm : (sm.drop t ++ sm.take t).Perm sm := (List.perm_append_comm).trans (by rw [List.take_append_drop])
  have pa : ((js ++ [zxi]).flatMap (·.ms) ++ lf').Perm (js.flatMap (·.ms) ++ lf) := by
   rw [List.flatMap_append, hlf2, List.append_assoc]
   refine List.Perm.append_left _ ?_
   rw [List.flatMap_singleton]
   exact List.Perm.append_right _ perm
  refine ⟨js ++ [zxi], lf', _, _, _, _, (zaL eD).trans ((zaL e8).trans ((zaL e4).trans ((zgw eT).trans ((if_pos rfl).trans ((zaL e9).trans ((zaL e10).trans ((zaL e8').trans (zeA rfl (zll (za1 (zaj (zay rfl rfl rfl) zaD) hn') rfl rfl (zay (zcl rfl q3) rfl rfl) rfl) (by have := I.len; omega))))))))), ⟨?_, ?_, ?_, ?_, ?_, ?_, ?_⟩⟩
  ·rw [List.length_append]; have := I.len; simp; omega
  ·exact (pa.nodup_iff).mpr I.nd
  ·exact fun x hx => I.sub x (pa.mem_iff.mp hx)
  ·have := I.ll; omega
  ·intro j hj
   rcases List.mem_append.mp hj with q | q
   ·exact I.good j q
   ·rw [List.mem_singleton.mp q]
    refine ⟨hnb, ⟨m2, m3⟩, ⟨n2, n3⟩, by show 1 <= (sm.drop t ++ sm.take t).length; omega, by show (sm.drop t ++ sm.take t).length <= _; have := I.ll; omega, fun m hm => ?_⟩
    exact I.sub m (List.mem_append_right _ (by rw [hlf2]; exact List.mem_append_left _ (perm.mem_iff.mp hm)))
  ·rw [List.map_append, List.nodup_append]
   refine ⟨I.nmd, by simp, fun a ha b hb hab => ?_⟩
   obtain ⟨j, hj, rfl⟩ := List.mem_map.mp ha
   obtain ⟨k, hk, hk2⟩ := I.nmk j hj
   have hb' : b = nm (70 + i) := by simpa using hb
   have := zpS k (by omega) i hi (hk2.symm.trans (hab.trans hb'))
   omega
  ·intro j hj
   rcases List.mem_append.mp hj with q | q
   ·obtain ⟨k, h1, h2⟩ := I.nmk j q
    exact ⟨k, by omega, h2⟩
   ·rw [List.mem_singleton.mp q]; exact ⟨i, by omega, rfl⟩
theorem znI (cs : List Int) (ss : List StepT) (h : Int) (hh : 1 <= h) (hl : cs.length <= 3) (hsl : ss.length <= 40) (hs : ∀ x ∈ ss.map (·.nm), zaR x = true) (snd : (ss.map (·.nm)).Nodup) : ∃ js : List JobT, zbR [.lst (cs.map D.int), .lst (ss.map za0), .int h] = some (.lst (js.map zbr)) /\ js.length <= 3 /\ (∀ j ∈ js, GoodJ (ss.map (·.nm)) h j) /\ (js.map (·.nm)).Nodup /\ (js.flatMap (·.ms)).Nodup := by
 obtain ⟨ρ', h1, js, lf, a, b, c, d, e, f, h2, h3⟩ := zbM (gg := zcz 2 (zaH (zaN 5) (zaH (zaN 6) zcy))) (body := zoy) (xs := (cs.map D.int).mapIdx fun i d => D.tup [.int i, d]) (ρ := zwB cs ss h [] (ss.map (·.nm)) none none none none none none)
  (fun i ρ => ∃ js lf a b c d e f, ρ = zwB cs ss h js lf a b c d e f /\ JInv (ss.map (·.nm)) h i js lf) ⟨[], ss.map (·.nm), none, none, none, none, none, none, rfl, ⟨Nat.le_refl _, by simpa using snd, fun x hx => (by simpa using hx), Nat.le_refl _, fun j hj => (by cases hj), by simp, fun j hj => (by cases hj)⟩⟩ (fun i x ρ hx hI => by
   obtain ⟨js, lf, a, b, c, d, e, f, rfl, I⟩ := hI
   obtain ⟨y, hy, rfl⟩ := zeN hx
   rw [List.getElem?_map] at hy
   obtain ⟨s, hsi, rfl⟩ := oMd hy
   have hi : i < cs.length := (List.getElem?_eq_some_iff.mp hsi).1
   obtain ⟨js', lf', y', z', w', v', e1, e2⟩ := zp9 (cs := cs) (h := h) (c := s) (ss := ss) (js := js) (lf := lf) (i := i) (y := c) (z := d) (w := e) (v := f) hh (by omega) hs I hsl
   exact ⟨_, _, rfl, e1, js', lf', _, _, _, _, _, _, rfl, e2⟩)
 rw [List.length_mapIdx, List.length_map] at h3
 have nn := zcO (i := 1) (fv := [none]) (ρ := [some (.sh (.lst (cs.map D.int))), some (.sh (.lst (ss.map za0))), some (.sh (.int h)), some (.own []), none, none, none, none, none, none, none]) (f := za0) (nm := (·.nm)) (xs := ss) (fun x => ⟨_, rfl⟩) rfl (zug hsl (by decide)) rfl
 refine ⟨js, zba [some (.sh (.lst (cs.map D.int))), some (.sh (.lst (ss.map za0))), some (.sh (.int h)), none, none, none, none, none, none, none, none] rfl (zfy.trans ((zaL nn).trans ((zcm ((zcV (xs := (cs.map D.int).mapIdx fun i d => D.tup [.int i, d]) rfl).trans (h1.trans (by rw [h2])))).trans ((zeM rfl).trans (zbb (f := ztZ 3) rfl))))), Nat.le_trans h3.len hl, h3.good, h3.nmd, ?_⟩
 exact (List.nodup_append.mp h3.nd).1
end Law
end
section
namespace Law
open PySem L2
theorem zor (t : List Str) : zuD (.tup (t.map D.str)) = some (.tuple (t.map PyData.str)) := by simp [zuD, zgg]
theorem zlI : ∀ (ts : List (List Str)), zig (ts.map fun t => .tup (t.map D.str)) = some (ts.map fun t => .tuple (t.map PyData.str))
 | [] => by simp [zig]
 | t :: r => by simp [zig, zor, zlI r]
theorem zkk : ∀ {ts : List (List Str)}, (∀ t ∈ ts, ∀ x ∈ t, zaR x = true) -> PyData.canLayAll0 (ts.map fun t => .tuple (t.map PyData.str)) = true
 | [], _ => by simp [PyData.canLayAll0]
 | t :: r, h => by
  simp only [List.map_cons, PyData.canLayAll0, PyData.canLay0, zdW (h t List.mem_cons_self), Bool.true_and]
  exact zkk fun y hy => h y (List.mem_cons_of_mem _ hy)
theorem zhU : ∀ (a b : List Str), PyData.eqvAll (a.map PyData.str) (b.map PyData.str) = decide (a = b)
 | [], [] => by simp [PyData.eqvAll]
 | [], _ :: _ => by simp [PyData.eqvAll]
 | _ :: _, [] => by simp [PyData.eqvAll]
 | x :: r, y :: t => by
  simp only [List.map_cons, PyData.eqvAll, PyData.eqv, zhU r t]
  by_cases e : x = y
  ·subst e; simp
  ·simp [e]
theorem zkz (t : List Str) : ∀ (ts : List (List Str)), ((ts.map fun t => PyData.tuple (t.map PyData.str)).any fun z => PyData.eqv z (.tuple (t.map PyData.str))) = decide (t ∈ ts)
 | [] => by simp
 | y :: r => by
  rw [List.map_cons, List.any_cons, zkz t r]
  simp only [PyData.eqv, zhU]
  by_cases e : y = t
  ·subst e; simp
  ·have : t ≠ y := fun z => e z.symm
   simp [e, this]
theorem zkf {t : List Str} {ts : List (List Str)} (hx : ∀ x ∈ t, zaR x = true) (hn : ∀ y ∈ ts, ∀ x ∈ y, zaR x = true) : zg0 (.tup (t.map D.str)) (.lst (ts.map fun t => .tup (t.map D.str))) = some (.bl (!decide (t ∈ ts))) := by
 have sh : SeqAt.shaped (.tuple (t.map PyData.str)) = true := by simp [SeqAt.shaped, PyData.canLay0, zdW hx, PyData.depth, zdZ]
 have p1 : zuD (.lst (ts.map fun t => .tup (t.map D.str))) = some (.list (ts.map fun t => .tuple (t.map PyData.str))) := by simp [zuD, zlI]
 unfold zg0 zu5
 rw [zor, p1, Option.bind_some, Option.bind_some]
 simp only [sh, zkk hn, and_self, if_true, zkz, Option.map_some]
theorem zlA {α : Type} {f : α -> D} {nm : α -> Str} {xs : List α} {ρ : zaV} {fo g : zxe} {d : Int} (hf : ∀ x, ∃ r, f x = .tup (.str (nm x) :: r)) (h1 : fo ρ = some (.lst (xs.map f))) (h2 : g ρ = some (.int d)) (h3 : 0 <= d) (h4 : d < xs.length) : ∃ x ∈ xs, zxj zu0 (zxj zu0 fo g) (zxk (.int 0)) ρ = some (.str (nm x)) := by
 obtain ⟨n, rfl⟩ := Int.eq_ofNat_of_zero_le h3
 have hd : n < xs.length := by omega
 refine ⟨xs[n], List.getElem_mem hd, zay (zay h1 h2 (show zu0 _ (.int (n : Int)) = some (f xs[n]) by rw [zuZ, List.getElem?_map, List.getElem?_eq_getElem hd]; rfl)) rfl ?_⟩
 obtain ⟨r, e⟩ := hf xs[n]
 rw [e, zjB]
theorem zsR {f g : zxe} {ρ : zaV} {ds : List Int} {n : Nat} {m d : Int} (h1 : f ρ = some (.lst (ds.map D.int))) (h2 : g ρ = some (.int m)) (hm : m = (n : Int)) (h3 : ds[n]? = some d) : zxj zu0 f g ρ = some (.int d) :=
 zay h1 h2 (by rw [hm, zuZ, List.getElem?_map, h3]; rfl)
theorem zl4 {f : zxe} {ρ : zaV} {l : List D} (h : f ρ = some (.lst l)) : zxh zdt (zab f zak) ρ = some (.int (l.length : Nat)) := za1 (zaj h zaD) rfl
theorem zmU {i : Nat} {ft : zw1} {ρ : zaV} {ds : List D} {b : Bool} (h1 : ρ[i]? = some (some (.own ds))) (h2 : ft (ρ.set i (some (.sh (.lst ds)))) = some b) : zvg i ft ρ = some b := by
 unfold zvg; rw [h1]; exact h2
theorem znF {x : List D} {j : Int} (h : -(2 ^ 63) <= j /\ j < 2 ^ 63 /\ x.length * j.toNat <= sizeLine) : zd9 (.lst x) (.int j) = some (.lst (List.replicate j.toNat x).flatten) := if_pos h
theorem zsQ : zd9 (.lst [.int 4]) (.int 6) = some (.lst (([4, 4, 4, 4, 4, 4] : List Int).map D.int)) := znF (x := [.int 4]) (j := 6) (by decide)
structure UInv (bn : List Str) (h : Int) (i : Nat) (us : List SetT) : Prop where
 len : us.length <= i
 good : ∀ u ∈ us, GoodU bn h u
 nd : (us.map fun u => [u.b, u.p, u.q]).Nodup
abbrev zwu (c : Int) (bs : List BenchT) (h : Int) (us : List SetT) (a b d e : Option Slot) : zaV := [some (.sh (.int c)), some (.sh (.lst (bs.map zaS))), some (.sh (.int h)), some (.own (us.map zec)), a, b, d, e]
def zoh : zxa := (zaC (zbs 6 (zxj zu0 (zxj zu0 (ztZ 1) (zxj zcf (ztZ 4) (zxh zdt (zab (ztZ 1) zak)))) (zxk (.int 0)))) (zaC (zbs 7 (zb7 (zuh (zab (ztZ 6) (zab (zxj zu0 (zxk (.str "pqr")) (zxj zcf (ztZ 4) (zxk (.int 3)))) (zab (zxj zu0 (zxk (.str "pqr")) (zxj zcf (zxj zbx (ztZ 4) (ztZ 5)) (zxk (.int 3)))) (zab (zxh zlV (zab (ztZ 2) (zab (ztZ 5) zak))) zak))))))) (zuw (zvg 3 (zlb (zt5 (zxj zu6 (ztZ 5) (zxk (.int 0)))) (zt5 (zxj zg0 (zuu (ztZ 7) zwZ (zw0 (zxk (.int 3)))) (za6 (zaP (zu3 (ztZ 3)) (zaN 0) zw5 (zuu (ztZ 0) zwZ (zw0 (zxk (.int 3)))) [none])))))) (zdT 3 (ztZ 7)) zbH)))
theorem zo6 {c h m : Int} {bs : List BenchT} {us : List SetT} {i : Nat} {y z : Option Slot} (hh : 1 <= h) (hm : 0 <= m) (hi : i < 6) (hb : 1 <= bs.length) (hbn : ∀ x ∈ bs.map (·.nm), zaR x = true) (I : UInv (bs.map (·.nm)) h i us) :
  ∃ us' y' z', zoh (zwu c bs h us (some (.sh (.int i))) (some (.sh (.int m))) y z) = some (.nx, zwu c bs h us' (some (.sh (.int i))) (some (.sh (.int m))) y' z') /\ UInv (bs.map (·.nm)) h (i + 1) us' := by
 have k0 : 0 <= (i : Int) % (bs.length : Nat) := Int.emod_nonneg _ (by omega)
 have zwY : (i : Int) % (bs.length : Nat) < (bs.length : Nat) := Int.emod_lt_of_pos _ (by omega)
 obtain ⟨b, hbm, e6⟩ := zlA (f := zaS) (nm := (·.nm)) (xs := bs) (ρ := zwu c bs h us (some (.sh (.int i))) (some (.sh (.int m))) y z) (fo := ztZ 1) (g := zxj zcf (ztZ 4) (zxh zdt (zab (ztZ 1) zak))) (d := (i : Int) % (bs.length : Nat)) (fun x => ⟨_, rfl⟩) rfl (zay rfl (zl4 rfl) (by rw [List.length_map]; exact zcn (by omega))) k0 zwY
 have t0 : 0 <= (i : Int) % 3 := Int.emod_nonneg _ (by decide)
 have t1 : (i : Int) % 3 < 3 := Int.emod_lt_of_pos _ (by decide)
 have s0 : 0 <= ((i : Int) + m) % 3 := Int.emod_nonneg _ (by decide)
 have s1 : ((i : Int) + m) % 3 < 3 := Int.emod_lt_of_pos _ (by decide)
 let U : SetT := ⟨b.nm, zuC ((i : Int) % 3).toNat, zuC (((i : Int) + m) % 3).toNat, if m < h then m else h⟩
 have e7 : zb7 (zuh (zab (ztZ 6) (zab (zxj zu0 (zxk (.str "pqr")) (zxj zcf (ztZ 4) (zxk (.int 3)))) (zab (zxj zu0 (zxk (.str "pqr")) (zxj zcf (zxj zbx (ztZ 4) (ztZ 5)) (zxk (.int 3)))) (zab (zxh zlV (zab (ztZ 2) (zab (ztZ 5) zak))) zak))))) (zwu c bs h us (some (.sh (.int i))) (some (.sh (.int m))) (some (.sh (.str b.nm))) z) = some (zec U) :=
  zo0 rfl (zay rfl (zay rfl rfl (zcn (by decide))) (zlE t0 t1)) (zay rfl (zay (zay rfl rfl rfl) rfl (zcn (by decide))) (zlE s0 s1)) (za1 (zaj rfl (zaj rfl zaD)) rfl)
 have nU : ∀ x ∈ [U.b, U.p, U.q], zaR x = true := fun x hx => by
  simp only [List.mem_cons, List.not_mem_nil, or_false] at hx
  rcases hx with rfl | rfl | rfl
  ·exact hbn _ (List.mem_map_of_mem hbm)
  ·exact zhh _ (by omega)
  ·exact zhh _ (by omega)
 have nA : ∀ y ∈ us.map (fun u => [u.b, u.p, u.q]), ∀ x ∈ y, zaR x = true := fun y hy x hx => by
  obtain ⟨u, hu, rfl⟩ := List.mem_map.mp hy
  have g := I.good u hu
  simp only [List.mem_cons, List.not_mem_nil, or_false] at hx
  rcases hx with rfl | rfl | rfl
  ·exact hbn _ g.b
  ·exact g.p
  ·exact g.q
 have hul : us.length <= 6 := Nat.le_trans I.len (by omega)
 have eL : za6 (zaP (zu3 (ztZ 3)) (zaN 0) zw5 (zuu (ztZ 0) zwZ (zw0 (zxk (.int 3)))) [none]) [some (.sh (.int c)), some (.sh (.lst (bs.map zaS))), some (.sh (.int h)), some (.sh (.lst (us.map zec))), some (.sh (.int i)), some (.sh (.int m)), some (.sh (.str b.nm)), some (.sh (zec U))] = some (.lst ((us.map fun u => [u.b, u.p, u.q]).map fun t => .tup (t.map D.str))) := by
  rw [List.map_map]
  refine (zbv (r := []) (a := none) (xs := us.map zec) (f := fun d => match d with | .tup [a, b, c, d] => .tup [a, b, c] | _ => .non) rfl (by rw [List.length_map]; exact zug hul (by decide)) rfl fun x hx => ?_).trans ?_
  ·obtain ⟨p, hp, rfl⟩ := List.mem_map.mp hx
   simp only [ztZ, zxk, zuu, zwZ, zw0, List.getElem?_cons_zero, Option.bind_some, zec, zs0]
  ·rw [List.map_map]; rfl
 have eT : zvg 3 (zlb (zt5 (zxj zu6 (ztZ 5) (zxk (.int 0)))) (zt5 (zxj zg0 (zuu (ztZ 7) zwZ (zw0 (zxk (.int 3)))) (za6 (zaP (zu3 (ztZ 3)) (zaN 0) zw5 (zuu (ztZ 0) zwZ (zw0 (zxk (.int 3)))) [none]))))) (zwu c bs h us (some (.sh (.int i))) (some (.sh (.int m))) (some (.sh (.str b.nm))) (some (.sh (zec U)))) = some (decide (0 < m) && !decide ([U.b, U.p, U.q] ∈ us.map fun u => [u.b, u.p, u.q])) :=
  zmU rfl (zjT (zaG (zay rfl rfl rfl)) (zaG (zay (x := .tup ([U.b, U.p, U.q].map D.str)) rfl eL (zkf nU nA))))
 by_cases ht : (decide (0 < m) && !decide ([U.b, U.p, U.q] ∈ us.map fun u => [u.b, u.p, u.q])) = true
 ·have hq : 0 < m /\ [U.b, U.p, U.q] ∉ us.map fun u => [u.b, u.p, u.q] := by simpa using ht
  refine ⟨us ++ [U], _, _, (zaL e6).trans ((zaL e7).trans ((zgw eT).trans ((if_pos ht).trans (zeA (x := U) rfl rfl (by omega))))), ⟨?_, ?_, ?_⟩⟩
  ·rw [List.length_append]; have := I.len; simp; omega
  ·intro u hu
   rcases List.mem_append.mp hu with q | q
   ·exact I.good u q
   ·rw [List.mem_singleton.mp q]
    refine ⟨List.mem_map_of_mem hbm, zhh _ (by omega), zhh _ (by omega), ?_, ?_⟩
    ·show 1 <= if m < h then m else h
     split <;> omega
    ·show (if m < h then m else h) <= h
     split <;> omega
  ·rw [List.map_append, List.nodup_append]
   refine ⟨I.nd, by simp, fun a ha b' hb' hab => ?_⟩
   have : b' = [U.b, U.p, U.q] := by simpa using hb'
   rw [hab, this] at ha
   exact hq.2 ha
 ·exact ⟨us, _, _, (zaL e6).trans ((zaL e7).trans ((zgw eT).trans ((if_neg ht).trans rfl))), ⟨by have := I.len; omega, I.good, I.nd⟩⟩
theorem zkU (c : Int) (bs : List BenchT) (h : Int) (hh : 1 <= h) (hb : 1 <= bs.length) (hbn : ∀ x ∈ bs.map (·.nm), zaR x = true) : ∃ us : List SetT, zbo [.int c, .lst (bs.map zaS), .int h] = some (.lst (us.map zec)) /\ us.length <= 6 /\ (∀ u ∈ us, GoodU (bs.map (·.nm)) h u) /\ (us.map fun u => [u.b, u.p, u.q]).Nodup := by
 obtain ⟨ds, e, hd, hbd⟩ := zdh c 3 (by omega) [4, 4, 4, 4, 4, 4] (by decide) (by decide)
 have eM : zxj zd9 (za6 (zuh (zab (zxk (.int 4)) zak))) (zxk (.int 6)) (zwu c bs h [] none none none none) = some (.lst (([4, 4, 4, 4, 4, 4] : List Int).map D.int)) :=
  zay (x := .lst [.int 4]) (y := .int 6) rfl rfl zsQ
 have hd6 : ds.length = 6 := hd
 obtain ⟨ρ', h1, us, a, b, d, f, h2, h3⟩ := zbM (gg := zcz 2 (zaH (zaN 4) (zaH (zaN 5) zcy))) (body := zoh) (xs := (ds.map D.int).mapIdx fun i d => D.tup [.int i, d]) (ρ := zwu c bs h [] none none none none)
  (fun i ρ => ∃ us a b d e, ρ = zwu c bs h us a b d e /\ UInv (bs.map (·.nm)) h i us) ⟨[], none, none, none, none, rfl, ⟨Nat.le_refl _, fun j hj => (by cases hj), by simp⟩⟩ (fun i x ρ hx hI => by
   obtain ⟨us, a, b, d, e, rfl, I⟩ := hI
   obtain ⟨y, hy, rfl⟩ := zeN hx
   rw [List.getElem?_map] at hy
   obtain ⟨s, hsi, rfl⟩ := oMd hy
   have hi : i < ds.length := (List.getElem?_eq_some_iff.mp hsi).1
   have hs0 : 0 <= s := by
    have h6 : i < 6 := by omega
    have : ([4, 4, 4, 4, 4, 4] : List Int)[i]? = some 4 := by
     have : i = 0 \/ i = 1 \/ i = 2 \/ i = 3 \/ i = 4 \/ i = 5 := by omega
     rcases this with rfl | rfl | rfl | rfl | rfl | rfl <;> rfl
    obtain ⟨d, q1, q2, _⟩ := hbd i 4 this
    rw [hsi] at q1
    cases q1
    exact q2
   obtain ⟨us', y', z', e1, e2⟩ := zo6 (c := c) (h := h) (m := s) (bs := bs) (us := us) (i := i) (y := d) (z := e) hh hs0 (by omega) hb hbn I
   exact ⟨_, _, rfl, e1, us', _, _, _, _, rfl, e2⟩)
 rw [List.length_mapIdx, List.length_map] at h3
 have eI : zu4 (zxh zai (zab (ztZ 0) (zab (zxk (.int 3)) (zab (zxj zd9 (za6 (zuh (zab (zxk (.int 4)) zak))) (zxk (.int 6))) zak)))) (zwu c bs h [] none none none none) = some ((ds.map D.int).mapIdx fun i d => D.tup [.int i, d]) := by
  have : zxh zai (zab (ztZ 0) (zab (zxk (.int 3)) (zab (zxj zd9 (za6 (zuh (zab (zxk (.int 4)) zak))) (zxk (.int 6))) zak))) (zwu c bs h [] none none none none) = some (.lst (ds.map D.int)) := za1 (zaj rfl (zaj rfl (zaj eM zaD))) e
  unfold zu4
  rw [this]; rfl
 exact ⟨us, zba [some (.sh (.int c)), some (.sh (.lst (bs.map zaS))), some (.sh (.int h)), none, none, none, none, none] rfl (zfy.trans ((zcm ((zcV eI).trans (h1.trans (by rw [h2])))).trans ((zeM rfl).trans (zbb (f := ztZ 3) rfl)))), by have := h3.len; omega, h3.good, h3.nd⟩
structure LInv (sn : List Str) (h : Int) (i : Nat) (ls : List LinkT) : Prop where
 len : ls.length <= i
 good : ∀ l ∈ ls, GoodL sn h l
 nd : (ls.map fun l => [l.a, l.b]).Nodup
abbrev zwn (c : Int) (ss : List StepT) (h : Int) (ls : List LinkT) (ds : List Int) (a b d : Option Slot) : zaV := [some (.sh (.int c)), some (.sh (.lst (ss.map za0))), some (.sh (.int h)), some (.own (ls.map zcL)), some (.sh (.lst (ds.map D.int))), a, b, d]
def zos : zxa := (zaC (zbs 6 (zxj zu0 (zxj zu0 (ztZ 1) (zxj zcf (zxj zu0 (ztZ 4) (zxj zbx (zxk (.int 1)) (zxj zd9 (zxk (.int 3)) (ztZ 5)))) (zxh zdt (zab (ztZ 1) zak)))) (zxk (.int 0)))) (zaC (zbs 7 (zxj zu0 (zxj zu0 (ztZ 1) (zxj zcf (zxj zu0 (ztZ 4) (zxj zbx (zxk (.int 2)) (zxj zd9 (zxk (.int 3)) (ztZ 5)))) (zxh zdt (zab (ztZ 1) zak)))) (zxk (.int 0)))) (zuw (zvg 3 (zlb (zt5 (zxj zuJ (ztZ 6) (ztZ 7))) (zt5 (zxj zg0 (zb7 (zuh (zab (ztZ 6) (zab (ztZ 7) zak)))) (za6 (zaP (zu3 (ztZ 3)) (zaN 0) zw5 (zuu (ztZ 0) zwZ (zw0 (zxk (.int 2)))) [none])))))) (zdT 3 (zb7 (zuh (zab (ztZ 6) (zab (ztZ 7) (zab (zxh zlV (zab (ztZ 2) (zab (zxj zu0 (ztZ 4) (zxj zbx (zxk (.int 3)) (zxj zd9 (zxk (.int 3)) (ztZ 5)))) zak))) zak)))))) zbH)))
theorem zp5 {c h : Int} {ss : List StepT} {ls : List LinkT} {ds : List Int} {i : Nat} {y z : Option Slot} (hh : 1 <= h) (hi : i < 2) (hs1 : 1 <= ss.length) (hsn : ∀ x ∈ ss.map (·.nm), zaR x = true) (hds : ∀ j, j < 7 -> ∃ d, ds[j]? = some d /\ 0 <= d) (I : LInv (ss.map (·.nm)) h i ls) :
  ∃ ls' y' z', zos (zwn c ss h ls ds (some (.sh (.int (0 + (i : Int))))) y z) = some (.nx, zwn c ss h ls' ds (some (.sh (.int (0 + (i : Int))))) y' z') /\ LInv (ss.map (·.nm)) h (i + 1) ls' := by
 obtain ⟨x1, q1, p1⟩ := hds (1 + 3 * i) (by omega)
 obtain ⟨x2, q2, p2⟩ := hds (2 + 3 * i) (by omega)
 obtain ⟨x3, q3, p3⟩ := hds (3 + 3 * i) (by omega)
 have ixs : ∀ (n : Nat) (y z : Option Slot) (lst : List D) (x : Int) (k : Int), k = (n : Int) -> ds[n + 3 * i]? = some x -> ∀ s3 : Option Slot, zxj zu0 (ztZ 4) (zxj zbx (zxk (.int k)) (zxj zd9 (zxk (.int 3)) (ztZ 5))) [some (.sh (.int c)), some (.sh (.lst (ss.map za0))), some (.sh (.int h)), s3, some (.sh (.lst (ds.map D.int))), some (.sh (.int (0 + (i : Int)))), y, z] = some (.int x) := fun n y z _ x k hk hx s3 =>
  zsR (n := n + 3 * i) rfl (zay rfl (zay rfl rfl (zhl (.inl (by decide)))) rfl) (by omega) hx
 have m1 : ∀ x : Int, 0 <= x % (ss.length : Nat) /\ x % (ss.length : Nat) < (ss.length : Nat) := fun x => ⟨Int.emod_nonneg _ (by omega), Int.emod_lt_of_pos _ (by omega)⟩
 obtain ⟨sa, ha, e6⟩ := zlA (f := za0) (nm := (·.nm)) (xs := ss) (ρ := zwn c ss h ls ds (some (.sh (.int (0 + (i : Int))))) y z) (fo := ztZ 1) (g := zxj zcf (zxj zu0 (ztZ 4) (zxj zbx (zxk (.int 1)) (zxj zd9 (zxk (.int 3)) (ztZ 5)))) (zxh zdt (zab (ztZ 1) zak))) (d := x1 % (ss.length : Nat)) (fun x => ⟨_, rfl⟩) rfl (zay (ixs 1 y z [] x1 1 rfl q1 _) (zl4 rfl) (by rw [List.length_map]; exact zcn (by omega))) (m1 x1).1 (m1 x1).2
 obtain ⟨sb, hb, e7⟩ := zlA (f := za0) (nm := (·.nm)) (xs := ss) (ρ := zwn c ss h ls ds (some (.sh (.int (0 + (i : Int))))) (some (.sh (.str sa.nm))) z) (fo := ztZ 1) (g := zxj zcf (zxj zu0 (ztZ 4) (zxj zbx (zxk (.int 2)) (zxj zd9 (zxk (.int 3)) (ztZ 5)))) (zxh zdt (zab (ztZ 1) zak))) (d := x2 % (ss.length : Nat)) (fun x => ⟨_, rfl⟩) rfl (zay (ixs 2 _ z [] x2 2 rfl q2 _) (zl4 rfl) (by rw [List.length_map]; exact zcn (by omega))) (m1 x2).1 (m1 x2).2
 let U : LinkT := ⟨sa.nm, sb.nm, if x3 < h then x3 else h⟩
 have nU : ∀ x ∈ [U.a, U.b], zaR x = true := fun x hx => by
  simp only [List.mem_cons, List.not_mem_nil, or_false] at hx
  rcases hx with rfl | rfl
  ·exact hsn _ (List.mem_map_of_mem ha)
  ·exact hsn _ (List.mem_map_of_mem hb)
 have nA : ∀ y ∈ ls.map (fun l => [l.a, l.b]), ∀ x ∈ y, zaR x = true := fun y hy x hx => by
  obtain ⟨u, hu, rfl⟩ := List.mem_map.mp hy
  have g := I.good u hu
  simp only [List.mem_cons, List.not_mem_nil, or_false] at hx
  rcases hx with rfl | rfl
  ·exact hsn _ g.a
  ·exact hsn _ g.b
 have hul : ls.length <= 2 := Nat.le_trans I.len (by omega)
 have eL : za6 (zaP (zu3 (ztZ 3)) (zaN 0) zw5 (zuu (ztZ 0) zwZ (zw0 (zxk (.int 2)))) [none]) [some (.sh (.int c)), some (.sh (.lst (ss.map za0))), some (.sh (.int h)), some (.sh (.lst (ls.map zcL))), some (.sh (.lst (ds.map D.int))), some (.sh (.int (0 + (i : Int)))), some (.sh (.str sa.nm)), some (.sh (.str sb.nm))] = some (.lst ((ls.map fun l => [l.a, l.b]).map fun t => .tup (t.map D.str))) := by
  rw [List.map_map]
  refine (zbv (r := []) (a := none) (xs := ls.map zcL) (f := fun d => match d with | .tup [a, b, c] => .tup [a, b] | _ => .non) rfl (by rw [List.length_map]; exact zug hul (by decide)) rfl fun x hx => ?_).trans ?_
  ·obtain ⟨p, hp, rfl⟩ := List.mem_map.mp hx
   simp only [ztZ, zxk, zuu, zwZ, zw0, List.getElem?_cons_zero, Option.bind_some, zcL, ztq]
  ·rw [List.map_map]; rfl
 have eT : zvg 3 (zlb (zt5 (zxj zuJ (ztZ 6) (ztZ 7))) (zt5 (zxj zg0 (zb7 (zuh (zab (ztZ 6) (zab (ztZ 7) zak)))) (za6 (zaP (zu3 (ztZ 3)) (zaN 0) zw5 (zuu (ztZ 0) zwZ (zw0 (zxk (.int 2)))) [none]))))) (zwn c ss h ls ds (some (.sh (.int (0 + (i : Int))))) (some (.sh (.str sa.nm))) (some (.sh (.str sb.nm)))) = some ((!decide (sa.nm = sb.nm)) && !decide ([U.a, U.b] ∈ ls.map fun l => [l.a, l.b])) :=
  zmU rfl (zjT (zaG (zay rfl rfl (zlQ _ _))) (zaG (zay (x := .tup ([U.a, U.b].map D.str)) (zc3 rfl rfl) eL (zkf nU nA))))
 by_cases ht : ((!decide (sa.nm = sb.nm)) && !decide ([U.a, U.b] ∈ ls.map fun l => [l.a, l.b])) = true
 ·have hq : sa.nm ≠ sb.nm /\ [U.a, U.b] ∉ ls.map fun l => [l.a, l.b] := by simpa using ht
  refine ⟨ls ++ [U], _, _, (zaL e6).trans ((zaL e7).trans ((zgw eT).trans ((if_pos ht).trans (zeA (x := U) rfl (zhA rfl rfl (za1 (zaj rfl (zaj (ixs 3 _ _ [] x3 3 rfl q3 _) zaD)) rfl)) (by omega))))), ⟨?_, ?_, ?_⟩⟩
  ·rw [List.length_append]; have := I.len; simp; omega
  ·intro u hu
   rcases List.mem_append.mp hu with q | q
   ·exact I.good u q
   ·rw [List.mem_singleton.mp q]
    refine ⟨List.mem_map_of_mem ha, List.mem_map_of_mem hb, hq.1, ?_, ?_⟩
    ·show 0 <= if x3 < h then x3 else h
     split <;> omega
    ·show (if x3 < h then x3 else h) <= h
     split <;> omega
  ·rw [List.map_append, List.nodup_append]
   refine ⟨I.nd, by simp, fun a ha b' hb' hab => ?_⟩
   have : b' = [U.a, U.b] := by simpa using hb'
   rw [hab, this] at ha
   exact hq.2 ha
 ·exact ⟨ls, _, _, (zaL e6).trans ((zaL e7).trans ((zgw eT).trans ((if_neg ht).trans rfl))), ⟨by have := I.len; omega, I.good, I.nd⟩⟩
theorem zlB {n i : Nat} {x : D} (h : ((List.range n).map fun k : Nat => D.int (0 + k))[i]? = some x) : i < n /\ x = .int (0 + (i : Int)) := by
 rw [List.getElem?_map] at h
 obtain ⟨k, hk, rfl⟩ := oMd h
 rw [List.getElem?_eq_some_iff] at hk
 obtain ⟨h1, h2⟩ := hk
 rw [List.length_range] at h1
 rw [List.getElem_range] at h2
 subst h2
 exact ⟨h1, rfl⟩
theorem zl2 (c : Int) (ss : List StepT) (h : Int) (hh : 1 <= h) (hs1 : 1 <= ss.length) (hsn : ∀ x ∈ ss.map (·.nm), zaR x = true) : ∃ ls : List LinkT, zbE [.int c, .lst (ss.map za0), .int h] = some (.lst (ls.map zcL)) /\ ls.length <= 2 /\ (∀ l ∈ ls, GoodL (ss.map (·.nm)) h l) /\ (ls.map fun l => [l.a, l.b]).Nodup := by
 obtain ⟨ds, e, hd, hbd⟩ := zdh c 5 (by omega) [3, 9, 9, 4, 9, 9, 4] (by decide) (by decide)
 have hds : ∀ j, j < 7 -> ∃ d, ds[j]? = some d /\ 0 <= d := fun j hj => by
  have : ∃ s, ([3, 9, 9, 4, 9, 9, 4] : List Int)[j]? = some s := ⟨_, List.getElem?_eq_getElem (by simpa using hj)⟩
  obtain ⟨s, hs⟩ := this
  obtain ⟨d, q1, q2, _⟩ := hbd j s hs
  exact ⟨d, q1, q2⟩
 obtain ⟨d0, q0, p0, r0⟩ := hbd 0 3 rfl
 obtain ⟨ρ', h1, ls, a, b, d, h2, h3⟩ := zbM (gg := zaN 5) (body := zos) (xs := (List.range d0.toNat).map fun k : Nat => D.int (0 + k)) (ρ := zwn c ss h [] ds none none none)
  (fun i ρ => ∃ ls a b d, ρ = zwn c ss h ls ds a b d /\ LInv (ss.map (·.nm)) h i ls) ⟨[], none, none, none, rfl, ⟨Nat.le_refl _, fun j hj => (by cases hj), by simp⟩⟩ (fun i x ρ hx hI => by
   obtain ⟨ls, a, b, d, rfl, I⟩ := hI
   obtain ⟨hi, rfl⟩ := zlB hx
   obtain ⟨ls', y', z', e1, e2⟩ := zp5 (c := c) (h := h) (ss := ss) (ls := ls) (ds := ds) (i := i) (y := b) (z := d) hh (by omega) hs1 hsn hds I
   exact ⟨_, _, rfl, e1, ls', _, _, _, rfl, e2⟩)
 rw [List.length_map, List.length_range] at h3
 have eS : zxh zai (zab (ztZ 0) (zab (zxk (.int 5)) (zab (za6 (zuh (zab (zxk (.int 3)) (zab (zxk (.int 9)) (zab (zxk (.int 9)) (zab (zxk (.int 4)) (zab (zxk (.int 9)) (zab (zxk (.int 9)) (zab (zxk (.int 4)) zak))))))))) zak))) [some (.sh (.int c)), some (.sh (.lst (ss.map za0))), some (.sh (.int h)), some (.own []), none, none, none, none] = some (.lst (ds.map D.int)) :=
  za1 (zaj rfl (zaj rfl (zaj (zjw rfl rfl rfl rfl rfl rfl rfl) zaD))) e
 have eI : zu2 zgY (zab (zxj zu0 (ztZ 4) (zxk (.int 0))) zak) (zwn c ss h [] ds none none none) = some ((List.range d0.toNat).map fun k : Nat => D.int (0 + k)) := zfz (zaj (zcl (n := 0) rfl q0) zaD) (zes ⟨p0, by omega⟩)
 exact ⟨ls, zba [some (.sh (.int c)), some (.sh (.lst (ss.map za0))), some (.sh (.int h)), none, none, none, none, none] rfl (zfy.trans ((zaL eS).trans ((zcm ((zcV eI).trans (h1.trans (by rw [h2])))).trans ((zeM rfl).trans (zbb (f := ztZ 3) rfl))))), by have := h3.len; omega, h3.good, h3.nd⟩
end Law
end
section
namespace Law
open PySem L2
theorem zmN {ft : zw1} {fe : zxe} {r : zaV} {v : Int} (ht : ∀ (j : Nat) (s : StepT), ∃ q : Bool, ft (some (.sh (.int (j : Int))) :: some (.sh (za0 s)) :: r) = some q) (he : ∀ (j : Nat) (s : StepT), fe (some (.sh (.int (j : Int))) :: some (.sh (za0 s)) :: r) = some (zw2 (s.nm, v))) :
  ∀ (ss : List StepT) (F : Nat -> Nat) (a b : Option Slot), ∃ sub : List StepT, sub.Sublist ss /\ zfP (zcz 2 (zaH (zaN 0) (zaH (zaN 1) zcy))) ft fe ((ss.map za0).mapIdx fun i d => D.tup [.int (F i : Nat), d]) (a :: b :: r) = some (sub.map fun s => zw2 (s.nm, v))
 | [], _, _, _ => ⟨[], .slnil, rfl⟩
 | s :: ss, F, a, b => by
  obtain ⟨sub, h1, h2⟩ := zmN ht he ss (fun i => F (i + 1)) (some (.sh (.int (F 0 : Nat)))) (some (.sh (za0 s)))
  obtain ⟨q, hq⟩ := ht (F 0) s
  have e0 : zcz 2 (zaH (zaN 0) (zaH (zaN 1) zcy)) (.tup [.int (F 0 : Nat), za0 s]) (a :: b :: r) = some (some (.sh (.int (F 0 : Nat))) :: some (.sh (za0 s)) :: r) := rfl
  rw [List.map_cons, List.mapIdx_cons]
  cases q with
  | true =>
   refine ⟨s :: sub, h1.cons_cons s, ?_⟩
   simp only [zfP, e0, Option.bind_some, hq, if_true, he, h2, Option.map_some, List.map_cons]
  | false =>
   refine ⟨sub, h1.cons s, ?_⟩
   simp only [zfP, e0, Option.bind_some, hq, Bool.false_eq_true, if_false, h2]
def zt6 (n : Int) : zw1 := zt5 (zxj zvb (zxj zcf (zxj zew (zxj zbx (zxj zu0 (ztZ 2) (zxk (.int n))) (ztZ 3)) (zxj zu0 (za6 (zuh (zab (zxk (.int 1)) (zab (zxk (.int 2)) (zab (zxk (.int 4)) zak))))) (zxj zcf (ztZ 0) (zxk (.int 3))))) (zxk (.int 2))) (zxk (.int 1)))
def zt7 (n : Int) : zxe := zb7 (zuh (zab (zxj zu0 (ztZ 1) (zxk (.int 0))) (zab (zxj zbx (zxk (.int 1)) (zxj zu0 (ztZ 2) (zxk (.int n)))) zak)))
def zt8 (n m : Int) : zxe := za6 (zaP (zu4 (ztZ 1)) (zcz 2 (zaH (zaN 0) (zaH (zaN 1) zcy))) (zt6 n) (zt7 m) [none, none, some 2, some 4])
abbrev zwr (c : Int) (ss : List StepT) (ds : List Int) (ks : List StockT) (k a b d : Option Slot) : zaV := [some (.sh (.int c)), some (.sh (.lst (ss.map za0))), some (.sh (.lst (ds.map D.int))), some (.own (ks.map zb2)), k, a, b, d]
theorem zj4 {c k : Int} {ss : List StepT} {ds : List Int} {ks : List StockT} {a b d : Option Slot} {n m : Nat} {x v : Int} (hl : ss.length <= 40) (hn : ds[n]? = some x) (hm : ds[m]? = some v) :
  ∃ sub : List StepT, sub.Sublist ss /\ zt8 (n : Int) (m : Int) (zwr c ss ds ks (some (.sh (.int k))) a b d) = some (.lst ((sub.map fun s => (s.nm, 1 + v)).map zw2)) := by
 have ht : ∀ (j : Nat) (s : StepT), ∃ q : Bool, zt6 (n : Int) (some (.sh (.int (j : Int))) :: some (.sh (za0 s)) :: [some (.sh (.lst (ds.map D.int))), some (.sh (.int k))]) = some q := fun j s => by
  have m0 : 0 <= (j : Int) % 3 := Int.emod_nonneg _ (by decide)
  have m1 : (j : Int) % 3 < 3 := Int.emod_lt_of_pos _ (by decide)
  obtain ⟨w, hw, hw1⟩ : ∃ w : Int, zu0 (.lst [.int 1, .int 2, .int 4]) (.int ((j : Int) % 3)) = some (.int w) /\ (0 < w /\ w < 1073741824) := by
   have : (j : Int) % 3 = 0 \/ (j : Int) % 3 = 1 \/ (j : Int) % 3 = 2 := by omega
   rcases this with z | z | z <;> rw [z]
   ·exact ⟨1, rfl, by decide⟩
   ·exact ⟨2, rfl, by decide⟩
   ·exact ⟨4, rfl, by decide⟩
  exact ⟨_, zaG (zay (zay (zay (zay (zcl rfl hn) rfl rfl) (zay (zlY rfl rfl rfl) (zay rfl rfl (zcn (by decide))) hw) (zhT hw1)) rfl (zcn (by decide))) rfl rfl)⟩
 have he : ∀ (j : Nat) (s : StepT), zt7 (m : Int) (some (.sh (.int (j : Int))) :: some (.sh (za0 s)) :: [some (.sh (.lst (ds.map D.int))), some (.sh (.int k))]) = some (zw2 (s.nm, 1 + v)) := fun j s =>
  zc3 (zay rfl rfl zjB) (zay rfl (zcl rfl hm) rfl)
 obtain ⟨sub, h1, h2⟩ := zmN ht he ss (fun i => i) none none
 refine ⟨sub, h1, ?_⟩
 have e1 : zu4 (ztZ 1) (zwr c ss ds ks (some (.sh (.int k))) a b d) = some ((ss.map za0).mapIdx fun i d => D.tup [.int i, d]) := rfl
 have e2 : zev [none, none, some 2, some 4] (zwr c ss ds ks (some (.sh (.int k))) a b d) = none :: none :: [some (.sh (.lst (ds.map D.int))), some (.sh (.int k))] := rfl
 unfold zt8 za6 zaP
 rw [e1, Option.bind_some, if_pos (by rw [List.length_mapIdx, List.length_map]; exact zug hl (by decide)), e2, h2, Option.map_some, List.map_map]
 rfl
theorem ziK {ss sub : List StepT} {v : Int} (h : sub.Sublist ss) (nd : (ss.map (·.nm)).Nodup) (hv : 1 <= v /\ v <= 1000000) : GoodA (ss.map (·.nm)) (sub.map fun s => (s.nm, v)) := by
 refine ⟨by rw [List.length_map, List.length_map]; exact h.length_le, fun w hw => ?_, ?_⟩
 ·obtain ⟨s, hs, rfl⟩ := List.mem_map.mp hw
  exact ⟨List.mem_map_of_mem (h.subset hs), hv⟩
 ·rw [List.map_map]
  exact List.Sublist.nodup (h.map (·.nm)) nd
structure KInv (sn : List Str) (i : Nat) (ks : List StockT) : Prop where
 len : ks.length = i
 good : ∀ k ∈ ks, GoodK sn k
 nmk : ∀ (j : Nat) k, ks[j]? = some k -> k.nm = nm (80 + j)
def zok : zxa := (zaC (zbs 5 (zxj zbx (zxj zu0 (ztZ 2) (zxk (.int 1))) (zxj zu0 (ztZ 2) (zxk (.int 2))))) (zaC (zbs 6 (za6 (zaP (zu4 (ztZ 1)) (zcz 2 (zaH (zaN 0) (zaH (zaN 1) zcy))) (zt5 (zxj zvb (zxj zcf (zxj zew (zxj zbx (zxj zu0 (ztZ 2) (zxk (.int 3))) (ztZ 3)) (zxj zu0 (za6 (zuh (zab (zxk (.int 1)) (zab (zxk (.int 2)) (zab (zxk (.int 4)) zak))))) (zxj zcf (ztZ 0) (zxk (.int 3))))) (zxk (.int 2))) (zxk (.int 1)))) (zb7 (zuh (zab (zxj zu0 (ztZ 1) (zxk (.int 0))) (zab (zxj zbx (zxk (.int 1)) (zxj zu0 (ztZ 2) (zxk (.int 5)))) zak)))) [none, none, some 2, some 4]))) (zaC (zbs 7 (za6 (zaP (zu4 (ztZ 1)) (zcz 2 (zaH (zaN 0) (zaH (zaN 1) zcy))) (zt5 (zxj zvb (zxj zcf (zxj zew (zxj zbx (zxj zu0 (ztZ 2) (zxk (.int 4))) (ztZ 3)) (zxj zu0 (za6 (zuh (zab (zxk (.int 1)) (zab (zxk (.int 2)) (zab (zxk (.int 4)) zak))))) (zxj zcf (ztZ 0) (zxk (.int 3))))) (zxk (.int 2))) (zxk (.int 1)))) (zb7 (zuh (zab (zxj zu0 (ztZ 1) (zxk (.int 0))) (zab (zxj zbx (zxk (.int 1)) (zxj zu0 (ztZ 2) (zxk (.int 6)))) zak)))) [none, none, some 2, some 4]))) (zdT 3 (zb7 (zuh (zab (zxh zar (zab (zxj zbx (zxk (.int 80)) (ztZ 4)) zak)) (zab (zxj zu0 (ztZ 2) (zxk (.int 1))) (zab (ztZ 5) (zab (ztZ 6) (zab (ztZ 7) zak)))))))))))
theorem zpd {c : Int} {ss : List StepT} {ds : List Int} {ks : List StockT} {i : Nat} {x y z : Option Slot} {d1 d2 d3 d4 d5 d6 : Int} (hi : i < 2) (hl : ss.length <= 40) (nd : (ss.map (·.nm)).Nodup)
  (q1 : ds[1]? = some d1) (q2 : ds[2]? = some d2) (q3 : ds[3]? = some d3) (q4 : ds[4]? = some d4) (q5 : ds[5]? = some d5) (q6 : ds[6]? = some d6) (p1 : 0 <= d1 /\ d1 < 4) (p2 : 0 <= d2 /\ d2 < 5) (p5 : 0 <= d5 /\ d5 < 4) (p6 : 0 <= d6 /\ d6 < 4) (I : KInv (ss.map (·.nm)) i ks) :
  ∃ ks' x' y' z', zok (zwr c ss ds ks (some (.sh (.int (0 + (i : Int))))) x y z) = some (.nx, zwr c ss ds ks' (some (.sh (.int (0 + (i : Int))))) x' y' z') /\ KInv (ss.map (·.nm)) (i + 1) ks' := by
 have hn := (ziE (k := 80 + i) (by omega)).1
 have hnb := (ziE (k := 80 + i) (by omega)).2
 have hn' : zar [.int (80 + (0 + (i : Int)))] = some (.str (nm (80 + i))) := by
  rw [← hn]; congr 3; omega
 have e5 : zxj zbx (zxj zu0 (ztZ 2) (zxk (.int 1))) (zxj zu0 (ztZ 2) (zxk (.int 2))) (zwr c ss ds ks (some (.sh (.int (0 + (i : Int))))) x y z) = some (.int (d1 + d2)) := zay (zcl (n := 1) rfl q1) (zcl (n := 2) rfl q2) rfl
 obtain ⟨s1, h1, e6⟩ := zj4 (c := c) (k := 0 + (i : Int)) (ss := ss) (ks := ks) (a := some (.sh (.int (d1 + d2)))) (b := y) (d := z) (n := 3) (m := 5) hl q3 q5
 obtain ⟨s2, h2, e7⟩ := zj4 (c := c) (k := 0 + (i : Int)) (ss := ss) (ks := ks) (a := some (.sh (.int (d1 + d2)))) (b := some (.sh (.lst ((s1.map fun s => (s.nm, 1 + d5)).map zw2)))) (d := z) (n := 4) (m := 6) hl q4 q6
 let K : StockT := ⟨nm (80 + i), d1, d1 + d2, s1.map fun s => (s.nm, 1 + d5), s2.map fun s => (s.nm, 1 + d6)⟩
 refine ⟨ks ++ [K], _, _, _, (zaL e5).trans ((zaL e6).trans ((zaL e7).trans (zeA (x := K) rfl (zll (za1 (zaj (zay rfl rfl rfl) zaD) hn') (zcl (n := 1) rfl q1) rfl rfl rfl) (by have := I.len; omega)))), ⟨?_, ?_, ?_⟩⟩
 ·rw [List.length_append, I.len]; rfl
 ·intro k hk
  rcases List.mem_append.mp hk with q | q
  ·exact I.good k q
  ·rw [List.mem_singleton.mp q]
   exact ⟨hnb, ⟨p1.1, by show d1 <= d1 + d2; omega⟩, ⟨by show 0 <= d1 + d2; omega, by show d1 + d2 <= _; omega⟩, ziK h1 nd (by omega), ziK h2 nd (by omega)⟩
 ·intro j k hj
  by_cases hji : j < ks.length
  ·rw [List.getElem?_append_left hji] at hj
   exact I.nmk j k hj
  ·have hl2 := (List.getElem?_eq_some_iff.mp hj).1
   rw [List.length_append, List.length_singleton] at hl2
   rw [List.getElem?_append_right (by omega), show j - ks.length = 0 by omega] at hj
   cases hj
   have := I.len
   rw [show j = i by omega]
theorem zdL {α : Type} {l : List α} {f : α -> Str} {g : Nat -> Str} {n : Nat} (hn : l.length <= n) (hg : ∀ i, i < n -> ∀ j, j < n -> g i = g j -> i = j) (h : ∀ (j : Nat) k, l[j]? = some k -> f k = g j) : (l.map f).Nodup := by
 rw [List.nodup_iff_pairwise_ne, List.pairwise_iff_getElem]
 intro i j hi hj hij e
 rw [List.length_map] at hi hj
 rw [List.getElem_map, List.getElem_map, h i _ (List.getElem?_eq_getElem hi), h j _ (List.getElem?_eq_getElem hj)] at e
 have := hg i (by omega) j (by omega) e
 omega
theorem zkT (c : Int) (ss : List StepT) (hl : ss.length <= 40) (nd : (ss.map (·.nm)).Nodup) : ∃ ks : List StockT, zbm [.int c, .lst (ss.map za0)] = some (.lst (ks.map zb2)) /\ ks.length <= 2 /\ (∀ k ∈ ks, GoodK (ss.map (·.nm)) k) /\ (ks.map (·.nm)).Nodup := by
 obtain ⟨ds, e, hd, hbd⟩ := zdh c 9 (by omega) [3, 4, 5, 8, 8, 4, 4] (by decide) (by decide)
 obtain ⟨d0, q0, p0, r0⟩ := hbd 0 3 rfl
 obtain ⟨d1, q1, p1⟩ := hbd 1 4 rfl
 obtain ⟨d2, q2, p2⟩ := hbd 2 5 rfl
 obtain ⟨d3, q3, p3⟩ := hbd 3 8 rfl
 obtain ⟨d4, q4, p4⟩ := hbd 4 8 rfl
 obtain ⟨d5, q5, p5⟩ := hbd 5 4 rfl
 obtain ⟨d6, q6, p6⟩ := hbd 6 4 rfl
 obtain ⟨ρ', h1, ks, a, x, y, z, h2, h3⟩ := zbM (gg := zaN 4) (body := zok) (xs := (List.range d0.toNat).map fun k : Nat => D.int (0 + k)) (ρ := zwr c ss ds [] none none none none)
  (fun i ρ => ∃ ks a x y z, ρ = zwr c ss ds ks a x y z /\ KInv (ss.map (·.nm)) i ks) ⟨[], none, none, none, none, rfl, ⟨rfl, fun j hj => (by cases hj), fun j k hj => (by simp at hj)⟩⟩ (fun i w ρ hx hI => by
   obtain ⟨ks, a, x, y, z, rfl, I⟩ := hI
   obtain ⟨hi, rfl⟩ := zlB hx
   obtain ⟨ks', x', y', z', e1, e2⟩ := zpd (c := c) (ss := ss) (ds := ds) (ks := ks) (i := i) (x := x) (y := y) (z := z) (by omega) hl nd q1 q2 q3 q4 q5 q6 p1 p2 p5 p6 I
   exact ⟨_, _, rfl, e1, ks', _, _, _, _, rfl, e2⟩)
 rw [List.length_map, List.length_range] at h3
 have eS : zxh zai (zab (ztZ 0) (zab (zxk (.int 9)) (zab (za6 (zuh (zab (zxk (.int 3)) (zab (zxk (.int 4)) (zab (zxk (.int 5)) (zab (zxk (.int 8)) (zab (zxk (.int 8)) (zab (zxk (.int 4)) (zab (zxk (.int 4)) zak))))))))) zak))) [some (.sh (.int c)), some (.sh (.lst (ss.map za0))), none, none, none, none, none, none] = some (.lst (ds.map D.int)) :=
  za1 (zaj rfl (zaj rfl (zaj (zjw rfl rfl rfl rfl rfl rfl rfl) zaD))) e
 have eI : zu2 zgY (zab (zxj zu0 (ztZ 2) (zxk (.int 0))) zak) (zwr c ss ds [] none none none none) = some ((List.range d0.toNat).map fun k : Nat => D.int (0 + k)) := zfz (zaj (zcl (n := 0) rfl q0) zaD) (zes ⟨p0, by omega⟩)
 exact ⟨ks, zba [some (.sh (.int c)), some (.sh (.lst (ss.map za0))), none, none, none, none, none, none] rfl ((zaL eS).trans (zfy.trans ((zcm ((zcV eI).trans (h1.trans (by rw [h2])))).trans ((zeM rfl).trans (zbb (f := ztZ 3) rfl))))), by have := h3.len; omega, h3.good, zdL (n := 3) (by have := h3.len; omega) zpR h3.nmk⟩
theorem zh0 (ns : List Int) (n m : Nat) (hn : n <= 1000) {fi : zw4} {ρ : zaV} {k : Int} (hk : k = (m : Int)) (h0 : ρ[0]? = some (some (.sh (.scr ns)))) (hfi : fi ρ = some ((List.range n).map fun i : Nat => D.int (0 + i))) :
  ∃ cs : List Int, za6 (zaP fi (zaN 0) zw5 (zxh zav (zab (ztZ 1) (zab (zxj zbx (zxk (.int k)) (ztZ 0)) zak))) [none, some 0]) ρ = some (.lst (cs.map D.int)) /\ cs.length = n := by
 have hfv : zev [none, some 0] ρ = none :: [some (.sh (.scr ns))] := by
  simp only [zev, List.map_cons, List.map_nil, Option.bind_none, Option.bind_some, h0]
 have hc := zbv (fi := fi) (fe := zxh zav (zab (ztZ 1) (zab (zxj zbx (zxk (.int k)) (ztZ 0)) zak))) (fv := [none, some 0]) (ρ := ρ) (r := [some (.sh (.scr ns))]) (a := none) (f := fun d => match d with | .int i => .int (ns.getD (m + i.toNat) 0) | _ => .non) hfi (by rw [List.length_map, List.length_range]; exact zug hn (by decide)) hfv (fun x hx => by
  obtain ⟨i, hi, rfl⟩ := List.mem_map.mp hx
  have e := zdO ns (m + i)
  refine za1 (zaj rfl (zaj (zay rfl rfl rfl) zaD)) ?_
  subst hk
  have e1 : ((m : Int) + (0 + (i : Int))) = ((m + i : Nat) : Int) := by omega
  rw [e1, e]
  congr 3
  omega)
 refine ⟨(List.range n).map fun i => ns.getD (m + i) 0, ?_, by rw [List.length_map, List.length_range]⟩
 rw [hc, List.map_map, List.map_map]
 congr 2
 refine List.map_congr_left fun i _ => ?_
 show D.int (ns.getD (m + (0 + (i : Int)).toNat) 0) = D.int (ns.getD (m + i) 0)
 congr 3
 omega
def zcZ (bs : List BenchT) (ss : List StepT) (js : List JobT) (us : List SetT) (ls : List LinkT) (ks : List StockT) (h : Int) : D := .lst [.lst (bs.map zaS), .lst (ss.map za0), .lst (js.map zbr), .lst (us.map zec), .lst (ls.map zcL), .lst (ks.map zb2), .int h]
theorem znK (ns : List Int) (n : Nat) (h lo : Int) (hn : 1 <= n /\ n <= 10) (hh : 1 <= h /\ h <= 1000000) (hlo : 0 < lo /\ lo < 1000) : ∃ bs ss js us ls ks, zbD [.scr ns, .int (n : Int), .int h, .int lo] = some (zcZ bs ss js us ls ks h) /\ Good bs ss js us ls ks h /\ js.length <= 3 := by
 have b0 : 0 <= (ns.getD 0 0) % 3 := Int.emod_nonneg _ (by decide)
 have zwE : (ns.getD 0 0) % 3 < 3 := Int.emod_lt_of_pos _ (by decide)
 obtain ⟨nb, hnb⟩ : ∃ nb : Nat, 1 + (ns.getD 0 0) % 3 = (nb : Int) := ⟨(1 + (ns.getD 0 0) % 3).toNat, by omega⟩
 obtain ⟨cb, eb, lb⟩ := zh0 ns nb 1 (by omega) (k := 1) (fi := zu2 zgY (zab (zxj zbx (zxk (.int 1)) (zxj zcf (zxh zav (zab (ztZ 0) (zab (zxk (.int 0)) zak))) (zxk (.int 3)))) zak)) (ρ := [some (.sh (.scr ns)), some (.sh (.int n)), some (.sh (.int h)), some (.sh (.int lo)), none, none, none, none, none, none]) rfl rfl (zfz (zaj (d := .int (nb : Int)) (zay rfl (zay (za1 (zaj rfl (zaj rfl zaD)) (zdO ns 0)) rfl (zcn (by decide))) (by rw [← hnb]; rfl)) zaD) (zes (j := (nb : Int)) (by omega)))
 obtain ⟨bs, e1, l1, g1⟩ := zjz cb h (by omega)
 have bnd : (bs.map (·.nm)).Nodup := zdL (n := 3) (by omega) zpT fun j b hj => (g1 j b hj).nm
 have hbn : ∀ x ∈ bs.map (·.nm), zaR x = true := fun x hx => by
  obtain ⟨b, hb, rfl⟩ := List.mem_map.mp hx
  obtain ⟨j, hj⟩ := List.getElem?_of_mem hb
  have hjl := (List.getElem?_eq_some_iff.mp hj).1
  rw [(g1 j b hj).nm]
  exact (ziE (by omega)).2
 obtain ⟨ct, et, lt⟩ := zh0 ns n 4 (by omega) (k := 4) (fi := zu2 zgY (zab (ztZ 1) zak)) (ρ := [some (.sh (.scr ns)), some (.sh (.int n)), some (.sh (.int h)), some (.sh (.int lo)), some (.sh (.lst (bs.map zaS))), none, none, none, none, none]) rfl rfl (zfz (zaj rfl zaD) (zes (j := (n : Int)) (by omega)))
 obtain ⟨ss, e2, l2, g2⟩ := zlW ct bs h lo hh.1 hlo (by omega) (by omega) bnd
 have snd : (ss.map (·.nm)).Nodup := zdL (n := 10) (by omega) zpU fun j b hj => (g2 j b hj).nm
 have gs : ∀ s ∈ ss, GoodS (bs.map (·.nm)) h s := fun s hs => by
  obtain ⟨j, hj⟩ := List.getElem?_of_mem hs
  exact (g2 j s hj).good
 have hsn : ∀ x ∈ ss.map (·.nm), zaR x = true := fun x hx => by
  obtain ⟨b, hb, rfl⟩ := List.mem_map.mp hx
  exact (gs b hb).nm
 obtain ⟨cj, ej, lj⟩ := zh0 ns 3 14 (by omega) (k := 14) (fi := zu2 zgY (zab (zxk (.int 3)) zak)) (ρ := [some (.sh (.scr ns)), some (.sh (.int n)), some (.sh (.int h)), some (.sh (.int lo)), some (.sh (.lst (bs.map zaS))), some (.sh (.lst (ss.map za0))), none, none, none, none]) rfl rfl (zfz (zaj rfl zaD) (zes (j := 3) (by omega)))
 obtain ⟨js, e3, l3, g3, g4, g5⟩ := znI cj ss h hh.1 (by omega) (by omega) hsn snd
 obtain ⟨us, e4, l4, g6, g7⟩ := zkU (ns.getD 17 0) bs h hh.1 (by omega) hbn
 obtain ⟨ls, e5, l5, g8, g9⟩ := zl2 (ns.getD 18 0) ss h hh.1 (by omega) hsn
 obtain ⟨ks, e6, l6, g10, g11⟩ := zkT (ns.getD 19 0) ss (by omega) snd
 refine ⟨bs, ss, js, us, ls, ks, ?_, ⟨hh, by omega, fun x hx => ?_, bnd, by omega, gs, snd, by omega, g3, g4, g5, by omega, g6, g7, by omega, g8, g9, by omega, g10, g11⟩, l3⟩
 ·refine zba [some (.sh (.scr ns)), some (.sh (.int n)), some (.sh (.int h)), some (.sh (.int lo)), none, none, none, none, none, none] rfl ((zaL (za1 (zaj eb (zaj rfl zaD)) e1)).trans ((zaL (za1 (zaj et (zaj rfl (zaj rfl (zaj rfl zaD)))) e2)).trans ((zaL (za1 (zaj ej (zaj rfl (zaj rfl zaD))) e3)).trans ((zaL (za1 (zaj (za1 (zaj rfl (zaj rfl zaD)) (zdO ns 17)) (zaj rfl (zaj rfl zaD))) e4)).trans ((zaL (za1 (zaj (za1 (zaj rfl (zaj rfl zaD)) (zdO ns 18)) (zaj rfl (zaj rfl zaD))) e5)).trans ((zaL (za1 (zaj (za1 (zaj rfl (zaj rfl zaD)) (zdO ns 19)) (zaj rfl zaD)) e6)).trans (zbb (zjw rfl rfl rfl rfl rfl rfl rfl))))))))
 ·obtain ⟨j, hj⟩ := List.getElem?_of_mem hx
  have hjl := (List.getElem?_eq_some_iff.mp hj).1
  have g := g1 j x hj
  exact ⟨by rw [g.nm]; exact (ziE (by omega)).2, by have := g.len; omega, g.good.iv, g.good.gap⟩
end Law
end
section
namespace Law
open PySem L2
section
variable {bs : List BenchT} {ss : List StepT} {js : List JobT} {us : List SetT} {ls : List LinkT} {ks : List StockT} {h : Int}
theorem zpe (g : Good bs ss js us ls ks h) (ml : (js.flatMap (·.ms)).length <= 300) : zbQ [zcZ bs ss js us ls ks h] = some (zbL bs ss js us ls ks h) :=
 zba [some (.sh (zcZ bs ss js us ls ks h))] rfl (zbb (za1 (zaj (zay rfl rfl (zuZ _ 0)) (zaj (zay rfl rfl (zuZ _ 1)) (zaj (zay rfl rfl (zuZ _ 2)) (zaj (zay rfl rfl (zuZ _ 3)) (zaj (zay rfl rfl (zuZ _ 4)) (zaj (zay rfl rfl (zuZ _ 5)) (zaj (zay rfl rfl (zuZ _ 6)) zaD))))))) (zqe g ml)))
theorem ziN {fo : zxe} {ρ : zaV} {f : Str} {d : D} (i : Nat) (h1 : fo ρ = some (zbL bs ss js us ls ks h)) (h2 : (zoE bs ss js us ls ks h)[i]? = some (f, d)) : zm5 "Shop" f fo ρ = some d := by
 unfold zm5
 rw [h1]
 show (if ("Shop" : Str) = "Shop" then (zoE bs ss js us ls ks h).lookup f else none) = some d
 rw [if_pos rfl]
 exact zfX (by rw [zgy]; exact zhO) h2
theorem zhN {F : List D -> Option D} {fo : zxe} {fr : zw4} {ρ : zaV} {m : Str} {ds : List D} {d : D} (hm : m ∉ zeL) (h1 : fo ρ = some (zbL bs ss js us ls ks h)) (h2 : fr ρ = some ds) (h3 : F (zbL bs ss js us ls ks h :: ds) = some d) : zdz "Shop" m F fo fr ρ = some d := by
 have hno : (zoE bs ss js us ls ks h).lookup m = none := zfa (by rw [zgy]; exact hm)
 unfold zdz
 rw [h1]
 show (if ("Shop" : Str) = "Shop" /\ (zoE bs ss js us ls ks h).lookup m = none then (fr ρ).bind fun ds => F (zbL bs ss js us ls ks h :: ds) else none) = _
 rw [if_pos ⟨rfl, hno⟩, h2]
 exact h3
theorem zfU {α : Type} {nm : α -> Str} {f : α -> D} : ∀ {xs : List α} {s : α}, (xs.map nm).Nodup -> s ∈ xs -> zfZ (xs.map fun x => ((.inr (nm x) : zvK), f x)) (.inr (nm s)) = some (f s)
 | [], s, _, hs => by cases hs
 | x :: r, s, nd, hs => by
  rw [List.map_cons, List.nodup_cons] at nd
  unfold zfZ
  rw [List.map_cons, List.find?_cons]
  by_cases e : nm x = nm s
  ·have hxs : s = x := by
    rcases List.mem_cons.mp hs with q | q
    ·exact q
    ·exact absurd (List.mem_map_of_mem (f := nm) q) (by rw [← e]; exact nd.1)
   subst hxs
   simp
  ·have hs' : s ∈ r := by
    rcases List.mem_cons.mp hs with q | q
    ·subst q; exact absurd rfl e
    ·exact q
   have hne : ¬ ((.inr (nm x) : zvK) = .inr (nm s)) := fun z => e (Sum.inr.inj z)
   simp only [decide_eq_false hne]
   exact zfU nd.2 hs'
theorem zm8 {κ : Type} [DecidableEq κ] (kvs : List (κ × D)) (k k' : κ) (v : D) : zfZ (zjm kvs k v) k' = if k' = k then some v else zfZ kvs k' := by
 unfold zjm
 split
 ·rename_i hany
  by_cases e : k' = k
  ·subst e
   rw [if_pos rfl]
   unfold zfZ
   induction kvs with
   | nil => simp at hany
   | cons x r ih =>
    rw [List.map_cons, List.find?_cons]
    by_cases ex : x.1 = k'
    ·simp [ex]
    ·simp only [if_neg ex, decide_eq_false ex]
     rw [List.any_cons, decide_eq_false ex, Bool.false_or] at hany
     exact ih hany
  ·rw [if_neg e]
   unfold zfZ
   induction kvs with
   | nil => rfl
   | cons x r ih =>
    rw [List.map_cons, List.find?_cons, List.find?_cons]
    by_cases ex : x.1 = k
    ·have : ¬ x.1 = k' := fun z => e (z.symm.trans ex)
     simp only [if_pos ex, decide_eq_false this]
     by_cases ha : (r.any fun kv => decide (kv.1 = k)) = true
     ·exact ih ha
     ·have hmap : r.map (fun kv => if kv.1 = k then (kv.1, v) else kv) = r := by
       conv => rhs; rw [← List.map_id r]
       refine List.map_congr_left fun y hy => ?_
       have : ¬ y.1 = k := fun z => ha (List.any_eq_true.mpr ⟨y, hy, decide_eq_true z⟩)
       simp [this]
      rw [hmap]
    ·simp only [if_neg ex]
     by_cases ex' : x.1 = k'
     ·simp [ex']
     ·simp only [decide_eq_false ex']
      rw [List.any_cons, decide_eq_false ex, Bool.false_or] at hany
      exact ih hany
 ·rename_i hany
  have hno : ∀ x ∈ kvs, ¬ x.1 = k := fun x hx z => hany (List.any_eq_true.mpr ⟨x, hx, decide_eq_true z⟩)
  unfold zfZ
  rw [List.find?_append]
  by_cases e : k' = k
  ·subst e
   rw [if_pos rfl]
   have : kvs.find? (fun kv => decide (kv.1 = k')) = none := by
    rw [List.find?_eq_none]
    intro x hx z
    exact hno x hx (of_decide_eq_true z)
   rw [this]
   simp
  ·rw [if_neg e]
   have : ¬ k = k' := fun z => e z.symm
   simp [this]
theorem ziJ (j : JobT) (m : Str) : ∀ (ms : List Str) (acc : List (zvK × D)), zfZ (ms.foldl (zkN j) acc) (.inr m) = if m ∈ ms then some (zbr j) else zfZ acc (.inr m)
 | [], acc => by simp
 | x :: r, acc => by
  rw [List.foldl_cons, ziJ j m r]
  by_cases h1 : m ∈ r
  ·rw [if_pos h1, if_pos (List.mem_cons_of_mem _ h1)]
  ·rw [if_neg h1]
   unfold zkN
   rw [zm8]
   by_cases h2 : m = x
   ·subst h2; rw [if_pos rfl, if_pos List.mem_cons_self]
   ·have : ¬ ((.inr m : zvK) = .inr x) := fun z => h2 (Sum.inr.inj z)
    rw [if_neg this, if_neg]
    intro z
    rcases List.mem_cons.mp z with q | q
    ·exact h2 q
    ·exact h1 q
def zcQ (js : List JobT) (m : Str) : Option JobT := js.find? fun j => decide (m ∈ j.ms)
theorem zmc (m : Str) : ∀ (js : List JobT) (acc : List (zvK × D)), (js.flatMap (·.ms)).Nodup -> zfZ (js.foldl (fun acc j => j.ms.foldl (zkN j) acc) acc) (.inr m) = match zcQ js m with | some j => some (zbr j) | none => zfZ acc (.inr m)
 | [], acc, _ => rfl
 | j :: r, acc, nd => by
  rw [List.flatMap_cons, List.nodup_append] at nd
  rw [List.foldl_cons, zmc m r _ nd.2.1, ziJ]
  unfold zcQ
  rw [List.find?_cons]
  by_cases h1 : m ∈ j.ms
  ·have : r.find? (fun j => decide (m ∈ j.ms)) = none := by
    rw [List.find?_eq_none]
    intro x hx z
    exact nd.2.2 m h1 m (List.mem_flatMap.mpr ⟨x, hx, of_decide_eq_true z⟩) rfl
   simp only [decide_eq_true h1, this, if_pos h1]
  ·simp only [decide_eq_false h1, if_neg h1]
def zlL : Option JobT -> D
 | some j => zbr j
 | none => .non
theorem ziG {m : Str} {j : JobT} (h : zcQ js m = some j) : j ∈ js /\ m ∈ j.ms := ⟨List.mem_of_find?_eq_some h, by
 have := List.find?_some h
 exact of_decide_eq_true this⟩
theorem zp1 {fr : zw4} {ρ : zaV} {ys : List D} (h : za6 fr ρ = some (.lst ys)) : fr ρ = some ys := by
 unfold za6 at h
 obtain ⟨z, hz, e⟩ := oMd h
 cases e
 exact hz
theorem zhI {n : Nat} {g : zxa} {ds : List D} {d : List D} (ρ : zaV) {ρ' : zaV} (e : ds.map (fun d => some (Slot.sh d)) ++ List.replicate n none = ρ) (h : g ρ = some (.ow d, ρ')) : znn n g ds = some d := by
 subst e; unfold znn; rw [h]; rfl
theorem zdr {n : Nat} {g : zxa} {ds : List D} {d : D} (ρ : zaV) {ρ' : zaV} (e : ds.map (fun d => some (Slot.sh d)) ++ List.replicate n none = ρ) (h : g ρ = some (.nw d, ρ')) : L2.runN n g ds = some d := by
 subst e; unfold L2.runN; rw [h]; rfl
theorem zo3 {ft : zw1} {A B E : zxa} {ρ ρ' : zaV} {d : List D} (h : ft ρ = some true) (h2 : A ρ = some (.ow d, ρ')) : zaC (zuw ft A B) E ρ = some (.ow d, ρ') := by
 simp only [zaC, zuw, h, Option.bind_some, if_true, h2]
theorem zln {ft : zw1} {A B E : zxa} {ρ ρ' : zaV} {d : D} (h : ft ρ = some true) (h2 : A ρ = some (.nw d, ρ')) : zaC (zuw ft A B) E ρ = some (.nw d, ρ') := by
 simp only [zaC, zuw, h, Option.bind_some, if_true, h2]
theorem zjl {fr : zw4} {ρ : zaV} {d : List D} (h : fr ρ = some d) : zjk fr ρ = some (.ow d, ρ) := by unfold zjk; rw [h]; rfl
theorem zet {f : zxe} {ρ : zaV} {d : D} (h : f ρ = some d) : ziy f ρ = some (.nw d, ρ) := by unfold ziy; rw [h]; rfl
theorem znV {f : zxe} {ρ : zaV} {d : D} (h : f ρ = some d) (h2 : zd0 d = true) : zu8 f ρ = some d := by unfold zu8; rw [h, Option.bind_some, if_pos h2]
theorem zoZ {f : zxe} {ρ : zaV} {l : List D} (h : f ρ = some (.lst l)) : zqR f ρ = some (.tup l) := by unfold zqR; rw [h]; rfl
theorem zoQ {g : List D -> Option (List D)} {fr : zw4} {ρ : zaV} {ds : List D} {z : List D} (h1 : fr ρ = some ds) (h2 : g ds = some z) : zvf g fr ρ = some z := by
 unfold zvf; rw [h1]; exact h2
theorem ziL {l : List D} (hl : l.length <= sizeLine) (h : ∀ x ∈ l, zwO 8 x) : zbk [.lst l] = some l := by
 refine zhI [some (.sh (.lst l))] rfl (zo3 (zaG (b := true) ?_) (zjl ?_))
 ·simp only [zxh, zab, zak, ztZ, zxk, zdA, zt3, List.getElem?_cons_zero, Option.bind_some, Option.map_some, zwY]
 ·have := zbv (fi := zu3 (ztZ 0)) (fe := zxh za4 (zab (ztZ 0) zak)) (fv := [none]) (ρ := [some (.sh (.lst l))]) (r := []) (a := none) (xs := l) (f := fun x => x) rfl hl rfl (fun x hx => za1 (zaj rfl zaD) (zgB (h x hx)))
  rw [List.map_id'] at this
  exact zp1 this
theorem zgA : ∀ (n : Nat) (d : D), zwO n d -> zcc n [d] = some d
 | 0, _, h => h.elim
 | n + 1, .lst l, h => by
  refine zdr [some (.sh (.lst l))] rfl (zln (zaG (b := true) ?_) (zet ?_))
  ·simp only [zxh, zab, zak, ztZ, zxk, zdA, zt3, List.getElem?_cons_zero, Option.bind_some, Option.map_some, zwY]
  ·have := zbv (fi := zu3 (ztZ 0)) (fe := zxh (zcc n) (zab (ztZ 0) zak)) (fv := [none]) (ρ := [some (.sh (.lst l))]) (r := []) (a := none) (xs := l) (f := fun x => x) rfl h.1 rfl (fun x hx => za1 (zaj rfl zaD) (zgA n x (h.2 x hx)))
   rw [List.map_id'] at this
   exact this
 | n + 1, .tup l, h => by
  refine zdr [some (.sh (.tup l))] rfl ((zbh (zaG (b := false) ?_)).trans (zln (zaG (b := true) ?_) (zet (zoZ ?_))))
  ·simp only [zxh, zab, zak, ztZ, zxk, zdA, zt3, List.getElem?_cons_zero, Option.bind_some, Option.map_some, zwR]
  ·simp only [zxh, zab, zak, ztZ, zxk, zdA, zt3, List.getElem?_cons_zero, Option.bind_some, Option.map_some, zwx]
  ·have := zbv (fi := zu3 (ztZ 0)) (fe := zxh (zcc n) (zab (ztZ 0) zak)) (fv := [none]) (ρ := [some (.sh (.tup l))]) (r := []) (a := none) (xs := l) (f := fun x => x) rfl h.1 rfl (fun x hx => za1 (zaj rfl zaD) (zgA n x (h.2 x hx)))
   rw [List.map_id'] at this
   exact this
 | n + 1, .non, h => by
  show zcd (zcc n) [.non] = some .non
  unfold zcd
  refine zdr [some (.sh .non)] rfl ((zbh (zaG (b := false) ?_)).trans ((zbh (zaG (b := false) ?_)).trans (zet (znV (f := ztZ 0) rfl rfl)))) <;> simp only [zxh, zab, zak, ztZ, zxk, zdA, zt3, List.getElem?_cons_zero, Option.bind_some, Option.map_some, zuW, zuV]
 | n + 1, .bl b, h => by
  show zcd (zcc n) [.bl b] = some (.bl b)
  unfold zcd
  refine zdr [some (.sh (.bl b))] rfl ((zbh (zaG (b := false) ?_)).trans ((zbh (zaG (b := false) ?_)).trans (zet (znV (f := ztZ 0) rfl rfl)))) <;> simp only [zxh, zab, zak, ztZ, zxk, zdA, zt3, List.getElem?_cons_zero, Option.bind_some, Option.map_some, zv6, zv5]
 | n + 1, .int b, h => by
  show zcd (zcc n) [.int b] = some (.int b)
  unfold zcd
  refine zdr [some (.sh (.int b))] rfl ((zbh (zaG (b := false) ?_)).trans ((zbh (zaG (b := false) ?_)).trans (zet (znV (f := ztZ 0) rfl rfl)))) <;> simp only [zxh, zab, zak, ztZ, zxk, zdA, zt3, List.getElem?_cons_zero, Option.bind_some, Option.map_some, zv8, zv7]
 | n + 1, .str b, h => by
  show zcd (zcc n) [.str b] = some (.str b)
  unfold zcd
  refine zdr [some (.sh (.str b))] rfl ((zbh (zaG (b := false) ?_)).trans ((zbh (zaG (b := false) ?_)).trans (zet (znV (f := ztZ 0) rfl rfl)))) <;> simp only [zxh, zab, zak, ztZ, zxk, zdA, zt3, List.getElem?_cons_zero, Option.bind_some, Option.map_some, zwD, zwD, zwg]
theorem zm7 {s : StepT} (g : Good bs ss js us ls ks h) (hs : s ∈ ss) : zaF [zbL bs ss js us ls ks h, .str s.nm] = some (s.ws.map zw2) := by
 have gs := g.s s hs
 have hp : zwO 9 (.lst (s.ws.map zw2)) := zsk (by have := gs.l4; omega)
 refine zhI [some (.sh (zbL bs ss js us ls ks h)), some (.sh (.str s.nm))] rfl (zjl (zoQ (zaj (zay (zay (x := .dk (ss.map fun s => (.inr s.nm, za0 s))) (z := za0 s) (ziN 8 rfl rfl) rfl ?_) rfl zqK) zaD) (ziL hp.1 hp.2)))
 show zfZ (ss.map fun s => ((.inr s.nm : zvK), za0 s)) (.inr s.nm) = _
 exact zfU g.sn hs
theorem zl8 {s : StepT} (g : Good bs ss js us ls ks h) (hs : s ∈ ss) : zaT [zbL bs ss js us ls ks h, .str s.nm] = some (.str s.kd) := by
 refine zba [some (.sh (zbL bs ss js us ls ks h)), some (.sh (.str s.nm))] rfl (zbb (zay (zay (x := .dk (ss.map fun s => (.inr s.nm, za0 s))) (z := za0 s) (ziN 8 rfl rfl) rfl ?_) rfl zle))
 show zfZ (ss.map fun s => ((.inr s.nm : zvK), za0 s)) (.inr s.nm) = _
 exact zfU g.sn hs
theorem zk9 {b : BenchT} (g : Good bs ss js us ls ks h) (hb : b ∈ bs) : zaM [zbL bs ss js us ls ks h, .str b.nm] = some (b.br.map zvc) := by
 have gb := g.b b hb
 have hp : zwO 9 (.lst (b.br.map zvc)) := zd8 (by have := gb.len; omega) fun x _ => ⟨by simp [sizeLine], by
  intro y hy
  simp only [List.mem_cons, List.not_mem_nil, or_false] at hy
  rcases hy with rfl | rfl <;> trivial⟩
 refine zhI [some (.sh (zbL bs ss js us ls ks h)), some (.sh (.str b.nm))] rfl (zjl (zoQ (zaj (zay (zay (x := .dk (bs.map fun b => (.inr b.nm, zaS b))) (z := zaS b) (ziN 7 rfl rfl) rfl ?_) rfl zle) zaD) (ziL hp.1 hp.2)))
 show zfZ (bs.map fun b => ((.inr b.nm : zvK), zaS b)) (.inr b.nm) = _
 exact zfU g.bn hb
theorem zp8 (g : Good bs ss js us ls ks h) (m : Str) : zaK [zbL bs ss js us ls ks h, .str m] = some (zlL (zcQ js m)) := by
 have hl : (ss.map (·.nm)).length <= 40 := by rw [List.length_map]; exact g.sl.2
 have hp : zwO 8 (zlL (zcQ js m)) := by
  cases e : zcQ js m with
  | none => trivial
  | some j => exact zop hl (g.j j (ziG e).1)
 refine zdr [some (.sh (zbL bs ss js us ls ks h)), some (.sh (.str m))] rfl (zet (za1 (zaj (zay (x := .dk (zuX js)) (ziN 10 rfl rfl) rfl ?_) zaD) (zgA 8 _ hp)))
 show some ((zfZ (zuX js) (.inr m)).getD .non) = _
 unfold zuX
 rw [zmc m js [] g.jm]
 cases zcQ js m <;> rfl
abbrev zt1 (us : List SetT) : List (List zvK × D) := us.map fun u => ([u.b, u.p, u.q].map Sum.inr, .int u.n)
theorem zli (k : List zvK) : ∀ us : List SetT, ∃ n : Int, (zfZ (zt1 us) k).getD (.int 0) = .int n
 | [] => ⟨0, rfl⟩
 | u :: r => by
  obtain ⟨n, hn⟩ := zli k r
  unfold zfZ at hn ⊢
  rw [zt1, List.map_cons, List.find?_cons]
  split
  ·exact ⟨u.n, rfl⟩
  ·exact ⟨n, hn⟩
theorem zrT (us : List SetT) (a b c : Str) : ∃ n : Int, zeO (.dt (zt1 us)) (.tup [.str a, .str b, .str c]) (.int 0) = some (.int n) := by
 obtain ⟨n, hn⟩ := zli [.inr a, .inr b, .inr c] us
 refine ⟨n, ?_⟩
 rw [← hn]
 rfl
theorem zsd {g : D -> D -> D -> Option D} {fa fb fc : zxe} {ρ : zaV} {x y z w : D} (h1 : fa ρ = some x) (h2 : fb ρ = some y) (h3 : fc ρ = some z) (h4 : g x y z = some w) : zwp g fa fb fc ρ = some w := by
 unfold zwp; rw [h1, Option.bind_some, h2, Option.bind_some, h3, Option.bind_some]; exact h4
theorem zlu {a b c : Str} {n : Int} (hn : zeO (.dt (zt1 us)) (.tup [.str a, .str b, .str c]) (.int 0) = some (.int n)) : za2 [zbL bs ss js us ls ks h, .str a, .str b, .str c] = some (.int n) := by
 have e := zbb (zsd (g := zeO) (fa := zm5 "Shop" "setup_by_names" (ztZ 0)) (fb := zb7 (zuh (zab (ztZ 1) (zab (ztZ 2) (zab (ztZ 3) zak))))) (fc := zxk (.int 0)) (ρ := [some (.sh (zbL bs ss js us ls ks h)), some (.sh (.str a)), some (.sh (.str b)), some (.sh (.str c))]) (ziN 9 rfl rfl) (zhA rfl rfl rfl) rfl hn)
 exact zba (n := 0) (ds := [zbL bs ss js us ls ks h, .str a, .str b, .str c]) [some (.sh (zbL bs ss js us ls ks h)), some (.sh (.str a)), some (.sh (.str b)), some (.sh (.str c))] rfl e
theorem zgq {m : Str} {JL : D} (hm : zaR m = true) : ∀ (js : List JobT) (a : Option Slot), (∀ j ∈ js, ∀ x ∈ j.ms, zaR x = true) -> ∃ a', zkn (zaN 2) ((zuw (zt5 (zxj zmh (ztZ 1) (zxj zu0 (ztZ 2) (zxk (.int 4))))) (za5 (ztZ 2)) zbH)) (js.map zbr) [some (.sh JL), some (.sh (.str m)), a] = some ((match zcQ js m with | some j => Fl.rt (zbr j) | none => Fl.nx), [some (.sh JL), some (.sh (.str m)), a'])
 | [], a, _ => ⟨a, rfl⟩
 | j :: r, a, hn => by
  have hT : zt5 (zxj zmh (ztZ 1) (zxj zu0 (ztZ 2) (zxk (.int 4)))) [some (.sh JL), some (.sh (.str m)), some (.sh (zbr j))] = some (decide (m ∈ j.ms)) :=
   zaG (zay rfl (zay rfl rfl zqJ) (zmg hm (hn j List.mem_cons_self)))
  by_cases hj : m ∈ j.ms
  ·refine ⟨some (.sh (zbr j)), ?_⟩
   have e : zcQ (j :: r) m = some j := by unfold zcQ; rw [List.find?_cons, decide_eq_true hj]
   rw [decide_eq_true hj] at hT
   rw [e, List.map_cons]
   have hb : ((zuw (zt5 (zxj zmh (ztZ 1) (zxj zu0 (ztZ 2) (zxk (.int 4))))) (za5 (ztZ 2)) zbH)) [some (.sh JL), some (.sh (.str m)), some (.sh (zbr j))] = some (.rt (zbr j), [some (.sh JL), some (.sh (.str m)), some (.sh (zbr j))]) := by
    show zuw _ _ _ _ = _
    unfold zuw
    rw [hT, Option.bind_some, if_pos rfl]
    rfl
   have hg : zaN 2 (zbr j) [some (.sh JL), some (.sh (.str m)), a] = some [some (.sh JL), some (.sh (.str m)), some (.sh (zbr j))] := rfl
   unfold zkn
   rw [hg, Option.bind_some, hb, Option.bind_some]
  ·have e : zcQ (j :: r) m = zcQ r m := by unfold zcQ; rw [List.find?_cons, decide_eq_false hj]
   rw [decide_eq_false hj] at hT
   obtain ⟨a', ha⟩ := zgq hm r (some (.sh (zbr j))) (fun x hx => hn x (List.mem_cons_of_mem _ hx))
   refine ⟨a', ?_⟩
   rw [e, List.map_cons]
   have hb : ((zuw (zt5 (zxj zmh (ztZ 1) (zxj zu0 (ztZ 2) (zxk (.int 4))))) (za5 (ztZ 2)) zbH)) [some (.sh JL), some (.sh (.str m)), some (.sh (zbr j))] = some (.nx, [some (.sh JL), some (.sh (.str m)), some (.sh (zbr j))]) := by
    show zuw _ _ _ _ = _
    unfold zuw
    rw [hT, Option.bind_some, if_neg Bool.false_ne_true]
    rfl
   have hg : zaN 2 (zbr j) [some (.sh JL), some (.sh (.str m)), a] = some [some (.sh JL), some (.sh (.str m)), some (.sh (zbr j))] := rfl
   unfold zkn
   rw [hg, Option.bind_some, hb, Option.bind_some]
   exact ha
theorem zl5 {m : Str} (hm : zaR m = true) (hn : ∀ j ∈ js, ∀ x ∈ j.ms, zaR x = true) : zbZ [.lst (js.map zbr), .str m] = some (zlL (zcQ js m)) := by
 obtain ⟨a', ha⟩ := zgq (JL := .lst (js.map zbr)) hm js none hn
 have hF : zde (zu3 (ztZ 0)) (zaN 2) ((zuw (zt5 (zxj zmh (ztZ 1) (zxj zu0 (ztZ 2) (zxk (.int 4))))) (za5 (ztZ 2)) zbH)) [some (.sh (.lst (js.map zbr))), some (.sh (.str m)), none] = _ := (zcV rfl).trans ha
 cases e : zcQ js m with
 | none =>
  rw [e] at hF
  exact zba [some (.sh (.lst (js.map zbr))), some (.sh (.str m)), none] rfl ((zcm hF).trans (zbb (f := zxk .non) rfl))
 | some j =>
  rw [e] at hF
  refine zba [some (.sh (.lst (js.map zbr))), some (.sh (.str m)), none] rfl (ρ' := [some (.sh (.lst (js.map zbr))), some (.sh (.str m)), a']) ?_
  unfold zaC
  rw [hF]
  rfl
end
end Law
end
section
namespace Law
open PySem L2
theorem zhM {x : D} {p : PyData} (h0 : zuI x x = none) (hp : zuD x = some p) (hs : SeqAt.shaped p = true) (he : PyData.eqv p p = true) : zuJ x x = some (.bl false) := by
 have e0 : zuJ x x = zpV x x := by unfold zuJ zuG; rw [h0]
 rw [e0]
 unfold zpV zu9
 rw [hp, Option.bind_some, Option.bind_some, if_pos ⟨hs, hs⟩, he]
 rfl
def zwv (w : Str × Int) : PyData := .tuple [.str w.1, .int w.2]
def zww (w : Int × Int) : PyData := .tuple [.int w.1, .int w.2]
theorem zrs : ∀ (ws : List (Str × Int)), zig (ws.map zw2) = some (ws.map zwv)
 | [] => rfl
 | w :: r => by simp [zig, zuD, zw2, zwv, zrs r]
theorem zrt : ∀ (ws : List (Int × Int)), zig (ws.map zvc) = some (ws.map zww)
 | [] => rfl
 | w :: r => by simp [zig, zuD, zvc, zww, zrt r]
theorem zot : ∀ {ws : List (Str × Int)}, (∀ w ∈ ws, zaR w.1 = true) -> PyData.canLayAll0 (ws.map zwv) = true
 | [], _ => by simp [PyData.canLayAll0]
 | w :: r, h => by
  have := zot fun y hy => h y (List.mem_cons_of_mem _ hy)
  simp only [List.map_cons, PyData.canLayAll0, zwv, PyData.canLay0, zfW (h w List.mem_cons_self), Bool.true_and, this]
theorem zou : ∀ (ws : List (Int × Int)), PyData.canLayAll0 (ws.map zww) = true
 | [] => by simp [PyData.canLayAll0]
 | w :: r => by simp only [List.map_cons, PyData.canLayAll0, zww, PyData.canLay0, Bool.true_and, zou r]
theorem zkq : ∀ (ws : List (Str × Int)), PyData.depthAll (ws.map zwv) <= 1
 | [] => by simp [PyData.depthAll]
 | w :: r => by
  have := zkq r
  simp only [List.map_cons, PyData.depthAll, zwv, PyData.depth]
  omega
theorem zkr : ∀ (ws : List (Int × Int)), PyData.depthAll (ws.map zww) <= 1
 | [] => by simp [PyData.depthAll]
 | w :: r => by
  have := zkr r
  simp only [List.map_cons, PyData.depthAll, zww, PyData.depth]
  omega
theorem zoH : ∀ (ws : List (Str × Int)), PyData.eqvAll (ws.map zwv) (ws.map zwv) = true
 | [] => by simp [PyData.eqvAll]
 | w :: r => by simp [PyData.eqvAll, PyData.eqv, zwv, zoH r]
theorem zoI : ∀ (ws : List (Int × Int)), PyData.eqvAll (ws.map zww) (ws.map zww) = true
 | [] => by simp [PyData.eqvAll]
 | w :: r => by simp [PyData.eqvAll, PyData.eqv, zww, zoI r]
theorem zly {ws : List (Str × Int)} (h : ∀ w ∈ ws, zaR w.1 = true) : zuJ (.lst (ws.map zw2)) (.lst (ws.map zw2)) = some (.bl false) :=
 zhM (p := .list (ws.map zwv)) rfl (by simp [zuD, zrs]) (by
  have := zkq ws
  simp [SeqAt.shaped, PyData.canLay0, zot h, PyData.depth]
  omega) (by simp [PyData.eqv, zoH])
theorem zph (ws : List (Int × Int)) : zuJ (.lst (ws.map zvc)) (.lst (ws.map zvc)) = some (.bl false) :=
 zhM (p := .list (ws.map zww)) rfl (by simp [zuD, zrt]) (by
  have := zkr ws
  simp [SeqAt.shaped, PyData.canLay0, zou ws, PyData.depth]
  omega) (by simp [PyData.eqv, zoI])
theorem zj8 (x : Str) : zuJ (.str x) (.str x) = some (.bl false) := by
 simp [zuJ, zuG, zuI, zva]
theorem znk (x : Int) : zuJ (.int x) (.int x) = some (.bl false) := by
 simp [zuJ, zuG, zuI, zva]
theorem znj {j : JobT} (h1 : zaR j.nm = true) (h2 : ∀ x ∈ j.ms, zaR x = true) : zuJ (zbr j) (zbr j) = some (.bl false) :=
 zhM (p := .tuple [.str j.nm, .int j.ea, .int j.du, .bool j.od, .list (j.ms.map PyData.str)]) rfl (by simp [zuD, zig, zbr, zgg]) (by
  simp [SeqAt.shaped, PyData.canLay0, PyData.canLayAll0, zfW h1, zdW h2, PyData.depth, PyData.depthAll, zdZ]) (by simp [PyData.eqv, PyData.eqvAll, zhU])
section
variable {bs : List BenchT} {ss : List StepT} {js : List JobT} {us : List SetT} {ls : List LinkT} {ks : List StockT} {h : Int}
theorem ziD {f g : zw1} {ρ : zaV} {a b : Bool} (h1 : f ρ = some a) (h2 : g ρ = some b) : zuF f g ρ = some (a || b) := by
 unfold zuF; rw [h1, Option.bind_some, h2]; cases a <;> rfl
theorem zkj {F : List D -> Option (List D)} {fo : zxe} {fr : zw4} {ρ : zaV} {m : Str} {ds : List D} {d : List D} (hm : m ∉ zeL) (h1 : fo ρ = some (zbL bs ss js us ls ks h)) (h2 : fr ρ = some ds) (h3 : F (zbL bs ss js us ls ks h :: ds) = some d) : zfO "Shop" m F fo fr ρ = some d := by
 have hno : (zoE bs ss js us ls ks h).lookup m = none := zfa (by rw [zgy]; exact hm)
 unfold zfO
 rw [h1]
 show (if ("Shop" : Str) = "Shop" /\ (zoE bs ss js us ls ks h).lookup m = none then (fr ρ).bind fun ds => F (zbL bs ss js us ls ks h :: ds) else none) = _
 rw [if_pos ⟨rfl, hno⟩, h2]
 exact h3
theorem zpg {i : Nat} {f : zxe} {g : zxa} {ρ : zaV} {d : D} (h : f ρ = some d) (hf : zd0 d = true) : zaC (zfN i f) g ρ = g (ρ.set i (some (.sh d))) := by
 have e : zfN i f ρ = some (.nx, ρ.set i (some (.sh d))) := by unfold zfN; rw [h, Option.bind_some, if_pos hf]
 exact zcm e
theorem znh {i : Nat} {f : zxe} {g : zxa} {ρ : zaV} {l a b : List D} (h : f ρ = some (.tup l)) (hl : zkX l = some (a, b)) : zaC (zfN i f) g ρ = g (ρ.set i (some (.tlo a b))) := by
 have e : zfN i f ρ = some (.nx, ρ.set i (some (.tlo a b))) := by
  unfold zfN
  rw [h, Option.bind_some, if_neg (by exact Bool.false_ne_true)]
  show (zkX l).map _ = _
  rw [hl]
  rfl
 exact zcm e
theorem zmV {i : Nat} {ft : zw1} {ρ : zaV} {ds es : List D} {b : Bool} (h1 : ρ[i]? = some (some (.tlo ds es))) (h2 : ft (ρ.set i (some (.sh (.tup (ds ++ [.lst es]))))) = some b) : zvh i ft ρ = some b := by
 unfold zvh; rw [h1]; exact h2
theorem zoR {i : Nat} {ft : zw1} {ρ : zaV} {d : D} {b : Bool} (h1 : ρ[i]? = some (some (.sh d))) (h2 : ft ρ = some b) : zvh i ft ρ = some b := by
 unfold zvh; rw [h1]; exact h2
theorem zo2 {i n : Nat} {f : zxe} {ρ : zaV} {ds es : List D} {d : D} (h1 : ρ[i]? = some (some (.tlo ds es))) (h2 : f ρ = some d) (h3 : n = ds.length /\ es.length < sizeLine /\ zd0 d = true) : zix i n f ρ = some (.nx, ρ.set i (some (.tlo ds (es ++ [d])))) := by
 unfold zix; rw [h1]
 show (f ρ).bind _ = _
 rw [h2, Option.bind_some, if_pos h3]
theorem zrR {ft : zw1} {A B : zxa} {ρ : zaV} (h : ft ρ = some false) : zuw ft A B ρ = B ρ := by
 unfold zuw; rw [h, Option.bind_some, if_neg Bool.false_ne_true]
theorem zrQ {ft : zw1} {A B : zxa} {ρ : zaV} (h : ft ρ = some true) : zuw ft A B ρ = A ρ := by
 unfold zuw; rw [h, Option.bind_some, if_pos rfl]
theorem znO (j : JobT) : zkX [.str j.nm, .int j.ea, .int j.du, .bl j.od, .lst (j.ms.map D.str)] = some ([.str j.nm, .int j.ea, .int j.du, .bl j.od], j.ms.map D.str) := by
 have e : (j.ms.map D.str).all zd0 = true := by rw [List.all_map]; exact List.all_eq_true.mpr fun _ _ => rfl
 show (if (([.str j.nm, .int j.ea, .int j.du, .bl j.od] : List D).all zd0 && (j.ms.map D.str).all zd0) = true then _ else none) = _
 rw [e]
 rfl
end
end Law
end
section
namespace Law
open PySem L2
section
variable {bs : List BenchT} {ss : List StepT} {js : List JobT} {us : List SetT} {ls : List LinkT} {ks : List StockT} {h : Int}
theorem zlm (g : Good bs ss js us ls ks h) {s : StepT} (hs : s ∈ ss) {L x : D} {f k : Option Slot} : ∃ f' k',
  ((zaC (zfv 7 (zfO "Shop" "ways_of" zaF (ztZ 0) (zab (ztZ 2) zak))) (zaC (zfN 8 (zdz "Shop" "job_of" zaK (ztZ 0) (zab (ztZ 2) zak))) (zaC (zuw (zvg 7 (zvh 8 (zuF (zt5 (zxj zuJ (ztZ 7) (ztZ 4))) (zuF (zt5 (zxj zuJ (zdz "Shop" "kind_of" zaT (ztZ 0) (zab (ztZ 2) zak)) (ztZ 3))) (zt5 (zxj zuJ (ztZ 8) (ztZ 5))))))) (za5 (zxk (.bl false))) zbH) (zaC (zdT 7 (zxk .non)) (zuw (zvh 8 (zt5 (zxj zgt (ztZ 8) (zxk .non)))) (zix 8 4 (zxk .non)) zbH)))))) [some (.sh (zbL bs ss js us ls ks h)), some (.sh L), some (.sh (.str s.nm)), some (.sh (.str s.kd)), some (.sh (.lst (s.ws.map zw2))), some (.sh (zlL (zcQ js s.nm))), some (.sh x), f, k] =
   some (.nx, [some (.sh (zbL bs ss js us ls ks h)), some (.sh L), some (.sh (.str s.nm)), some (.sh (.str s.kd)), some (.sh (.lst (s.ws.map zw2))), some (.sh (zlL (zcQ js s.nm))), some (.sh x), f', k']) := by
 have eW : zfO "Shop" "ways_of" zaF (ztZ 0) (zab (ztZ 2) zak) [some (.sh (zbL bs ss js us ls ks h)), some (.sh L), some (.sh (.str s.nm)), some (.sh (.str s.kd)), some (.sh (.lst (s.ws.map zw2))), some (.sh (zlL (zcQ js s.nm))), some (.sh x), f, k] = some (s.ws.map zw2) :=
  zkj (by decide +kernel) rfl (zaj rfl zaD) (zm7 g hs)
 have eJ : zdz "Shop" "job_of" zaK (ztZ 0) (zab (ztZ 2) zak) [some (.sh (zbL bs ss js us ls ks h)), some (.sh L), some (.sh (.str s.nm)), some (.sh (.str s.kd)), some (.sh (.lst (s.ws.map zw2))), some (.sh (zlL (zcQ js s.nm))), some (.sh x), some (.own (s.ws.map zw2)), k] = some (zlL (zcQ js s.nm)) :=
  zhN (by decide +kernel) rfl (zaj rfl zaD) (zp8 g s.nm)
 have hwn : ∀ w ∈ s.ws, zaR w.1 = true := fun w hw => g.bnn _ ((g.s s hs).ws w hw).1
 have hl : (s.ws.map zw2).length < sizeLine := by
  rw [List.length_map]
  have := (g.s s hs).l4
  unfold sizeLine
  omega
 cases e : zcQ js s.nm with
 | none =>
  rw [e] at eW eJ
  refine ⟨some (.own (s.ws.map zw2 ++ [.non])), some (.sh .non), (zgi eW).trans ((zpg eJ rfl).trans ((zbh ?_).trans ((zcm (zgM (d := .non) rfl rfl hl)).trans ((zrR ?_).trans rfl))))⟩
  ·exact zmU rfl (zoR rfl (ziD (a := false) (b := false) (zaG (zay rfl rfl (zly hwn))) (ziD (a := false) (b := false) (zaG (zay (zhN (by decide +kernel) rfl (zaj rfl zaD) (zl8 g hs)) rfl (zj8 _))) (zaG (zay rfl rfl rfl)))))
  ·exact zoR rfl (zaG (zay rfl rfl rfl))
 | some j =>
  rw [e] at eW eJ
  obtain ⟨hj, _⟩ := ziG e
  have hjn : ∀ x ∈ j.ms, zaR x = true := fun y hy => g.snn y ((g.j j hj).ms y hy)
  have hjl : (j.ms.map D.str).length < sizeLine := by
   rw [List.length_map]
   have := (g.j j hj).ln
   rw [List.length_map] at this
   have := g.sl.2
   unfold sizeLine
   omega
  refine ⟨some (.own (s.ws.map zw2 ++ [.non])), some (.tlo [.str j.nm, .int j.ea, .int j.du, .bl j.od] (j.ms.map D.str ++ [.non])), (zgi eW).trans ((znh eJ (znO j)).trans ((zbh ?_).trans ((zcm (zgM (d := .non) rfl rfl hl)).trans ((zrQ ?_).trans (zo2 (n := 4) (ds := [.str j.nm, .int j.ea, .int j.du, .bl j.od]) (es := j.ms.map D.str) (d := .non) rfl rfl ⟨rfl, hjl, rfl⟩)))))⟩
  ·exact zmU rfl (zmV rfl (ziD (a := false) (b := false) (zaG (zay rfl rfl (zly hwn))) (ziD (a := false) (b := false) (zaG (zay (zhN (by decide +kernel) rfl (zaj rfl zaD) (zl8 g hs)) rfl (zj8 _))) (zaG (zay (x := zbr j) (y := zbr j) rfl rfl (znj (g.j j hj).nm hjn))))))
  ·exact zmV rfl (zaG (zay rfl rfl rfl))
theorem zo1 (g : Good bs ss js us ls ks h) : zaU [zbL bs ss js us ls ks h, zcZ bs ss js us ls ks h] = some (.bl true) := by
 have hjn : ∀ j ∈ js, ∀ x ∈ j.ms, zaR x = true := fun j hj y hy => g.snn y ((g.j j hj).ms y hy)
 obtain ⟨ρ', h1, a, b, c, d, e, f, k, h2⟩ := zbM (gg := zcz 3 (zaH (zaN 2) (zaH (zaN 3) (zaH (zaN 4) zcy)))) (body := (zaC (zbs 5 (zxh zbZ (zab (zxj zu0 (ztZ 1) (zxk (.int 2))) (zab (ztZ 2) zak)))) (zde (zu2 zgY (zab (zxk (.int 2)) zak)) (zaN 6) (zaC (zfv 7 (zfO "Shop" "ways_of" zaF (ztZ 0) (zab (ztZ 2) zak))) (zaC (zfN 8 (zdz "Shop" "job_of" zaK (ztZ 0) (zab (ztZ 2) zak))) (zaC (zuw (zvg 7 (zvh 8 (zuF (zt5 (zxj zuJ (ztZ 7) (ztZ 4))) (zuF (zt5 (zxj zuJ (zdz "Shop" "kind_of" zaT (ztZ 0) (zab (ztZ 2) zak)) (ztZ 3))) (zt5 (zxj zuJ (ztZ 8) (ztZ 5))))))) (za5 (zxk (.bl false))) zbH) (zaC (zdT 7 (zxk .non)) (zuw (zvh 8 (zt5 (zxj zgt (ztZ 8) (zxk .non)))) (zix 8 4 (zxk .non)) zbH)))))))) (xs := ss.map za0) (ρ := [some (.sh (zbL bs ss js us ls ks h)), some (.sh (zcZ bs ss js us ls ks h)), none, none, none, none, none, none, none])
  (fun _ ρ => ∃ a b c d e f k, ρ = [some (.sh (zbL bs ss js us ls ks h)), some (.sh (zcZ bs ss js us ls ks h)), a, b, c, d, e, f, k]) ⟨_, _, _, _, _, _, _, rfl⟩ (fun i x ρ hx hI => by
   obtain ⟨a, b, c, d, e, f, k, rfl⟩ := hI
   rw [List.getElem?_map] at hx
   obtain ⟨s, hp, rfl⟩ := oMd hx
   have hs := List.mem_of_getElem? hp
   obtain ⟨ρ2, q1, e', f', k', q2⟩ := zbM (gg := zaN 6) (body := (zaC (zfv 7 (zfO "Shop" "ways_of" zaF (ztZ 0) (zab (ztZ 2) zak))) (zaC (zfN 8 (zdz "Shop" "job_of" zaK (ztZ 0) (zab (ztZ 2) zak))) (zaC (zuw (zvg 7 (zvh 8 (zuF (zt5 (zxj zuJ (ztZ 7) (ztZ 4))) (zuF (zt5 (zxj zuJ (zdz "Shop" "kind_of" zaT (ztZ 0) (zab (ztZ 2) zak)) (ztZ 3))) (zt5 (zxj zuJ (ztZ 8) (ztZ 5))))))) (za5 (zxk (.bl false))) zbH) (zaC (zdT 7 (zxk .non)) (zuw (zvh 8 (zt5 (zxj zgt (ztZ 8) (zxk .non)))) (zix 8 4 (zxk .non)) zbH)))))) (xs := (List.range (2 : Int).toNat).map fun k : Nat => D.int (0 + k)) (ρ := [some (.sh (zbL bs ss js us ls ks h)), some (.sh (zcZ bs ss js us ls ks h)), some (.sh (.str s.nm)), some (.sh (.str s.kd)), some (.sh (.lst (s.ws.map zw2))), some (.sh (zlL (zcQ js s.nm))), e, f, k])
    (fun _ ρ => ∃ e f k, ρ = [some (.sh (zbL bs ss js us ls ks h)), some (.sh (zcZ bs ss js us ls ks h)), some (.sh (.str s.nm)), some (.sh (.str s.kd)), some (.sh (.lst (s.ws.map zw2))), some (.sh (zlL (zcQ js s.nm))), e, f, k]) ⟨_, _, _, rfl⟩ (fun i x ρ hx hI => by
     obtain ⟨e, f, k, rfl⟩ := hI
     obtain ⟨f', k', ht⟩ := zlm g hs (L := zcZ bs ss js us ls ks h) (x := x) (f := f) (k := k)
     exact ⟨_, _, rfl, ht, _, f', k', rfl⟩)
   have eI : zu2 zgY (zab (zxk (.int 2)) zak) [some (.sh (zbL bs ss js us ls ks h)), some (.sh (zcZ bs ss js us ls ks h)), some (.sh (.str s.nm)), some (.sh (.str s.kd)), some (.sh (.lst (s.ws.map zw2))), some (.sh (zlL (zcQ js s.nm))), e, f, k] = some ((List.range (2 : Int).toNat).map fun k : Nat => D.int (0 + k)) := zfz (zaj rfl zaD) (zes (j := 2) (by decide))
   refine ⟨[some (.sh (zbL bs ss js us ls ks h)), some (.sh (zcZ bs ss js us ls ks h)), some (.sh (.str s.nm)), some (.sh (.str s.kd)), some (.sh (.lst (s.ws.map zw2))), d, e, f, k], ρ2, rfl, ?_, ⟨_, _, _, _, e', f', k', q2⟩⟩
   exact (zaL (za1 (zaj (zay rfl rfl (zuZ _ 2)) (zaj rfl zaD)) (zl5 (g.s s hs).nm hjn))).trans ((zcV eI).trans q1))
 subst h2
 exact zba [some (.sh (zbL bs ss js us ls ks h)), some (.sh (zcZ bs ss js us ls ks h)), none, none, none, none, none, none, none] rfl ((zcm ((zcV (by unfold zu3; rw [zay rfl rfl (zuZ _ 1)]; rfl)).trans h1)).trans (zbb (f := zxk (.bl true)) rfl))
end
end Law
end
section
namespace Law
open PySem L2
theorem zns {i j : Int} (h : 0 <= j /\ j <= 1000000 /\ i.natAbs < 2 ^ 64) : zpv (.int i) (.int j) = some (.int (i ^ j.toNat)) := if_pos h
theorem zp2 {f g e a : zxe} {ρ : zaV} {x y z w : D} (h1 : f ρ = some x) (h2 : g ρ = some y) (h3 : e ρ = some z) (h4 : a ρ = some w) : za6 (zuh (zab f (zab g (zab e (zab a zak))))) ρ = some (.lst [x, y, z, w]) := by
 simp only [za6, zuh, zab, zak, h1, h2, h3, h4, Option.bind_some, Option.map_some, List.length_cons, List.length_nil, Nat.zero_add, zul, if_true]
section
variable {bs : List BenchT} {ss : List StepT} {js : List JobT} {us : List SetT} {ls : List LinkT} {ks : List StockT} {h : Int}
theorem zrP : zi7 "int" "bool" = some false := rfl
def zvj : zxa := zaC (zbs 8 (zdz "Shop" "setup_of" za2 (ztZ 3) (zab (ztZ 5) (zab (ztZ 9) (zab (ztZ 10) zak))))) (zuw (zuF (zt5 (zxj zuJ (ztZ 8) (zwp zeO (ztZ 4) (zb7 (zuh (zab (ztZ 5) (zab (ztZ 9) (zab (ztZ 10) zak))))) (zxk (.int 0))))) (zt5 (zxh zdA (zab (ztZ 8) (zab (zxk (.ty "bool")) zak))))) (za5 (zxk (.bl false))) zbH)
def zvi : zxa := zaC (zfv 8 (zfO "Shop" "breaks_of" zaM (ztZ 3) (zab (ztZ 5) zak))) (zaC (zuw (zvg 8 (zt5 (zxj zuJ (ztZ 8) (ztZ 6)))) (za5 (zxk (.bl false))) zbH) (zdT 8 (zb7 (zuh (zab (zxk (.int 0)) (zab (zxk (.int 1)) zak))))))
abbrev zuB (ns : List Int) (bs : List BenchT) (ss : List StepT) (js : List JobT) (us : List SetT) (ls : List LinkT) (ks : List StockT) (h : Int) (a b c d e f : Option Slot) : zaV := [some (.sh (.scr ns)), some (.sh (.int h)), some (.sh (zcZ bs ss js us ls ks h)), some (.sh (zbL bs ss js us ls ks h)), some (.sh (.dt (zt1 us))), a, b, c, d, e, f]
theorem zs4 {ns : List Int} {nm p q : Str} {b c d : Option Slot} : ∃ d', zvj (zuB ns bs ss js us ls ks h (some (.sh (.str nm))) b c d (some (.sh (.str p))) (some (.sh (.str q)))) = some (.nx, zuB ns bs ss js us ls ks h (some (.sh (.str nm))) b c d' (some (.sh (.str p))) (some (.sh (.str q)))) := by
 obtain ⟨n, hn⟩ := zrT us nm p q
 refine ⟨some (.sh (.int n)), (zaL (zhN (by decide +kernel) rfl (zaj rfl (zaj rfl (zaj rfl zaD))) (zlu hn))).trans ((zrR (ziD (a := false) (b := false) (zaG (zay (x := .int n) (y := .int n) rfl (zsd rfl (zhA rfl rfl rfl) rfl hn) (znk n))) (zaG (za1 (zaj rfl (zaj rfl zaD)) ?_)))).trans rfl)⟩
 simp only [zdA, zt3, Option.bind_some, zrP, Option.map_some]
theorem zs3 (g : Good bs ss js us ls ks h) {ns : List Int} {t : BenchT} (ht : t ∈ bs) {c d e f : Option Slot} : ∃ d', zvi (zuB ns bs ss js us ls ks h (some (.sh (.str t.nm))) (some (.sh (.lst (t.br.map zvc)))) c d e f) = some (.nx, zuB ns bs ss js us ls ks h (some (.sh (.str t.nm))) (some (.sh (.lst (t.br.map zvc)))) c d' e f) := by
 have hl : (t.br.map zvc).length < sizeLine := by
  rw [List.length_map]
  have := (g.b t ht).len
  unfold sizeLine
  omega
 exact ⟨some (.own (t.br.map zvc ++ [.tup [.int 0, .int 1]])), (zgi (zkj (by decide +kernel) rfl (zaj rfl zaD) (zk9 g ht))).trans ((zbh (zmU rfl (zaG (zay rfl rfl (zph t.br))))).trans (zgM rfl (zc3 rfl rfl) hl))⟩
def zv9 : zxa := zaC (zde (zu2 zgY (zab (zxk (.int 2)) zak)) (zaN 7) zvi) (zde (zu1 (zxk (.str "pqrz"))) (zaN 9) (zde (zu1 (zxk (.str "pqrz"))) (zaN 10) zvj))
theorem zoA {ρ : zaV} {x : Str} : zu1 (zxk (.str x)) ρ = some (x.cps.toList.map fun c => D.str ⟨#[c]⟩) := rfl
theorem zs7 (g : Good bs ss js us ls ks h) {ns : List Int} {t : BenchT} (ht : t ∈ bs) {c d e f : Option Slot} : ∃ c' d' e' f', zv9 (zuB ns bs ss js us ls ks h (some (.sh (.str t.nm))) (some (.sh (.lst (t.br.map zvc)))) c d e f) = some (.nx, zuB ns bs ss js us ls ks h (some (.sh (.str t.nm))) (some (.sh (.lst (t.br.map zvc)))) c' d' e' f') := by
 obtain ⟨ρ1, q1, c1, d1, z1⟩ := zbM (gg := zaN 7) (body := zvi) (xs := (List.range (2 : Int).toNat).map fun k : Nat => D.int (0 + k)) (ρ := zuB ns bs ss js us ls ks h (some (.sh (.str t.nm))) (some (.sh (.lst (t.br.map zvc)))) c d e f)
  (fun _ ρ => ∃ c d, ρ = zuB ns bs ss js us ls ks h (some (.sh (.str t.nm))) (some (.sh (.lst (t.br.map zvc)))) c d e f) ⟨_, _, rfl⟩ (fun i x ρ hx hI => by
   obtain ⟨c, d, rfl⟩ := hI
   obtain ⟨d', hb⟩ := zs3 g (ns := ns) ht (c := some (.sh x)) (d := d) (e := e) (f := f)
   exact ⟨_, _, rfl, hb, _, d', rfl⟩)
 subst z1
 have e1 : zu2 zgY (zab (zxk (.int 2)) zak) (zuB ns bs ss js us ls ks h (some (.sh (.str t.nm))) (some (.sh (.lst (t.br.map zvc)))) c d e f) = some ((List.range (2 : Int).toNat).map fun k : Nat => D.int (0 + k)) := zfz (zaj rfl zaD) (zes (j := 2) (by decide))
 obtain ⟨ρ2, q2, d2, e2, f2, z2⟩ := zbM (gg := zaN 9) (body := zde (zu1 (zxk (.str "pqrz"))) (zaN 10) zvj) (xs := ("pqrz" : Str).cps.toList.map fun c => D.str ⟨#[c]⟩) (ρ := zuB ns bs ss js us ls ks h (some (.sh (.str t.nm))) (some (.sh (.lst (t.br.map zvc)))) c1 d1 e f)
  (fun _ ρ => ∃ d e f, ρ = zuB ns bs ss js us ls ks h (some (.sh (.str t.nm))) (some (.sh (.lst (t.br.map zvc)))) c1 d e f) ⟨_, _, _, rfl⟩ (fun i x ρ hx hI => by
   obtain ⟨d, e, f, rfl⟩ := hI
   rw [List.getElem?_map] at hx
   obtain ⟨p, _, rfl⟩ := oMd hx
   obtain ⟨ρ3, q3, d3, f3, z3⟩ := zbM (gg := zaN 10) (body := zvj) (xs := ("pqrz" : Str).cps.toList.map fun c => D.str ⟨#[c]⟩) (ρ := zuB ns bs ss js us ls ks h (some (.sh (.str t.nm))) (some (.sh (.lst (t.br.map zvc)))) c1 d (some (.sh (.str ⟨#[p]⟩))) f)
    (fun _ ρ => ∃ d f, ρ = zuB ns bs ss js us ls ks h (some (.sh (.str t.nm))) (some (.sh (.lst (t.br.map zvc)))) c1 d (some (.sh (.str ⟨#[p]⟩))) f) ⟨_, _, rfl⟩ (fun i x ρ hx hI => by
     obtain ⟨d, f, rfl⟩ := hI
     rw [List.getElem?_map] at hx
     obtain ⟨q, _, rfl⟩ := oMd hx
     obtain ⟨d', hb⟩ := zs4 (bs := bs) (ss := ss) (js := js) (us := us) (ls := ls) (ks := ks) (h := h) (ns := ns) (nm := t.nm) (p := ⟨#[p]⟩) (q := ⟨#[q]⟩) (b := some (.sh (.lst (t.br.map zvc)))) (c := c1) (d := d)
     exact ⟨_, _, rfl, hb, d', _, rfl⟩)
   exact ⟨zuB ns bs ss js us ls ks h (some (.sh (.str t.nm))) (some (.sh (.lst (t.br.map zvc)))) c1 d (some (.sh (.str ⟨#[p]⟩))) f, ρ3, rfl, (zcV zoA).trans q3, d3, _, f3, z3⟩)
 subst z2
 exact ⟨_, _, _, _, (zcm ((zcV e1).trans q1)).trans ((zcV zoA).trans q2)⟩
theorem znM (ns : List Int) (hlen : ns.length <= 63) : zse [.scr ns] = some (.bl true) := by
 have a0 : 0 <= (ns.getD 21 0) % 4 := Int.emod_nonneg _ (by decide)
 have a1 : (ns.getD 21 0) % 4 < 4 := Int.emod_lt_of_pos _ (by decide)
 have c0 : 0 <= (ns.getD 20 0) % 30 := Int.emod_nonneg _ (by decide)
 have c1 : (ns.getD 20 0) % 30 < 30 := Int.emod_lt_of_pos _ (by decide)
 have b0 : 0 <= (ns.getD 22 0) % 10 := Int.emod_nonneg _ (by decide)
 have zwE : (ns.getD 22 0) % 10 < 10 := Int.emod_lt_of_pos _ (by decide)
 obtain ⟨n, hn⟩ : ∃ n : Nat, 1 + (ns.getD 22 0) % 10 = (n : Int) := ⟨(1 + (ns.getD 22 0) % 10).toNat, by omega⟩
 have pw : zpv (.int 10) (.int 6) = some (.int 1000000) := zns (by decide)
 obtain ⟨h, hh, hr⟩ : ∃ h : Int, zu0 (.lst [.int 9, .int 40, .int 1000000, .int (1 + (ns.getD 20 0) % 30)]) (.int ((ns.getD 21 0) % 4)) = some (.int h) /\ (1 <= h /\ h <= 1000000) := by
  have : (ns.getD 21 0) % 4 = 0 \/ (ns.getD 21 0) % 4 = 1 \/ (ns.getD 21 0) % 4 = 2 \/ (ns.getD 21 0) % 4 = 3 := by omega
  rcases this with z | z | z | z <;> rw [z]
  ·exact ⟨9, rfl, by decide⟩
  ·exact ⟨40, rfl, by decide⟩
  ·exact ⟨1000000, rfl, by decide⟩
  ·exact ⟨1 + (ns.getD 20 0) % 30, rfl, by omega⟩
 obtain ⟨bs, ss, js, us, ls, ks, e2, g, jl⟩ := znK ns n h 7 (by omega) hr (by decide)
 have ml : (js.flatMap (·.ms)).length <= 300 := by
  have := zhS (f := fun j : JobT => j.ms) (m := 40) (l := js) fun j hj => Nat.le_trans (g.j j hj).ln (by rw [List.length_map]; exact g.sl.2)
  omega
 have e1 : zxj zu0 (za6 (zuh (zab (zxk (.int 9)) (zab (zxk (.int 40)) (zab (zxj zpv (zxk (.int 10)) (zxk (.int 6))) (zab (zxj zbx (zxk (.int 1)) (zxj zcf (zxh zav (zab (ztZ 0) (zab (zxk (.int 20)) zak))) (zxk (.int 30)))) zak)))))) (zxj zcf (zxh zav (zab (ztZ 0) (zab (zxk (.int 21)) zak))) (zxk (.int 4))) [some (.sh (.scr ns)), none, none, none, none, none, none, none, none, none, none] = some (.int h) :=
  zay (zp2 rfl rfl (zay rfl rfl pw) (zay rfl (zay (za1 (zaj rfl (zaj rfl zaD)) (zdO ns 20)) rfl (zcn (by decide))) rfl)) (zay (za1 (zaj rfl (zaj rfl zaD)) (zdO ns 21)) rfl (zcn (by decide))) hh
 have hSh := zpe g ml
 have hT := zo1 g
 obtain ⟨ρ', h1, a, b, c, d, e, f, h2⟩ := zbM (gg := zcz 2 (zaH (zaN 5) (zaH (zaN 6) zcy))) (body := zv9) (xs := bs.map zaS) (ρ := zuB ns bs ss js us ls ks h none none none none none none)
  (fun _ ρ => ∃ a b c d e f, ρ = zuB ns bs ss js us ls ks h a b c d e f) ⟨_, _, _, _, _, _, rfl⟩ (fun i x ρ hx hI => by
   obtain ⟨a, b, c, d, e, f, rfl⟩ := hI
   rw [List.getElem?_map] at hx
   obtain ⟨t, hp, rfl⟩ := oMd hx
   obtain ⟨c', d', e', f', hb⟩ := zs7 g (ns := ns) (List.mem_of_getElem? hp) (c := c) (d := d) (e := e) (f := f)
   exact ⟨zuB ns bs ss js us ls ks h (some (.sh (.str t.nm))) (some (.sh (.lst (t.br.map zvc)))) c d e f, _, rfl, hb, _, _, c', d', e', f', rfl⟩)
 subst h2
 have e22 : zxj zbx (zxk (.int 1)) (zxj zcf (zxh zav (zab (ztZ 0) (zab (zxk (.int 22)) zak))) (zxk (.int 10))) [some (.sh (.scr ns)), some (.sh (.int h)), none, none, none, none, none, none, none, none, none] = some (.int (n : Int)) :=
  zay rfl (zay (za1 (zaj rfl (zaj rfl zaD)) (zdO ns 22)) rfl (zcn (by decide))) (by rw [← hn]; rfl)
 have e4 := zkp (us := us) (fo := zxj zu0 (ztZ 2) (zxk (.int 3))) (ρ := [some (.sh (.scr ns)), some (.sh (.int h)), some (.sh (zcZ bs ss js us ls ks h)), some (.sh (zbL bs ss js us ls ks h)), none, none, none, none, none, none, none]) (zay rfl rfl (zuZ _ 3)) (by have := g.ul; omega) g.un
 have eB : zu3 (zxj zu0 (ztZ 2) (zxk (.int 0))) (zuB ns bs ss js us ls ks h none none none none none none) = some (bs.map zaS) := by
  unfold zu3
  rw [zay rfl rfl (zuZ _ 0)]
  rfl
 exact zba [some (.sh (.scr ns)), none, none, none, none, none, none, none, none, none, none] rfl ((zaL e1).trans ((zaL (za1 (zaj rfl (zaj e22 (zaj rfl (zaj rfl zaD)))) e2)).trans ((zaL (za1 (zaj rfl zaD) hSh)).trans ((zaL e4).trans ((zcm ((zcV eB).trans h1)).trans (zbb (za1 (zaj rfl (zaj rfl zaD)) hT)))))))
end
end Law
end
section
namespace Law
open PySem L2 PySem.Spec PyProof.Rows
def zvU (C_Shop : Addr) : Cn := ⟨fun c => if c = "Shop" then some C_Shop else none, none⟩
def zo9 (K : PySem.W.Frag) : zwI := fun vs H Q _ => ∃ (a : Addr) (ns : List Int), vs = [.ref a] /\ zvy K H a (ns.map V.int) /\ ns.length <= 63 /\ ∀ H', Q (.bl true) H'
theorem all_mk {l : PySem.W.OpenLaw} {w : World} {K : PySem.W.Frag} {h : Heap} {mg : Str -> Option Value} {fa : Addr} (X : K.In h) (G : h.Ns mainGlobals mg) (hfa : mg "law" = some (.ref fa))
  {C_Shop : Addr} (aC_Shop : PySem.W.nsIn K mainGlobals "Shop" = some (some (.ref C_Shop)))
  (d0 : Dfn K mg "_law_cell" zer)
  (d1 : Dfn K mg "_law_digits" zdq)
  (d2 : Dfn K mg "_law_spans" zdH)
  (d3 : Dfn K mg "_law_name" zep)
  (d4 : Dfn K mg "_law_benches" zc4)
  (d5 : Dfn K mg "_law_steps" zdG)
  (d6 : Dfn K mg "_law_jobs" zeq)
  (d7 : Dfn K mg "_law_setups" zdp)
  (d8 : Dfn K mg "_law_links" zdJ)
  (d9 : Dfn K mg "_law_stocks" zdo)
  (d10 : Dfn K mg "_law_lists" zdI)
  (d11 : Dfn K mg "is_whole" ze1)
  (d12 : Dfn K mg "is_within" zej)
  (d13 : Dfn K mg "is_tuple" ze2)
  (d14 : Dfn K mg "is_break" ze5)
  (d15 : Dfn K mg "is_list" zga)
  (d16 : Dfn K mg "are_breaks" zdF)
  (d17 : Dfn K mg "is_name" zf9)
  (d18 : Dfn K mg "is_bench" ze6)
  (d19 : Dfn K mg "are_unlike" zdC)
  (d20 : Dfn K mg "are_benches" zdm)
  (d21 : Dfn K mg "is_one_of" zek)
  (d22 : Dfn K mg "is_way" zhG)
  (d23 : Dfn K mg "are_ways" ze7)
  (d24 : Dfn K mg "is_step" zf8)
  (d25 : Dfn K mg "are_steps" zem)
  (d26 : Dfn K mg "is_job" zhH)
  (d27 : Dfn K mg "are_jobs" ze8)
  (d28 : Dfn K mg "is_setup" ze4)
  (d29 : Dfn K mg "are_setups" zdE)
  (d30 : Dfn K mg "is_link" zgb)
  (d31 : Dfn K mg "are_links" zen)
  (d32 : Dfn K mg "is_amount" zel)
  (d33 : Dfn K mg "are_amounts" zdn)
  (d34 : Dfn K mg "is_stock" ze3)
  (d35 : Dfn K mg "are_stocks" zdD)
  (d36 : Dfn K mg "first_bad_part" zcH)
  (d37 : Dfn K mg "fresh" zjj)
  (d38 : DfnM K C_Shop "Shop" "__init__" "Shop.__init__" zcU)
  (d39 : Dfn K mg "_law_shop" zeo)
  (d40 : Dfn K mg "fresh" zgc)
  (d41 : DfnM K C_Shop "Shop" "breaks_of" "Shop.breaks_of" zcq)
  (d42 : DfnM K C_Shop "Shop" "setup_of" "Shop.setup_of" zcS)
  (d43 : Dfn K mg "_law_job" ze9)
  (d44 : DfnM K C_Shop "Shop" "ways_of" "Shop.ways_of" zcI)
  (d45 : Dfn K mg "fresh" zgd)
  (d46 : DfnM K C_Shop "Shop" "job_of" "Shop.job_of" zcT)
  (d47 : DfnM K C_Shop "Shop" "kind_of" "Shop.kind_of" zc5)
  (d48 : Dfn K mg "_law_steps_told" zcx)
  (a49 : PySem.W.nsIn K mainGlobals "law" = some (some (.ref f49))) (l49 : K.lookup f49 = some ⟨oc49, od49, .func (PySem.W.fnOf "law" "law" (zbN zf7) (zaX zf7) (zag zf7) .none kV49 dc49 pm49 an49 cd49 ct49), sl49⟩) (c49 : PySem.W.codeIn K cd49 "law" = true) (k49 : PySem.W.keepIn K (.ref f49) = true)
  (pg_Shop : PySem.W.plainGet K C_Shop Str.empty = true) (hd_Shop : PySem.W.hasDictIn K C_Shop = true) (po_Shop : PySem.W.plainOver K C_Shop = true) (sa_Shop : PySem.W.findIn K (.ref C_Shop) "__setattr__" = some (some (.builtin "object.__setattr__"))) (mk_Shop : PySem.W.makesIn K C_Shop = true) (kc_Shop : PySem.W.keepIn K (.ref C_Shop) = true)
  (n0_Shop : PySem.W.findIn K (.ref C_Shop) "benches" = some none)
  (n1_Shop : PySem.W.findIn K (.ref C_Shop) "steps" = some none)
  (n2_Shop : PySem.W.findIn K (.ref C_Shop) "jobs" = some none)
  (n3_Shop : PySem.W.findIn K (.ref C_Shop) "setups" = some none)
  (n4_Shop : PySem.W.findIn K (.ref C_Shop) "links" = some none)
  (n5_Shop : PySem.W.findIn K (.ref C_Shop) "stocks" = some none)
  (n6_Shop : PySem.W.findIn K (.ref C_Shop) "horizon" = some none)
  (n7_Shop : PySem.W.findIn K (.ref C_Shop) "bench_by_name" = some none)
  (n8_Shop : PySem.W.findIn K (.ref C_Shop) "step_by_name" = some none)
  (n9_Shop : PySem.W.findIn K (.ref C_Shop) "setup_by_names" = some none)
  (n10_Shop : PySem.W.findIn K (.ref C_Shop) "job_by_step" = some none)
  (z_abs : PySem.W.nsIn K mainGlobals "abs" = some none)
  (z_all : PySem.W.nsIn K mainGlobals "all" = some none)
  (z_bool : PySem.W.nsIn K mainGlobals "bool" = some none)
  (z_dict : PySem.W.nsIn K mainGlobals "dict" = some none)
  (z_enumerate : PySem.W.nsIn K mainGlobals "enumerate" = some none)
  (z_int : PySem.W.nsIn K mainGlobals "int" = some none)
  (z_isinstance : PySem.W.nsIn K mainGlobals "isinstance" = some none)
  (z_len : PySem.W.nsIn K mainGlobals "len" = some none)
  (z_list : PySem.W.nsIn K mainGlobals "list" = some none)
  (z_max : PySem.W.nsIn K mainGlobals "max" = some none)
  (z_min : PySem.W.nsIn K mainGlobals "min" = some none)
  (z_range : PySem.W.nsIn K mainGlobals "range" = some none)
  (z_set : PySem.W.nsIn K mainGlobals "set" = some none)
  (z_str : PySem.W.nsIn K mainGlobals "str" = some none)
  (z_tuple : PySem.W.nsIn K mainGlobals "tuple" = some none)
  {tk_LONGEST_NAME : Tok} (z_LONGEST_NAME : PySem.W.nsIn K mainGlobals "LONGEST_NAME" = some (some (.int 8 tk_LONGEST_NAME)))
  {tk_MOST_AMOUNT : Tok} (z_MOST_AMOUNT : PySem.W.nsIn K mainGlobals "MOST_AMOUNT" = some (some (.int 1000000 tk_MOST_AMOUNT)))
  {tk_MOST_BENCHES : Tok} (z_MOST_BENCHES : PySem.W.nsIn K mainGlobals "MOST_BENCHES" = some (some (.int 8 tk_MOST_BENCHES)))
  {tk_MOST_BREAKS : Tok} (z_MOST_BREAKS : PySem.W.nsIn K mainGlobals "MOST_BREAKS" = some (some (.int 10 tk_MOST_BREAKS)))
  {tk_MOST_HORIZON : Tok} (z_MOST_HORIZON : PySem.W.nsIn K mainGlobals "MOST_HORIZON" = some (some (.int 1000000 tk_MOST_HORIZON)))
  {tk_MOST_JOBS : Tok} (z_MOST_JOBS : PySem.W.nsIn K mainGlobals "MOST_JOBS" = some (some (.int 40 tk_MOST_JOBS)))
  {tk_MOST_LINKS : Tok} (z_MOST_LINKS : PySem.W.nsIn K mainGlobals "MOST_LINKS" = some (some (.int 100 tk_MOST_LINKS)))
  {tk_MOST_SETUPS : Tok} (z_MOST_SETUPS : PySem.W.nsIn K mainGlobals "MOST_SETUPS" = some (some (.int 100 tk_MOST_SETUPS)))
  {tk_MOST_STEPS : Tok} (z_MOST_STEPS : PySem.W.nsIn K mainGlobals "MOST_STEPS" = some (some (.int 40 tk_MOST_STEPS)))
  {tk_MOST_STOCKS : Tok} (z_MOST_STOCKS : PySem.W.nsIn K mainGlobals "MOST_STOCKS" = some (some (.int 6 tk_MOST_STOCKS)))
  {tk_MOST_WAYS : Tok} (z_MOST_WAYS : PySem.W.nsIn K mainGlobals "MOST_WAYS" = some (some (.int 4 tk_MOST_WAYS)))
  : ∃ fd : FuncData, (∀ (s : Shared) (v : Value), BindsTo s fd ⟨[v], []⟩ [("_law_script", v)]) /\ ∀ base : Heap, K.In base -> base.Ns mainGlobals mg -> FnOk l.prog w K mg base zvX 12 fa fd ["_law_script"] (zo9 K) := by
 have e := hfa.symm.trans (PySem.W.mg_of X G a49)
 have e2 := Value.ref.inj (Option.some.inj e)
 subst e2
 have B : Bn mg := ⟨PySem.W.mg_none_of X G z_abs, PySem.W.mg_none_of X G z_all, PySem.W.mg_none_of X G z_bool, PySem.W.mg_none_of X G z_dict, PySem.W.mg_none_of X G z_enumerate, PySem.W.mg_none_of X G z_int, PySem.W.mg_none_of X G z_isinstance, PySem.W.mg_none_of X G z_len, PySem.W.mg_none_of X G z_list, PySem.W.mg_none_of X G z_max, PySem.W.mg_none_of X G z_min, PySem.W.mg_none_of X G z_range, PySem.W.mg_none_of X G z_set, PySem.W.mg_none_of X G z_str, PySem.W.mg_none_of X G z_tuple, by have q := PySem.W.mg_of X G z_LONGEST_NAME; rw [q]; unfold zd7; rw [q], by have q := PySem.W.mg_of X G z_MOST_AMOUNT; rw [q]; unfold zeH; rw [q], by have q := PySem.W.mg_of X G z_MOST_BENCHES; rw [q]; unfold zd6; rw [q], by have q := PySem.W.mg_of X G z_MOST_BREAKS; rw [q]; unfold zeG; rw [q], by have q := PySem.W.mg_of X G z_MOST_HORIZON; rw [q]; unfold zd5; rw [q], by have q := PySem.W.mg_of X G z_MOST_JOBS; rw [q]; unfold zf2; rw [q], by have q := PySem.W.mg_of X G z_MOST_LINKS; rw [q]; unfold zft; rw [q], by have q := PySem.W.mg_of X G z_MOST_SETUPS; rw [q]; unfold zeF; rw [q], by have q := PySem.W.mg_of X G z_MOST_STEPS; rw [q]; unfold zfs; rw [q], by have q := PySem.W.mg_of X G z_MOST_STOCKS; rw [q]; unfold zeE; rw [q], by have q := PySem.W.mg_of X G z_MOST_WAYS; rw [q]; unfold zf1; rw [q]⟩
 have O_Shop : ClsOk (zvU C_Shop) K mg "Shop" C_Shop := ⟨by unfold zvU; rfl, ⟨pg_Shop, hd_Shop, po_Shop, sa_Shop⟩, PySem.W.mg_of X G aC_Shop, mk_Shop, kc_Shop⟩
 have cf_Shop : CF (zvU C_Shop) K "Shop" zez := O_Shop.cf (List.forall_mem_cons.mpr ⟨n0_Shop, (List.forall_mem_cons.mpr ⟨n1_Shop, (List.forall_mem_cons.mpr ⟨n2_Shop, (List.forall_mem_cons.mpr ⟨n3_Shop, (List.forall_mem_cons.mpr ⟨n4_Shop, (List.forall_mem_cons.mpr ⟨n5_Shop, (List.forall_mem_cons.mpr ⟨n6_Shop, (List.forall_mem_cons.mpr ⟨n7_Shop, (List.forall_mem_cons.mpr ⟨n8_Shop, (List.forall_mem_cons.mpr ⟨n9_Shop, (List.forall_mem_cons.mpr ⟨n10_Shop, (List.forall_mem_nil _)⟩)⟩)⟩)⟩)⟩)⟩)⟩)⟩)⟩)⟩)⟩)
 refine ⟨PySem.W.fnOf "law" "law" (zbN zf7) (zaX zf7) (zag zf7) .none kV49 dc49 pm49 an49 cd49 ct49, fun s v => .of_eq rfl, fun base _ _ => ?_⟩
 have C__law_cell : Cal (zvU C_Shop) l.prog w K mg base "_law_cell" 2 1 zav := zia d0 B
 have C__law_digits : Cal (zvU C_Shop) l.prog w K mg base "_law_digits" 3 1 zai := zgK d1 B
 have C__law_spans : Cal (zvU C_Shop) l.prog w K mg base "_law_spans" 2 1 zbn := zg7 d2 B
 have C__law_name : Cal (zvU C_Shop) l.prog w K mg base "_law_name" 1 1 zar := zh8 d3 B
 have C__law_benches : Cal (zvU C_Shop) l.prog w K mg base "_law_benches" 2 2 zbg := zfQ d4 B C__law_digits C__law_spans C__law_name
 have C__law_steps : Cal (zvU C_Shop) l.prog w K mg base "_law_steps" 4 2 zbC := zg6 d5 B C__law_digits C__law_name
 have C__law_jobs : Cal (zvU C_Shop) l.prog w K mg base "_law_jobs" 3 2 zbR := zh9 d6 B C__law_digits C__law_name
 have C__law_setups : Cal (zvU C_Shop) l.prog w K mg base "_law_setups" 3 2 zbo := zgJ d7 B C__law_digits
 have C__law_links : Cal (zvU C_Shop) l.prog w K mg base "_law_links" 3 2 zbE := zg9 d8 B C__law_digits
 have C__law_stocks : Cal (zvU C_Shop) l.prog w K mg base "_law_stocks" 2 2 zbm := zgI d9 B C__law_digits C__law_name
 have C__law_lists : Cal (zvU C_Shop) l.prog w K mg base "_law_lists" 4 3 zbD := zg8 d10 B C__law_cell C__law_benches C__law_steps C__law_jobs C__law_setups C__law_links C__law_stocks
 have C_is_whole : Cal (zvU C_Shop) l.prog w K mg base "is_whole" 1 1 zbU := ziR d11 B
 have C_is_within : Cal (zvU C_Shop) l.prog w K mg base "is_within" 3 2 zam := zh2 d12 B C_is_whole
 have C_is_tuple : Cal (zvU C_Shop) l.prog w K mg base "is_tuple" 2 1 zan := ziS d13 B
 have C_is_break : Cal (zvU C_Shop) l.prog w K mg base "is_break" 2 3 zbX := ziV d14 B C_is_within C_is_tuple
 have C_is_list : Cal (zvU C_Shop) l.prog w K mg base "is_list" 3 1 zao := zjN d15 B
 have C_are_breaks : Cal (zvU C_Shop) l.prog w K mg base "are_breaks" 2 4 zbB := zg5 d16 B C_is_break C_is_list
 have C_is_name : Cal (zvU C_Shop) l.prog w K mg base "is_name" 1 1 zaw := zjM d17 B
 have C_is_bench : Cal (zvU C_Shop) l.prog w K mg base "is_bench" 2 5 zbY := ziW d18 B C_are_breaks C_is_name C_is_tuple
 have C_are_unlike : Cal (zvU C_Shop) l.prog w K mg base "are_unlike" 1 1 zah := zg2 d19 B
 have C_are_benches : Cal (zvU C_Shop) l.prog w K mg base "are_benches" 2 6 zbl := zgG d20 B C_is_bench C_is_list C_are_unlike
 have C_is_one_of : Cal (zvU C_Shop) l.prog w K mg base "is_one_of" 2 2 zat := zh3 d21 B C_is_name
 have C_is_way : Cal (zvU C_Shop) l.prog w K mg base "is_way" 3 3 zcR := zk7 d22 B C_is_within C_is_one_of C_is_tuple
 have C_are_ways : Cal (zvU C_Shop) l.prog w K mg base "are_ways" 3 4 zco := ziX d23 B C_is_way C_is_list C_are_unlike
 have C_is_step : Cal (zvU C_Shop) l.prog w K mg base "is_step" 3 5 zct := zjL d24 B C_is_name C_is_tuple C_are_ways
 have C_are_steps : Cal (zvU C_Shop) l.prog w K mg base "are_steps" 3 6 zbO := zh5 d25 B C_is_step C_is_list C_are_unlike
 have C_is_job : Cal (zvU C_Shop) l.prog w K mg base "is_job" 3 3 zc2 := zk8 d26 B C_is_name C_is_tuple C_is_within C_is_one_of C_is_list
 have C_are_jobs : Cal (zvU C_Shop) l.prog w K mg base "are_jobs" 3 4 zcp := ziY d27 B C_is_job C_is_list C_are_unlike
 have C_is_setup : Cal (zvU C_Shop) l.prog w K mg base "is_setup" 3 3 zbW := ziU d28 B C_is_one_of C_is_tuple C_is_within C_is_name
 have C_are_setups : Cal (zvU C_Shop) l.prog w K mg base "are_setups" 3 4 zbA := zg4 d29 B C_is_setup C_is_list C_are_unlike
 have C_is_link : Cal (zvU C_Shop) l.prog w K mg base "is_link" 3 3 zcu := zjO d30 B C_is_one_of C_is_tuple C_is_within
 have C_are_links : Cal (zvU C_Shop) l.prog w K mg base "are_links" 3 4 zbP := zh6 d31 B C_is_link C_is_list C_are_unlike
 have C_is_amount : Cal (zvU C_Shop) l.prog w K mg base "is_amount" 2 3 zbG := zh4 d32 B C_is_within C_is_one_of C_is_tuple
 have C_are_amounts : Cal (zvU C_Shop) l.prog w K mg base "are_amounts" 2 4 zbf := zgH d33 B C_is_amount C_is_list C_are_unlike
 have C_is_stock : Cal (zvU C_Shop) l.prog w K mg base "is_stock" 2 5 zbV := ziT d34 B C_is_name C_is_tuple C_is_within C_are_amounts
 have C_are_stocks : Cal (zvU C_Shop) l.prog w K mg base "are_stocks" 2 6 zbz := zg3 d35 B C_is_stock C_is_list C_are_unlike
 have C_first_bad_part : Cal (zvU C_Shop) l.prog w K mg base "first_bad_part" 7 7 za3 := zeS d36 B C_is_within C_are_benches C_are_steps C_are_jobs C_are_setups C_are_links C_are_stocks
 have C_fresh : ∀ n, Cal (zvU C_Shop) l.prog w K mg base "fresh" 1 n (zdc n) := fun n => by
  induction n with
  | zero => exact Dfn.none (ps := ["thing"]) d37 (fun _ _ _ _ _ _ us hl => match us, hl with | [_], _ => rfl)
  | succ n ih => exact zmT d37 B ih
 replace C_fresh : Cal (zvU C_Shop) l.prog w K mg base "fresh" 1 8 za4 := C_fresh 8
 have C_Shop___init__ : CalI (zvU C_Shop) l.prog w K mg base "Shop" 7 9 zbc := zfk O_Shop d38 B C_first_bad_part C_fresh cf_Shop
 have C__law_shop : Cal (zvU C_Shop) l.prog w K mg base "_law_shop" 1 11 zbQ := zh7 d39 B C_Shop___init__
 have C_fresh_O : CalO (zvU C_Shop) l.prog w K mg base "fresh" 1 9 zbk := zjP d40 B C_fresh
 have C_Shop_breaks_of_O : CalMO (zvU C_Shop) l.prog w K mg base "Shop" "breaks_of" 2 10 zaM := zd2 O_Shop d41 B C_fresh_O cf_Shop
 have C_Shop_setup_of : CalM (zvU C_Shop) l.prog w K mg base "Shop" "setup_of" 4 1 za2 := zfi O_Shop d42 B cf_Shop
 have C__law_job : Cal (zvU C_Shop) l.prog w K mg base "_law_job" 2 1 zbZ := ziZ d43 B
 have C_Shop_ways_of_O : CalMO (zvU C_Shop) l.prog w K mg base "Shop" "ways_of" 2 10 zaF := zeT O_Shop d44 B C_fresh_O cf_Shop
 have C_fresh_N : ∀ n, CalN (zvU C_Shop) l.prog w K mg base "fresh" 1 n (zcc n) := fun n => by
  induction n with
  | zero => exact Dfn.noneN (ps := ["thing"]) d45 (fun _ _ _ _ _ _ us hl => match us, hl with | [_], _ => rfl)
  | succ n ih => exact zjQ d45 B ih
 replace C_fresh_N : CalN (zvU C_Shop) l.prog w K mg base "fresh" 1 8 zbw := C_fresh_N 8
 have C_Shop_job_of_N : CalMN (zvU C_Shop) l.prog w K mg base "Shop" "job_of" 2 9 zaK := zfj O_Shop d46 B C_fresh_N cf_Shop
 have C_Shop_kind_of : CalM (zvU C_Shop) l.prog w K mg base "Shop" "kind_of" 2 1 zaT := zfR O_Shop d47 B cf_Shop
 have C__law_steps_told : Cal (zvU C_Shop) l.prog w K mg base "_law_steps_told" 2 11 zaU := zey d48 B C__law_job C_Shop_ways_of_O C_Shop_job_of_N C_Shop_kind_of
 have FL := zmm (st := zf7) l49 c49 k49
 have ok : FnOk l.prog w K mg base zvX 12 fa _ ["_law_script"] (zut (zvU C_Shop) K 1 zse) := FL.okD (k := 11) zdu (zqx B C__law_cell C__law_lists C__law_shop C_Shop_breaks_of_O C_Shop_setup_of C__law_steps_told fa)
 refine ok.imp fun vs H Q E hq => ?_
 obtain ⟨a, ns, rfl, hS, hlen, k⟩ := hq
 exact ⟨H, [.scr ns], .bl true, zb5.refl H, .cons (.scr hS) .nil, rfl, znM ns hlen, fun v G' H' _ r => by rw [r.bl_inv]; exact k H'⟩
theorem walk {l : PySem.W.OpenLaw} {q : Program} {loose : List Str} {XP : (Str -> Option Value) -> Heap -> Prop} {YP : World -> Heap -> Prop} {d : DefRec} {K : Params -> PySem.W.Frag} (hn : l.most = some 63) (hdf : d.params.defaults = [])
  (hY : ∀ (w : World) (h : Heap), YP w h -> (K w.params).In h)
  (F : ∀ (w : World) (mg : Str -> Option Value) (fa : Addr) (h : Heap), (K w.params).In h -> h.Ns mainGlobals mg -> mg d.name = some (.ref fa) ->
   ∃ fd : FuncData, (∀ (s : Shared) (u : Value), BindsTo s fd ⟨[u], []⟩ [("_law_script", u)]) /\ ∀ base : Heap, (K w.params).In base -> base.Ns mainGlobals mg -> FnOk l.prog w (K w.params) mg base zvX 12 fa fd ["_law_script"] (zo9 (K w.params))) :
  PySem.W.WalkO q loose XP YP l.row.toRowW d [] (fun f vs => PySem.call f vs) :=
 L2.walk_of (n := 63) (k := 12) (x := "_law_script") (CX := fun _ => zvX) (sp := fun w => zo9 (K w.params)) hn (by decide) hdf ⟨rfl, by decide, by decide⟩ hY F (fun _ _ a ns hl _ hS => ⟨a, ns, rfl, hS, hl, fun _ => rfl⟩) fun _ _ _ _ _ z => z
end Law
def PySem.W.Fast.tw7162260327254784447 : Unit := ()
def PySem.W.Fast.tw8691019648873214244 : Unit := ()
def PySem.W.Fast.tw2057709088267581197 : Unit := ()
def PySem.W.Fast.tw6422251624147937545 : Unit := ()
def PySem.W.Fast.tw15823351067772673569 : Unit := ()
def PySem.W.Fast.tw5193868133897010820 : Unit := ()
def PySem.W.Fast.tw3749424844782470432 : Unit := ()
def PySem.W.Fast.tw429936705921313984 : Unit := ()
def PySem.W.Fast.tw9914770679471552686 : Unit := ()
def PySem.W.Fast.tw15484928957686623224 : Unit := ()
def PySem.W.Fast.tw8904063435034360617 : Unit := ()
def PySem.W.Fast.tw7895225034902269427 : Unit := ()
def PySem.W.Fast.tw8089665952941255407 : Unit := ()
def PySem.W.Fast.tw13486362009501564961 : Unit := ()
open PySem PySem.W PyProof.Rows L2
set_option maxRecDepth 100000 in
set_option maxHeartbeats 0 in
theorem PySem.Challenge.cw_shopbound_k02_shops_asked_holds : PySem.Challenge.rw_shopbound_k02_shops_asked.Holds := by
 w_on; o_law; k_head; (case hw => w_witness2)
 k_fill
 refine Law.walk (l := PySem.Challenge.rw_shopbound_k02_shops_asked) rfl rfl (fun w h Y => PySem.W.kIn_of Y) ?F
 case F =>
  intro w mg fa h KX G hmg
  refine' Law.all_mk KX G hmg ?aC_Shop ?d0 ?d1 ?d2 ?d3 ?d4 ?d5 ?d6 ?d7 ?d8 ?d9 ?d10 ?d11 ?d12 ?d13 ?d14 ?d15 ?d16 ?d17 ?d18 ?d19 ?d20 ?d21 ?d22 ?d23 ?d24 ?d25 ?d26 ?d27 ?d28 ?d29 ?d30 ?d31 ?d32 ?d33 ?d34 ?d35 ?d36 ?d37 ?d38 ?d39 ?d40 ?d41 ?d42 ?d43 ?d44 ?d45 ?d46 ?d47 ?d48 ?a49 ?l49 ?c49 ?k49 ?pg_Shop ?hd_Shop ?po_Shop ?sa_Shop ?mk_Shop ?kc_Shop ?n0_Shop ?n1_Shop ?n2_Shop ?n3_Shop ?n4_Shop ?n5_Shop ?n6_Shop ?n7_Shop ?n8_Shop ?n9_Shop ?n10_Shop ?z_abs ?z_all ?z_bool ?z_dict ?z_enumerate ?z_int ?z_isinstance ?z_len ?z_list ?z_max ?z_min ?z_range ?z_set ?z_str ?z_tuple ?z_LONGEST_NAME ?z_MOST_AMOUNT ?z_MOST_BENCHES ?z_MOST_BREAKS ?z_MOST_HORIZON ?z_MOST_JOBS ?z_MOST_LINKS ?z_MOST_SETUPS ?z_MOST_STEPS ?z_MOST_STOCKS ?z_MOST_WAYS
  (case aC_Shop => k_is)
  (case d0 => refine' Dfn.mk' KX G ?a ?l ?c ?k; (case a => k_is); (case l => k_is); (case c => k_is); (case k => k_is))
  (case d1 => refine' Dfn.mk' KX G ?a ?l ?c ?k; (case a => k_is); (case l => k_is); (case c => k_is); (case k => k_is))
  (case d2 => refine' Dfn.mk' KX G ?a ?l ?c ?k; (case a => k_is); (case l => k_is); (case c => k_is); (case k => k_is))
  (case d3 => refine' Dfn.mk' KX G ?a ?l ?c ?k; (case a => k_is); (case l => k_is); (case c => k_is); (case k => k_is))
  (case d4 => refine' Dfn.mk' KX G ?a ?l ?c ?k; (case a => k_is); (case l => k_is); (case c => k_is); (case k => k_is))
  (case d5 => refine' Dfn.mk' KX G ?a ?l ?c ?k; (case a => k_is); (case l => k_is); (case c => k_is); (case k => k_is))
  (case d6 => refine' Dfn.mk' KX G ?a ?l ?c ?k; (case a => k_is); (case l => k_is); (case c => k_is); (case k => k_is))
  (case d7 => refine' Dfn.mk' KX G ?a ?l ?c ?k; (case a => k_is); (case l => k_is); (case c => k_is); (case k => k_is))
  (case d8 => refine' Dfn.mk' KX G ?a ?l ?c ?k; (case a => k_is); (case l => k_is); (case c => k_is); (case k => k_is))
  (case d9 => refine' Dfn.mk' KX G ?a ?l ?c ?k; (case a => k_is); (case l => k_is); (case c => k_is); (case k => k_is))
  (case d10 => refine' Dfn.mk' KX G ?a ?l ?c ?k; (case a => k_is); (case l => k_is); (case c => k_is); (case k => k_is))
  (case d11 => refine' Dfn.mk' KX G ?a ?l ?c ?k; (case a => k_is); (case l => k_is); (case c => k_is); (case k => k_is))
  (case d12 => refine' Dfn.mk' KX G ?a ?l ?c ?k; (case a => k_is); (case l => k_is); (case c => k_is); (case k => k_is))
  (case d13 => refine' Dfn.mk' KX G ?a ?l ?c ?k; (case a => k_is); (case l => k_is); (case c => k_is); (case k => k_is))
  (case d14 => refine' Dfn.mk' KX G ?a ?l ?c ?k; (case a => k_is); (case l => k_is); (case c => k_is); (case k => k_is))
  (case d15 => refine' Dfn.mk' KX G ?a ?l ?c ?k; (case a => k_is); (case l => k_is); (case c => k_is); (case k => k_is))
  (case d16 => refine' Dfn.mk' KX G ?a ?l ?c ?k; (case a => k_is); (case l => k_is); (case c => k_is); (case k => k_is))
  (case d17 => refine' Dfn.mk' KX G ?a ?l ?c ?k; (case a => k_is); (case l => k_is); (case c => k_is); (case k => k_is))
  (case d18 => refine' Dfn.mk' KX G ?a ?l ?c ?k; (case a => k_is); (case l => k_is); (case c => k_is); (case k => k_is))
  (case d19 => refine' Dfn.mk' KX G ?a ?l ?c ?k; (case a => k_is); (case l => k_is); (case c => k_is); (case k => k_is))
  (case d20 => refine' Dfn.mk' KX G ?a ?l ?c ?k; (case a => k_is); (case l => k_is); (case c => k_is); (case k => k_is))
  (case d21 => refine' Dfn.mk' KX G ?a ?l ?c ?k; (case a => k_is); (case l => k_is); (case c => k_is); (case k => k_is))
  (case d22 => refine' Dfn.mk' KX G ?a ?l ?c ?k; (case a => k_is); (case l => k_is); (case c => k_is); (case k => k_is))
  (case d23 => refine' Dfn.mk' KX G ?a ?l ?c ?k; (case a => k_is); (case l => k_is); (case c => k_is); (case k => k_is))
  (case d24 => refine' Dfn.mk' KX G ?a ?l ?c ?k; (case a => k_is); (case l => k_is); (case c => k_is); (case k => k_is))
  (case d25 => refine' Dfn.mk' KX G ?a ?l ?c ?k; (case a => k_is); (case l => k_is); (case c => k_is); (case k => k_is))
  (case d26 => refine' Dfn.mk' KX G ?a ?l ?c ?k; (case a => k_is); (case l => k_is); (case c => k_is); (case k => k_is))
  (case d27 => refine' Dfn.mk' KX G ?a ?l ?c ?k; (case a => k_is); (case l => k_is); (case c => k_is); (case k => k_is))
  (case d28 => refine' Dfn.mk' KX G ?a ?l ?c ?k; (case a => k_is); (case l => k_is); (case c => k_is); (case k => k_is))
  (case d29 => refine' Dfn.mk' KX G ?a ?l ?c ?k; (case a => k_is); (case l => k_is); (case c => k_is); (case k => k_is))
  (case d30 => refine' Dfn.mk' KX G ?a ?l ?c ?k; (case a => k_is); (case l => k_is); (case c => k_is); (case k => k_is))
  (case d31 => refine' Dfn.mk' KX G ?a ?l ?c ?k; (case a => k_is); (case l => k_is); (case c => k_is); (case k => k_is))
  (case d32 => refine' Dfn.mk' KX G ?a ?l ?c ?k; (case a => k_is); (case l => k_is); (case c => k_is); (case k => k_is))
  (case d33 => refine' Dfn.mk' KX G ?a ?l ?c ?k; (case a => k_is); (case l => k_is); (case c => k_is); (case k => k_is))
  (case d34 => refine' Dfn.mk' KX G ?a ?l ?c ?k; (case a => k_is); (case l => k_is); (case c => k_is); (case k => k_is))
  (case d35 => refine' Dfn.mk' KX G ?a ?l ?c ?k; (case a => k_is); (case l => k_is); (case c => k_is); (case k => k_is))
  (case d36 => refine' Dfn.mk' KX G ?a ?l ?c ?k; (case a => k_is); (case l => k_is); (case c => k_is); (case k => k_is))
  (case d37 => refine' Dfn.mk' KX G ?a ?l ?c ?k; (case a => k_is); (case l => k_is); (case c => k_is); (case k => k_is))
  (case d38 => refine' DfnM.mk' ?a ?i ?l ?c ?k; (case a => k_is); (case i => k_is); (case l => k_is); (case c => k_is); (case k => k_is))
  (case d39 => refine' Dfn.mk' KX G ?a ?l ?c ?k; (case a => k_is); (case l => k_is); (case c => k_is); (case k => k_is))
  (case d40 => refine' Dfn.mk' KX G ?a ?l ?c ?k; (case a => k_is); (case l => k_is); (case c => k_is); (case k => k_is))
  (case d41 => refine' DfnM.mk' ?a ?i ?l ?c ?k; (case a => k_is); (case i => k_is); (case l => k_is); (case c => k_is); (case k => k_is))
  (case d42 => refine' DfnM.mk' ?a ?i ?l ?c ?k; (case a => k_is); (case i => k_is); (case l => k_is); (case c => k_is); (case k => k_is))
  (case d43 => refine' Dfn.mk' KX G ?a ?l ?c ?k; (case a => k_is); (case l => k_is); (case c => k_is); (case k => k_is))
  (case d44 => refine' DfnM.mk' ?a ?i ?l ?c ?k; (case a => k_is); (case i => k_is); (case l => k_is); (case c => k_is); (case k => k_is))
  (case d45 => refine' Dfn.mk' KX G ?a ?l ?c ?k; (case a => k_is); (case l => k_is); (case c => k_is); (case k => k_is))
  (case d46 => refine' DfnM.mk' ?a ?i ?l ?c ?k; (case a => k_is); (case i => k_is); (case l => k_is); (case c => k_is); (case k => k_is))
  (case d47 => refine' DfnM.mk' ?a ?i ?l ?c ?k; (case a => k_is); (case i => k_is); (case l => k_is); (case c => k_is); (case k => k_is))
  (case d48 => refine' Dfn.mk' KX G ?a ?l ?c ?k; (case a => k_is); (case l => k_is); (case c => k_is); (case k => k_is))
  (case a49 => k_is)
  (case l49 => k_is)
  (case c49 => k_is)
  (case k49 => k_is)
  (case pg_Shop => k_is)
  (case hd_Shop => k_is)
  (case po_Shop => k_is)
  (case sa_Shop => k_is)
  (case mk_Shop => k_is)
  (case kc_Shop => k_is)
  (case n0_Shop => k_is)
  (case n1_Shop => k_is)
  (case n2_Shop => k_is)
  (case n3_Shop => k_is)
  (case n4_Shop => k_is)
  (case n5_Shop => k_is)
  (case n6_Shop => k_is)
  (case n7_Shop => k_is)
  (case n8_Shop => k_is)
  (case n9_Shop => k_is)
  (case n10_Shop => k_is)
  (case z_abs => k_is)
  (case z_all => k_is)
  (case z_bool => k_is)
  (case z_dict => k_is)
  (case z_enumerate => k_is)
  (case z_int => k_is)
  (case z_isinstance => k_is)
  (case z_len => k_is)
  (case z_list => k_is)
  (case z_max => k_is)
  (case z_min => k_is)
  (case z_range => k_is)
  (case z_set => k_is)
  (case z_str => k_is)
  (case z_tuple => k_is)
  (case z_LONGEST_NAME => k_is)
  (case z_MOST_AMOUNT => k_is)
  (case z_MOST_BENCHES => k_is)
  (case z_MOST_BREAKS => k_is)
  (case z_MOST_HORIZON => k_is)
  (case z_MOST_JOBS => k_is)
  (case z_MOST_LINKS => k_is)
  (case z_MOST_SETUPS => k_is)
  (case z_MOST_STEPS => k_is)
  (case z_MOST_STOCKS => k_is)
  (case z_MOST_WAYS => k_is)
end
end
