import PyProof.Rows.All
import Wide.All
import OpenK.AllK
import Wide.FinOn
import Lean
import PyProof.EqAt
import PyProof.EqKinds
import PyProof.TupleCall
import KE.KDictOf
import PyProof.AttrMiss
import PyProof.IsiH_list
import PySem.SetOps
import PyProof.WalkInts
import KE.KMinBuiltin
import PyProof.Rows.CallKwBuiltin
import PySem.Challenge.RW_shopbound_k26_known_orders
set_option Elab.async false
set_option linter.all false
set_option maxRecDepth 100000
theorem oBd {α : Type u} {β : Type v} {o : Option α} {f : α -> Option β} {b : β} (h : o.bind f = some b) : ∃ a, o = some a /\ f a = some b := Option.bind_eq_some_iff.mp h
theorem oMd {α : Type u} {β : Type v} {o : Option α} {f : α -> β} {b : β} (h : o.map f = some b) : ∃ a, o = some a /\ f a = b := Option.map_eq_some_iff.mp h
noncomputable section
section
open PySem PySem.Spec PyProof.Rows
def qa := @Option.bind_some
def qb := @List.getElem?_cons_zero
def qc := @List.getElem?_cons_succ
def qd := @Option.map_some
def qe := @List.length_map
def qf := @List.mem_cons_self
def qg := @List.mem_cons_of_mem
def qh := @List.length_cons
def qi := @List.length_append
def qj := @List.getElem?_map
def qk := @List.length_nil
def ql := @List.map_cons
def qm := @List.map_map
def qo := @Bool.false_eq_true
def qp := @Bool.false_ne_true
def qq := @Heap.get?_push_of_some
def qr := @Heap.lt_size
def qt := @Nat.le_refl
def qu := @wpAny_bind
def qv := @List.getElem?_append_left
end
section
namespace L2
open PySem PySem.Spec PyProof.Rows
abbrev Key := Sum Int Str
def zkZ : Key -> Value -> Bool
 | .inl k, v => Value.isInt k v
 | .inr x, v => Value.isStrOf x v
def zt3 (w : World) : Key -> Int
 | .inl k => hashInt k
 | .inr x => hashStr w x
theorem zbs : ∀ {k : Key} {v : Value}, zkZ k v = true -> (∃ i t, k = Sum.inl i /\ v = Value.int i t) \/ (∃ x t, k = Sum.inr x /\ v = Value.str x t)
 | .inl i, v, h => by
  obtain ⟨t, e⟩ := Value.isInt_shape (k := i) (v := v) h
  exact .inl ⟨i, t, rfl, e⟩
 | .inr x, v, h => by
  obtain ⟨t, e⟩ := Value.isStrOf_shape (x := x) (v := v) h
  exact .inr ⟨x, t, rfl, e⟩
theorem zma (i : Int) (t : Tok) : zkZ (.inl i) (.int i t) = true := by simp [zkZ, Value.isInt]
theorem zl9 (x : Str) (t : Tok) : zkZ (.inr x) (.str x t) = true := by simp [zkZ, Value.isStrOf]
theorem zrR (a b : Int) : decide ((Sum.inl a : Key) = Sum.inl b) = (a == b) := by
 by_cases e : a = b
 ·subst e; simp
 ·have h : ¬ (Sum.inl a : Key) = Sum.inl b := fun q => e (Sum.inl.inj q)
  rw [decide_eq_false h]
  exact (beq_eq_false_iff_ne.mpr e).symm
theorem zrO (a b : Str) : decide ((Sum.inr a : Key) = Sum.inr b) = decide (a = b) := by
 by_cases e : a = b
 ·subst e; simp
 ·have h : ¬ (Sum.inr a : Key) = Sum.inr b := fun q => e (Sum.inr.inj q)
  rw [decide_eq_false h, decide_eq_false e]
theorem zrQ (a : Int) (b : Str) : decide ((Sum.inl a : Key) = Sum.inr b) = false := decide_eq_false (fun q => nomatch q)
theorem zrP (a : Str) (b : Int) : decide ((Sum.inr a : Key) = Sum.inl b) = false := decide_eq_false (fun q => nomatch q)
def za6 (prog : Program) (w : World) : PySem.KeyKind prog w Key where
 is := zkZ
 hash := zt3 w
 inj := fun v a b ha hb => by
  rcases zbs ha with ⟨i, t, rfl, rfl⟩ | ⟨x, t, rfl, rfl⟩
  ·rcases zbs hb with ⟨j, u, rfl, e⟩ | ⟨y, u, rfl, e⟩
   ·injection e with e1 _; rw [e1]
   ·exact nomatch e
  ·rcases zbs hb with ⟨j, u, rfl, e⟩ | ⟨y, u, rfl, e⟩
   ·exact nomatch e
   ·injection e with e1 _; rw [e1]
 byValue := fun k v h => by
  rcases zbs h with ⟨i, t, rfl, rfl⟩ | ⟨x, t, rfl, rfl⟩ <;> rfl
 pyHash := fun hv h => by
  rcases zbs hv with ⟨i, t, rfl, rfl⟩ | ⟨x, t, rfl, rfl⟩
  ·exact wpAny_pyHash_int h
  ·exact wpAny_pyHash_str h
 eqBool := fun hu hv h => by
  rcases zbs hu with ⟨i, t, rfl, rfl⟩ | ⟨x, t, rfl, rfl⟩
  ·rcases zbs hv with ⟨j, u, rfl, rfl⟩ | ⟨y, u, rfl, rfl⟩
   ·rw [zrR] at h; exact wpAny_eqBool_int h
   ·rw [zrQ] at h; exact SeqAt.EqAt.int_str i t y u _ _ _ _ h
  ·rcases zbs hv with ⟨j, u, rfl, rfl⟩ | ⟨y, u, rfl, rfl⟩
   ·rw [zrP] at h; exact SeqAt.EqAt.str_int x t j u _ _ _ _ h
   ·rw [zrO] at h; exact wpAny_eqBool_str h
 «strs» := fun k x t v h => by
  rcases zbs h with ⟨i, u, rfl, e⟩ | ⟨y, u, rfl, e⟩
  ·exact nomatch e
  ·injection e with e1 _
   subst e1
   cases v <;> rfl
theorem zjC (prog : Program) (w : World) (i : Int) (t : Tok) : (za6 prog w).is (.inl i) (.int i t) = true := zma i t
theorem zjB (prog : Program) (w : World) (x : Str) (t : Tok) : (za6 prog w).is (.inr x) (.str x t) = true := zl9 x t
end L2
namespace L2
open PySem PySem.Spec PyProof.Rows
inductive V where
 | non | bl (b : Bool) | int (i : Int) | str (x : Str) | byt (b : Array UInt8) | flt (b : UInt64) | ref (a : Addr) | ty (n : String)
 deriving DecidableEq
def zco : V -> Value -> Prop
 | .non, u => u = Value.none
 | .bl b, u => u = Value.bool b
 | .int i, u => ∃ t, u = Value.int i t
 | .str x, u => ∃ t, u = Value.str x t
 | .byt b, u => ∃ t, u = Value.bytes b t
 | .flt b, u => ∃ t, u = Value.float b t
 | .ref a, u => u = Value.ref a
 | .ty n, u => u = Value.type n
abbrev zbX : List V -> List Value -> Prop := Paired zco
theorem zbX.length {xs : List V} {us : List Value} (r : zbX xs us) : xs.length = us.length := Paired.length r
theorem zbX.get : ∀ {xs : List V} {us : List Value} {i : Nat} {x : V}, zbX xs us -> xs[i]? = some x -> ∃ u, us[i]? = some u /\ zco x u
 | _, _, _, _, .nil, e => by simp at e
 | _, _, 0, _, .cons r _, e => by simp at e; subst e; exact ⟨_, rfl, r⟩
 | _, _, i + 1, x, .cons _ t, e => by
  obtain ⟨u, h1, h2⟩ := zbX.get (i := i) (x := x) t (by simpa using e)
  exact ⟨u, by simpa using h1, h2⟩
theorem zbX.append : ∀ {xs ys : List V} {us ws : List Value}, zbX xs us -> zbX ys ws -> zbX (xs ++ ys) (us ++ ws)
 | _, _, _, _, .nil, s => s
 | _, _, _, _, .cons r t, s => .cons r (zbX.append t s)
theorem zbX.take : ∀ {xs : List V} {us : List Value} (n : Nat), zbX xs us -> zbX (xs.take n) (us.take n)
 | _, _, 0, _ => .nil
 | _, _, _ + 1, .nil => .nil
 | _, _, n + 1, .cons r t => .cons r (zbX.take n t)
theorem zbX.drop : ∀ {xs : List V} {us : List Value} (n : Nat), zbX xs us -> zbX (xs.drop n) (us.drop n)
 | _, _, 0, r => r
 | _, _, _ + 1, .nil => .nil
 | _, _, n + 1, .cons _ t => zbX.drop n t
def zjk : Option V -> Option Value -> Prop
 | some v, some u => zco v u
 | none, none => True
 | _, _ => False
def KV {κ : Type} : List (κ × V) -> List (κ × Value) -> Prop := Paired fun (p : κ × V) (q : κ × Value) => p.1 = q.1 /\ zco p.2 q.2
def kV : Key -> V
 | .inl i => .int i
 | .inr x => .str x
inductive HO where
 | lst (xs : List V)
 | tup (xs : List V)
 | dK (kvs : List (Key × V)) | dT (kvs : List (List Key × V))
 | set (S : Int -> Bool) (n : Nat)
 | ins (C dx : Addr) (fs : List (Str × V))
 | own (x : Addr)
 | xd (fs : List (Str × V))
 | met (f x : Addr)
 | rng (lo hi : Int)
 | frz (o : Obj) (u : HO)
 | tbl (ps : Array Value)
 | ext (φ : Heap -> Prop)
abbrev Hp := Addr -> Option HO
def upd (H : Hp) (a : Addr) (o : HO) : Hp := fun b => if b = a then some o else H b
theorem zaC {H : Hp} {a : Addr} {o : HO} : upd H a o a = some o := by unfold upd; rw [if_pos rfl]
theorem zaw {H : Hp} {a b : Addr} {o : HO} (h : b ≠ a) : upd H a o b = H b := by unfold upd; rw [if_neg h]
theorem zpQ {H : Hp} {a b : Addr} {o u : HO} (h : H a = some o) (h' : H b = some u) (d : o ≠ u) : a ≠ b := by
 intro e; subst e; rw [h] at h'; exact d (Option.some.inj h')
theorem zap {H : Hp} {a b : Addr} {o : HO} (h : H a = some o) (h' : H b = none) : a ≠ b := by
 intro e; subst e; rw [h] at h'; cases h'
section
variable (P : Program) (w : World)
def zcw (H : Hp) (h : Heap) (a : Addr) : HO -> Prop
 | .lst xs => xs.length <= sizeLine /\ ∃ (its : List Value) (n : Nat), zbX xs its /\ h.get? a = some { cls := .type "list", data := .seq its.toArray n }
 | .tup xs => xs.length <= sizeLine /\ ∃ its : List Value, zbX xs its /\ IsTup h a its.toArray
 | .dK kvs => kvs.length <= sizeLine /\ (a == sysModules) = false /\ ∃ vs, KV kvs vs /\ h.DictOf (za6 P w) a vs
 | .dT kvs => kvs.length <= sizeLine /\ (a == sysModules) = false /\ ∃ xs : List (List Key × Addr × Value),
   Paired (fun (p : List Key × V) (q : List Key × Addr × Value) => p.1 = q.1 /\ H q.2.1 = some (.tup (p.1.map kV)) /\ zco p.2 q.2.2) kvs xs /\
   ∃ o es ep, h.get? a = some o /\ o.ExactDict /\ o.data = .dict es ep /\ es.toList = xs.map (entryOfKey (tupleKind (za6 P w))) /\ (xs.map (·.1)).Nodup
 | .set S n => h.SetOf (intKind P w) a S n
 | .ins C dx fs => H dx = some (.own a) /\ fs.length <= 1000 /\ dx ≠ a /\ h.get? a = some (PySem.W.instObj C dx) /\
   ∃ mA, h.Ns1 dx mA /\ (∀ f, zjk (fs.lookup f) (mA f)) /\ PySem.Within mA (fs.map (·.1))
 | .own _ => ∃ o, h.get? a = some o
 | .xd fs => ∃ mA, h.Ns1 a mA /\ ∀ f, zjk (fs.lookup f) (mA f)
 | .rng lo hi => ∃ t u v, h.get? a = some { cls := .type "range", data := .fields #[.int lo t, .int hi u, .int 1 v] }
 | .frz o u => h.get? a = some o /\ zcw H h a u
 | .tbl ps => h.get? a = some { cls := .none, data := .fields ps }
 | .met f x => h.get? a = some (PySem.W.methodObj (.ref f) (.ref x))
 | .ext φ => φ h /\ (∃ o, h.get? a = some o) /\ ∀ h1 h2 : Heap, φ h1 -> (∀ o, h1.get? a = some o -> h2.get? a = some o) -> φ h2
def HOk (H : Hp) (h : Heap) : Prop := ∀ a o, H a = some o -> zcw P w H h a o
end
section
variable {P : Program} {w : World} {H H' : Hp} {h h' : Heap} {a : Addr} {o : HO}
theorem zcw.lt (x : zcw P w H h a o) : a < h.objs.size := by
 cases o with
 | lst xs => obtain ⟨_, _, _, _, e⟩ := x; exact qr e
 | tup xs => obtain ⟨_, _, _, p⟩ := x; exact p.lt
 | dK kvs => obtain ⟨_, _, _, _, o, _, _, e, _⟩ := x; exact qr e
 | dT kvs => obtain ⟨_, _, _, _, o, _, _, e, _⟩ := x; exact qr e
 | set S n => obtain ⟨o, _, _, _, e, _⟩ := x; exact qr e
 | ins C dx fs => obtain ⟨_, _, _, e, _⟩ := x; exact qr e
 | own y => obtain ⟨_, e⟩ := x; exact qr e
 | xd fs => obtain ⟨_, ⟨_, _, _, e, _⟩, _⟩ := x; exact qr e
 | rng lo hi => obtain ⟨_, _, _, e⟩ := x; exact qr e
 | frz ob u => obtain ⟨e, _⟩ := x; exact qr e
 | tbl ps => exact qr (show h.get? a = some _ from x)
 | met f y => exact qr (show h.get? a = some _ from x)
 | ext φ => obtain ⟨_, ⟨_, e⟩, _⟩ := x; exact qr e
theorem Paired.mapP {α β : Type} {F G : α -> β -> Prop} : ∀ {l₁ : List α} {l₂ : List β}, Paired F l₁ l₂ -> (∀ a b, F a b -> G a b) -> Paired G l₁ l₂
 | _, _, .nil, _ => .nil
 | _, _, .cons r t, f => .cons (f _ _ r) (Paired.mapP t f)
theorem zcw.stay (x : zcw P w H h a o) (k : ∀ b u, (b = a \/ H b = some (.own a)) -> h.get? b = some u -> h'.get? b = some u)
  (ho : ∀ b, H b = some (.own a) -> H' b = some (.own a)) (ht : ∀ b xs, H b = some (.tup xs) -> H' b = some (.tup xs)) : zcw P w H' h' a o := by
 induction o with
 | lst xs => obtain ⟨z, its, n, r, e⟩ := x; exact ⟨z, its, n, r, k _ _ (.inl rfl) e⟩
 | tup xs => obtain ⟨z, its, r, ob, e, c⟩ := x; exact ⟨z, its, r, ob, k _ _ (.inl rfl) e, c⟩
 | dK kvs => obtain ⟨z, y, vs, r, ob, es, ep, e, c⟩ := x; exact ⟨z, y, vs, r, ob, es, ep, k _ _ (.inl rfl) e, c⟩
 | dT kvs =>
  obtain ⟨z, y, xs, r, ob, es, ep, e, c⟩ := x
  exact ⟨z, y, xs, Paired.mapP r fun p q z => ⟨z.1, ht _ _ z.2.1, z.2.2⟩, ob, es, ep, k _ _ (.inl rfl) e, c⟩
 | set S n => obtain ⟨ob, es, ep, t, e, c⟩ := x; exact ⟨ob, es, ep, t, k _ _ (.inl rfl) e, c⟩
 | ins C dx fs =>
  obtain ⟨d, z, ne, e, mA, ⟨od, es, ep, e2, c⟩, r⟩ := x
  exact ⟨ho _ d, z, ne, k _ _ (.inl rfl) e, mA, ⟨od, es, ep, k _ _ (.inr d) e2, c⟩, r⟩
 | own y => obtain ⟨ob, e⟩ := x; exact ⟨ob, k _ _ (.inl rfl) e⟩
 | xd fs => obtain ⟨mA, ⟨od, es, ep, e, c⟩, r⟩ := x; exact ⟨mA, ⟨od, es, ep, k _ _ (.inl rfl) e, c⟩, r⟩
 | rng lo hi => obtain ⟨t, u, v, e⟩ := x; exact ⟨t, u, v, k _ _ (.inl rfl) e⟩
 | frz ob u ih => obtain ⟨e, q⟩ := x; exact ⟨k _ _ (.inl rfl) e, ih q⟩
 | tbl ps =>
  have e : h.get? a = some { cls := .none, data := .fields ps } := x
  show h'.get? a = some { cls := .none, data := .fields ps }
  exact k a _ (.inl rfl) e
 | met f y =>
  have e : h.get? a = some (PySem.W.methodObj (.ref f) (.ref y)) := x
  show h'.get? a = some (PySem.W.methodObj (.ref f) (.ref y))
  exact k a _ (.inl rfl) e
 | ext φ => obtain ⟨p, ⟨o, e⟩, st⟩ := x; exact ⟨st _ _ p fun o q => k _ _ (.inl rfl) q, ⟨o, k _ _ (.inl rfl) e⟩, st⟩
theorem HOk.lt (x : HOk P w H h) (e : H a = some o) : a < h.objs.size := (x a o e).lt
theorem HOk.fresh (x : HOk P w H h) (e : h.objs.size <= a) : H a = none := by
 cases q : H a with
 | none => rfl
 | some u => exact absurd (Nat.lt_of_lt_of_le (x.lt q) e) (Nat.lt_irrefl _)
theorem HOk.kept (x : HOk P w H h) (k : ∀ b u, h.get? b = some u -> h'.get? b = some u) : HOk P w H h' := fun a o e =>
 (x a o e).stay (fun b u _ q => k b u q) (fun _ q => q) fun _ _ q => q
theorem HOk.laid (x : HOk P w H h) (k : ∀ b u, h.get? b = some u -> h'.get? b = some u) (hp : h.objs.size <= a) (new : zcw P w (upd H a o) h' a o) : HOk P w (upd H a o) h' := fun b u e => by
 have hn := x.fresh hp
 by_cases hb : b = a
 ·subst hb; rw [zaC] at e; cases e; exact new
 ·rw [zaw hb] at e
  exact (x b u e).stay (fun c v _ q => k c v q) (fun c q => by rw [zaw (zap q hn)]; exact q) fun c xs q => by rw [zaw (zap q hn)]; exact q
end
def Rd (H : Hp) (a : Addr) (u : HO) : Prop := H a = some u \/ ∃ o, H a = some (.frz o u)
theorem Rd.ok {P : Program} {w : World} {H : Hp} {h : Heap} {a : Addr} {u : HO} (r : Rd H a u) (x : HOk P w H h) : zcw P w H h a u := by
 rcases r with r | ⟨o, r⟩
 ·exact x a u r
 ·obtain ⟨_, q⟩ := x a _ r
  exact q
def Mut : Option HO -> Prop
 | some (.lst _) => True
 | some (.dK _) => True
 | some (.dT _) => True
 | some (.set _ _) => True
 | some (.ins _ _ _) => True
 | some (.ext _) => True
 | _ => False
section
variable {P : Program} {w : World} {H : Hp} {h h' : Heap} {x e : Addr} {o' : HO}
theorem HOk.write (ok : HOk P w H h) (mu : Mut (H x)) (he : e = x \/ H e = some (.own x)) (k : ∀ b u, b ≠ e -> h.get? b = some u -> h'.get? b = some u) (heo : ∃ u, h'.get? e = some u)
  (new : zcw P w (upd H x o') h' x o') : HOk P w (upd H x o') h' := fun b u q => by
 have nown : ∀ c y, H c = some (.own y) -> c ≠ x := fun c y r z => by subst z; rw [r] at mu; exact mu
 have ntup : ∀ c xs, H c = some (.tup xs) -> c ≠ x := fun c xs r z => by subst z; rw [r] at mu; exact mu
 by_cases hb : b = x
 ·subst hb; rw [zaC] at q; cases q; exact new
 ·rw [zaw hb] at q
  by_cases hbe : b = e
  ·have q' : H b = some (.own x) := by
    rcases he with z | z
    ·exact absurd (hbe.trans z) hb
    ·rw [hbe]; exact z
   rw [q] at q'; cases q'
   obtain ⟨v, hv⟩ := heo
   exact ⟨v, by rw [hbe]; exact hv⟩
  ·refine (ok b u q).stay (fun c v hc r => k c v ?_ r) (fun c r => by rw [zaw (nown c b r)]; exact r) fun c xs r => by rw [zaw (ntup c xs r)]; exact r
   rcases hc with rfl | hc
   ·exact hbe
   ·rintro rfl
    rcases he with z | z
    ·exact nown c b hc z
    ·rw [hc] at z; cases z; exact hb rfl
end
structure Un (fs ex : List Addr) (H H' : Hp) (h h' : Heap) : Prop where
 keep : ∀ b o, h.get? b = some o -> H b = none -> b ∉ fs -> b ∉ ex -> h'.get? b = some o
 slot : ∀ b o, h.get? b = some o -> H b = none -> b ∈ fs -> b ∉ ex -> ∃ sl, h'.get? b = some { o with slots := sl }
 free : ∀ b o, h.get? b = some o -> H b = none -> b ∉ ex -> H' b = none
 there : ∀ b o, h.get? b = some o -> b ∉ ex -> ∃ o', h'.get? b = some o'
 tups : ∀ b xs, H b = some (.tup xs) -> H' b = some (.tup xs)
 frzs : ∀ b o u, H b = some (.frz o u) -> H' b = some (.frz o u)
 tbls : ∀ b ps, H b = some (.tbl ps) -> ∃ more, H' b = some (.tbl (ps ++ more))
section
variable {fs fs' ex ex' : List Addr} {H H1 H2 : Hp} {h h1 h2 h' : Heap} {a x e : Addr} {o : HO}
theorem Un.any (u : Un fs ex H H1 h h1) {b : Addr} {ob : Obj} (q : h.get? b = some ob) (n : H b = none) (hx : b ∉ ex) : ∃ sl, h1.get? b = some { ob with slots := sl } := by
 by_cases hb : b ∈ fs
 ·exact u.slot b ob q n hb hx
 ·exact ⟨ob.slots, u.keep b ob q n hb hx⟩
theorem Un.kept (k : ∀ b u, h.get? b = some u -> h'.get? b = some u) : Un fs ex H H h h' :=
 ⟨fun b ob q _ _ _ => k b ob q, fun b ob q _ _ _ => ⟨ob.slots, k b ob q⟩, fun _ _ _ n _ => n, fun b ob q _ => ⟨ob, k b ob q⟩, fun _ _ q => q, fun _ _ _ q => q, fun _ ps q => ⟨#[], by rw [q]; simp⟩⟩
theorem Un.refl : Un fs ex H H h h := Un.kept fun _ _ q => q
theorem Un.laid (k : ∀ b u, h.get? b = some u -> h'.get? b = some u) (hp : h.objs.size <= a) (hn : H a = none) : Un fs ex H (upd H a o) h h' where
 keep := fun b u q _ _ _ => k b u q
 slot := fun b u q _ _ _ => ⟨u.slots, k b u q⟩
 free := fun b u q n _ => by rw [zaw (Nat.ne_of_lt (Nat.lt_of_lt_of_le (qr q) hp))]; exact n
 there := fun b u q _ => ⟨u, k b u q⟩
 tups := fun b xs q => by rw [zaw (zap q hn)]; exact q
 frzs := fun b u xs q => by rw [zaw (zap q hn)]; exact q
 tbls := fun b ps q => ⟨#[], by rw [zaw (zap q hn), q]; simp⟩
theorem Un.write (mu : Mut (H x)) (he : e = x \/ H e = some (.own x)) (k : ∀ b u, b ≠ e -> h.get? b = some u -> h'.get? b = some u) (heo : ∃ u, h'.get? e = some u) : Un fs ex H (upd H x o) h h' := by
 have hx : ∀ b, H b = none -> b ≠ x := fun b n z => by subst z; rw [n] at mu; exact mu
 have hb : ∀ b, H b = none -> b ≠ e := fun b n z => by
  subst z
  rcases he with r | r
  ·exact hx b n r
  ·rw [n] at r; cases r
 have hm : ∀ b u, H b = some u -> ¬ Mut (some u) -> b ≠ x := fun b u q nm z => by subst z; rw [q] at mu; exact nm mu
 refine ⟨fun b u q n _ _ => k b u (hb b n) q, fun b u q n _ _ => ⟨u.slots, k b u (hb b n) q⟩, fun b u q n _ => by rw [zaw (hx b n)]; exact n, fun b u q _ => ?_,
  fun b xs q => by rw [zaw (hm b _ q fun z => z)]; exact q, fun b u xs q => by rw [zaw (hm b _ q fun z => z)]; exact q, fun b ps q => ⟨#[], by rw [zaw (hm b _ q fun z => z), q]; simp⟩⟩
 by_cases hbe : b = e
 ·subst hbe; exact heo
 ·exact ⟨u, k b u hbe q⟩
end
def trk (h : Heap) (H : Hp) : List Addr := (List.range h.objs.size).filter fun a => (H a).isSome
def znX (h : Heap) (H : Hp) : Heap := PySem.W.hideAll h (trk h H)
theorem zmg (h : Heap) (H : Hp) : (znX h H).objs.size = h.objs.size := PySem.W.hideAll_size _ _
theorem znW {h : Heap} {H : Hp} {b : Addr} {o : Obj} (e : h.get? b = some o) (n : H b = none) : (znX h H).get? b = some o :=
 PySem.W.hideAll_get _ e fun hm => by
  have q : (H b).isSome = true := (List.mem_filter.mp hm).2
  rw [n] at q; simp at q
theorem zpJ {h : Heap} {H : Hp} {b : Addr} {o : Obj} (e : (znX h H).get? b = some o) : h.get? b = some o /\ H b = none := by
 have e' : h.get? b = some o := PySem.W.of_hideAll (trk h H) e
 refine ⟨e', ?_⟩
 cases q : H b with
 | none => rfl
 | some x =>
  have hm : b ∈ trk h H := List.mem_filter.mpr ⟨List.mem_range.mpr (qr e'), by simp [q]⟩
  have z : (znX h H).get? b = none := PySem.W.hideAll_none (trk h H) hm
  rw [z] at e; cases e
def zqE (g h : Heap) (L : Addr) : List (Addr × Obj) := (List.range h.objs.size).filterMap fun a => if a = L \/ (g.get? a).isSome = true then none else (h.get? a).map fun o => (a, o)
def zcY (g h : Heap) (L d : Addr) : List (Addr × Obj) := (zqE g h L).filter fun p => decide (p.1 ≠ d)
end L2
namespace L2
open PySem PySem.Spec PyProof.Rows
structure Mod (K : PySem.W.Frag) (mg : Str -> Option Value) (base : Heap) : Prop where
 kin : K.In base
 glob : base.Ns mainGlobals mg
 blt : ∃ mb, base.Ns builtinsNs mb /\ ∀ x : Str, x ≠ "__name__" -> mb x = bootBuiltins x
 nolimit : base.NoLimit
structure Cx where
 prog : Program
 w : World
 K : PySem.W.Frag
 mg : Str -> Option Value
 base : Heap
 A : Around
 N : List Str
 s₀ : Shared
 H₀ : Hp
 env : Env
 outer : List Env
 stack : List Env
 ex : List Addr
 fn : Str -> Bool
 calm : Bool
 pn : List (Addr × Obj)
 xe : Value -> Shared -> Prop
def frs (l : List Env) : List Addr := l.filterMap (·.frame)
abbrev Cx.fs (X : Cx) : List Addr := frs X.outer
def Vis (sc : Scope) (x : Str) : Prop := sc.names.lookup x = some .local \/ sc.names.lookup x = some .cell \/ sc.names.lookup x = some .free
def Loc (sc : Scope) (x : Str) : Prop := sc.names.lookup x = some .local \/ sc.names.lookup x = some .cell
def zud (env : Env) (h : Heap) (m : Str -> Option Value) (x : Str) (u : Value) : Prop :=
 (env.kindOf x = some .local /\ m x = some u) \/ ((env.kindOf x = some .cell \/ env.kindOf x = some .free) /\ ∃ c, env.cells.lookup x = some c /\ h.IsCell c (some u))
structure Cx.Ok (X : Cx) : Prop where
 mod : Mod X.K X.mg X.base
 kind : X.env.scope.kind = .function
 glob : X.env.globals = mainGlobals
 blt : X.env.builtins = builtinsNs
 above : X.s₀.heap.objs.size <= X.env.locals
 inj : ∀ x y c, X.env.cells.lookup x = some c -> X.env.cells.lookup y = some c -> x = y
 has : ∀ x, (X.env.kindOf x = some .cell \/ X.env.kindOf x = some .free) -> ∃ c, X.env.cells.lookup x = some c
 cab : ∀ x c, X.fn x = true -> X.env.cells.lookup x = some c -> X.s₀.heap.objs.size <= c
 hd : X.calm = true -> X.A.handled = none
 frames : X.A.frames = some X.stack
 stk : X.stack = X.outer \/ (X.stack = X.env :: X.outer /\ X.env.frame = some X.env.locals)
 exf : ∀ b ∈ X.ex, b ≠ X.env.locals /\ ∀ x c, X.env.cells.lookup x = some c -> c ≠ b
 bs : ∀ b o, X.base.get? b = some o -> X.s₀.heap.get? b = some o /\ X.H₀ b = none
 bsz : X.base.objs.size <= X.s₀.heap.objs.size
 noex : ∀ b o, X.base.get? b = some o -> b ∉ X.ex
 exfs : ∀ b ∈ X.ex, b ∉ X.fs
 funs : X.s₀.heap.FunFrames X.base X.outer
 frf : ∀ b ∈ X.fs, X.H₀ b = none
structure Inv (X : Cx) (pins : List (Addr × Obj)) (σ : List (Option V)) (H : Hp) (s : Shared) : Prop where
 ok : X.Ok
 os : s.os = X.s₀.os
 bare : AllBare s.gens
 base : Un X.fs X.ex X.H₀ H X.s₀.heap s.heap
 loc : ∃ m, s.heap.Ns X.env.locals m /\ ∀ (i : Nat) (x : Str) (v : V), X.N[i]? = some x -> σ[i]? = some (some v) -> Vis X.env.scope x -> ∃ u, zco v u /\ zud X.env s.heap m x u
 cell : ∀ x c, X.env.cells.lookup x = some c -> ∃ v, s.heap.IsCell c v
 free : H X.env.locals = none
 freeC : ∀ x c, X.env.cells.lookup x = some c -> H c = none
 pin : ∀ p ∈ X.pn ++ pins, s.heap.get? p.1 = some p.2 /\ H p.1 = none /\ p.1 ≠ X.env.locals /\ p.1 ∉ X.fs /\ ∀ v, p.2.data ≠ .cell v
 hok : HOk X.prog X.w H s.heap
 len : σ.length = X.N.length
section
variable {X : Cx} {pins : List (Addr × Obj)} {σ : List (Option V)} {H H' : Hp} {s : Shared} {h' : Heap}
theorem Cx.Ok.nofr (ok : X.Ok) {b : Addr} {o : Obj} (e : X.base.get? b = some o) : b ∉ X.fs := fun hb => by
 have := (ok.funs.mem hb).1
 rw [e] at this; cases this
theorem Inv.bs (I : Inv X pins σ H s) : ∀ b o, X.base.get? b = some o -> s.heap.get? b = some o /\ H b = none := fun b o e =>
 ⟨I.base.keep b o (I.ok.bs b o e).1 (I.ok.bs b o e).2 (I.ok.nofr e) (I.ok.noex b o e), I.base.free b o (I.ok.bs b o e).1 (I.ok.bs b o e).2 (I.ok.noex b o e)⟩
theorem Inv.bk (I : Inv X pins σ H s) : ∀ b o, X.base.get? b = some o -> s.heap.get? b = some o := fun b o e => (I.bs b o e).1
theorem Inv.mod (I : Inv X pins σ H s) : Mod X.K X.mg X.base := I.ok.mod
theorem Inv.kIn (I : Inv X pins σ H s) : X.K.In s.heap := I.ok.mod.kin.keeps I.bk
theorem Inv.lt (I : Inv X pins σ H s) : X.env.locals < s.heap.objs.size := let ⟨_, hn, _⟩ := I.loc; hn.lt
theorem Inv.sz (I : Inv X pins σ H s) : X.s₀.heap.objs.size <= s.heap.objs.size := Nat.le_trans I.ok.above (Nat.le_of_lt I.lt)
theorem Inv.nofs (I : Inv X pins σ H s) {a : Addr} (h : s.heap.objs.size <= a) : a ∉ X.fs := fun hb => by
 obtain ⟨_, o, ho, _⟩ := I.ok.funs.mem hb
 exact absurd (Nat.lt_of_lt_of_le (qr ho) (Nat.le_trans I.sz h)) (Nat.lt_irrefl _)
theorem Inv.cne (I : Inv X pins σ H s) : ∀ x c, X.env.cells.lookup x = some c -> c ≠ X.env.locals := fun x c e z => by
 obtain ⟨v, o, ho, hd⟩ := I.cell x c e
 obtain ⟨m, ⟨o', es, ep, ho', hd', _⟩, _⟩ := I.loc
 rw [z, ho'] at ho; cases ho; rw [hd'] at hd; cases hd
theorem Inv.funs (I : Inv X pins σ H s) : s.heap.FunFrames X.base X.outer := by
 have all : ∀ (l : List Env), (∀ b ∈ frs l, b ∈ X.fs) -> X.s₀.heap.FunFrames X.base l -> s.heap.FunFrames X.base l := by
  intro l
  induction l with
  | nil => intro _ _; trivial
  | cons env r ih =>
   intro hs hl
   obtain ⟨hk, ⟨L, o, hf, hn, ho, hd⟩, hr⟩ := hl
   have hL : L ∈ X.fs := hs L (by unfold frs; rw [List.filterMap_cons, hf]; exact qf)
   obtain ⟨sl, e⟩ := I.base.slot L o ho (I.ok.frf L hL) hL fun z => I.ok.exfs L z hL
   exact ⟨hk, ⟨L, _, hf, hn, e, hd⟩, ih (fun b hb => hs b (by unfold frs; rw [List.filterMap_cons, hf]; exact qg _ hb)) hr⟩
 exact all X.outer (fun _ hb => hb) I.ok.funs
theorem Inv.stack (I : Inv X pins σ H s) : s.heap.FunFrames X.base X.stack := by
 rcases I.ok.stk with e | ⟨e, hf⟩
 ·rw [e]; exact I.funs
 ·rw [e]
  obtain ⟨m, hn, _⟩ := I.loc
  refine .cons (by rw [I.ok.kind]; decide) hf hn ?_ I.funs
  exact Heap.get?_none_of_le (Nat.le_trans I.ok.bsz I.ok.above)
theorem Inv.stkSub (I : Inv X pins σ H s) : ∀ b ∈ frs X.stack, b ∈ X.env.locals :: X.fs := fun b hb => by
 rcases I.ok.stk with e | ⟨e, hf⟩
 ·rw [e] at hb; exact qg _ hb
 ·rw [e] at hb
  unfold frs at hb
  rw [List.filterMap_cons, hf] at hb
  exact hb
theorem Inv.stkFree (I : Inv X pins σ H s) : ∀ b ∈ frs X.stack, H b = none := fun b hb => by
 rcases List.mem_cons.mp (I.stkSub b hb) with e | hb
 ·rw [e]; exact I.free
 ·obtain ⟨_, o, ho, _⟩ := I.ok.funs.mem hb
  exact I.base.free b o ho (I.ok.frf b hb) fun z => I.ok.exfs b z hb
theorem Inv.step {g' : Array GenState} {t' : Nat} {d' : Drawn} {ch : List Addr} (I : Inv X pins σ H s)
  (hch : ∀ b ∈ ch, (b ∈ X.ex \/ X.s₀.heap.objs.size <= b) /\ b ≠ X.env.locals /\ (∀ x c, X.env.cells.lookup x = some c -> c ≠ b) /\ ∀ p ∈ X.pn ++ pins, p.1 ≠ b)
  (keep : ∀ b o, b ≠ X.env.locals -> b ∉ X.fs -> b ∉ ch -> s.heap.get? b = some o -> H b = none -> h'.get? b = some o)
  (slot : ∀ b o, b ≠ X.env.locals -> b ∈ X.fs -> b ∉ ch -> s.heap.get? b = some o -> H b = none -> ∃ sl, h'.get? b = some { o with slots := sl }) (free : ∀ b o, b ∉ ch -> s.heap.get? b = some o -> H b = none -> H' b = none)
  (there : ∀ b o, b ∉ ch -> s.heap.get? b = some o -> ∃ o', h'.get? b = some o')
  (tups : ∀ b xs, H b = some (.tup xs) -> H' b = some (.tup xs)) (frzs : ∀ b o u, H b = some (.frz o u) -> H' b = some (.frz o u)) (tbls : ∀ b ps, H b = some (.tbl ps) -> ∃ more, H' b = some (.tbl (ps ++ more)))
  (ns : ∀ m, s.heap.Ns X.env.locals m -> h'.Ns X.env.locals m) (hok : HOk X.prog X.w H' h') (hg : AllBare g') :
  Inv X pins σ H' { s with heap := h', gens := g', drawn := d', toks := t' } := by
 have neL : ∀ b o, X.s₀.heap.get? b = some o -> b ≠ X.env.locals := fun b o e => Nat.ne_of_lt (Nat.lt_of_lt_of_le (qr e) I.ok.above)
 have neC : ∀ b o, X.s₀.heap.get? b = some o -> b ∉ X.ex -> b ∉ ch := fun b o e hx hb => by
  rcases (hch b hb).1 with z | z
  ·exact hx z
  ·exact absurd (Nat.lt_of_lt_of_le (qr e) z) (Nat.lt_irrefl _)
 have cellK : ∀ x c, X.env.cells.lookup x = some c -> ∀ v, s.heap.IsCell c v -> h'.IsCell c v := fun x c e v ⟨o, ho, hd⟩ => by
  have nch : c ∉ ch := fun z => (hch c z).2.2.1 x c e rfl
  by_cases hc : c ∈ X.fs
  ·obtain ⟨sl, q⟩ := slot c o (I.cne x c e) hc nch ho (I.freeC x c e)
   exact ⟨_, q, hd⟩
  ·exact ⟨o, keep c o (I.cne x c e) hc nch ho (I.freeC x c e), hd⟩
 refine ⟨I.ok, I.os, hg, ⟨fun b o e n hb hx => ?_, fun b o e n hb hx => ?_, fun b o e n hx => ?_, fun b o e hx => ?_, fun b xs e => tups b xs (I.base.tups b xs e), fun b o xs e => frzs b o xs (I.base.frzs b o xs e), fun b ps e => ?_⟩, ?_, fun x c e => ?_, ?_, fun x c e => ?_, fun p hp => ?_, hok, I.len⟩
 ·exact keep b o (neL b o e) hb (neC b o e hx) (I.base.keep b o e n hb hx) (I.base.free b o e n hx)
 ·obtain ⟨sl, e1⟩ := I.base.slot b o e n hb hx
  obtain ⟨sl', e2⟩ := slot b _ (neL b o e) hb (neC b o e hx) e1 (I.base.free b o e n hx)
  exact ⟨sl', e2⟩
 ·obtain ⟨o', e1⟩ := I.base.there b o e hx
  exact free b o' (neC b o e hx) e1 (I.base.free b o e n hx)
 ·obtain ⟨o', e1⟩ := I.base.there b o e hx
  exact there b o' (neC b o e hx) e1
 ·obtain ⟨m1, e1⟩ := I.base.tbls b ps e
  obtain ⟨m2, e2⟩ := tbls b _ e1
  exact ⟨m1 ++ m2, by rw [e2, Array.append_assoc]⟩
 ·obtain ⟨m, hn, hl⟩ := I.loc
  refine ⟨m, ns m hn, fun i x v e1 e2 e3 => ?_⟩
  obtain ⟨u, r, l⟩ := hl i x v e1 e2 e3
  refine ⟨u, r, ?_⟩
  rcases l with l | ⟨k, c, e, z⟩
  ·exact .inl l
  ·exact .inr ⟨k, c, e, cellK x c e _ z⟩
 ·obtain ⟨v, z⟩ := I.cell x c e
  exact ⟨v, cellK x c e v z⟩
 ·obtain ⟨m, ⟨o, _, _, ho, _⟩, _⟩ := I.loc
  exact free _ o (fun z => (hch _ z).2.1 rfl) ho I.free
 ·obtain ⟨v, o, ho, hd⟩ := I.cell x c e
  exact free c o (fun z => (hch c z).2.2.1 x c e rfl) ho (I.freeC x c e)
 ·obtain ⟨e, n, ne, nf, d⟩ := I.pin p hp
  have nch : p.1 ∉ ch := fun z => (hch p.1 z).2.2.2 p hp rfl
  exact ⟨keep p.1 p.2 ne nf nch e n, free p.1 p.2 nch e n, ne, nf, d⟩
theorem Inv.un {t' : Nat} (I : Inv X pins σ H s) (u : Un X.fs [] H H' s.heap h') (hok : HOk X.prog X.w H' h') : Inv X pins σ H' { s with heap := h', toks := t' } := by
 obtain ⟨m, ⟨o, es, ep, ho, r⟩, _⟩ := id I.loc
 obtain ⟨sl, hL⟩ := u.any ho I.free (by simp)
 exact I.step (g' := s.gens) (d' := s.drawn) (ch := []) (fun _ z => nomatch z) (fun b o _ hb _ e n => u.keep b o e n hb (by simp)) (fun b o _ hb _ e n => u.slot b o e n hb (by simp)) (fun b o _ e n => u.free b o e n (by simp)) (fun b o _ e => u.there b o e (by simp)) u.tups u.frzs u.tbls (fun m' hm => by
  obtain ⟨o', es', ep', ho', r'⟩ := hm
  rw [ho] at ho'; cases ho'
  exact ⟨_, es', ep', hL, r'⟩) hok I.bare
theorem Inv.call {g' : Array GenState} {t' : Nat} {d' : Drawn} {ch : List Addr} (I : Inv X pins σ H s) (u : Un (frs X.stack) ch H H' s.heap h') (hok : HOk X.prog X.w H' h') (hg : AllBare g')
  (hch : ∀ b ∈ ch, (b ∈ X.ex \/ X.s₀.heap.objs.size <= b) /\ b ≠ X.env.locals /\ (∀ x c, X.env.cells.lookup x = some c -> c ≠ b) /\ ∀ p ∈ X.pn ++ pins, p.1 ≠ b) :
  Inv X pins σ H' { s with heap := h', gens := g', drawn := d', toks := t' } := by
 obtain ⟨m, ⟨o, es, ep, ho, r⟩, _⟩ := id I.loc
 obtain ⟨sl, hL⟩ := u.any ho I.free fun z => (hch _ z).2.1 rfl
 exact I.step (ch := ch) hch (fun b o hL hb hc e n => u.keep b o e n (fun z => (List.mem_cons.mp (I.stkSub b z)).elim hL hb) hc) (fun b o _ _ hc e n => u.any e n hc) (fun b o hc e n => u.free b o e n hc) (fun b o hc e => u.there b o e hc) u.tups u.frzs u.tbls (fun m' hm => by
  obtain ⟨o', es', ep', ho', r'⟩ := hm
  rw [ho] at ho'; cases ho'
  exact ⟨_, es', ep', hL, r'⟩) hok hg
theorem Inv.turned {t' : Nat} {it : Addr} (I : Inv X pins σ H s) (k : ∀ b o, b ≠ it -> s.heap.get? b = some o -> h'.get? b = some o) (hn : H it = none) (hL : it ≠ X.env.locals)
  (h1 : it ∈ X.ex \/ X.s₀.heap.objs.size <= it) (h2 : ∀ x c, X.env.cells.lookup x = some c -> c ≠ it) (h3 : ∀ p ∈ X.pn ++ pins, p.1 ≠ it) : Inv X pins σ H { s with heap := h', toks := t' } := by
 have nit : ∀ b u, H b = some u -> b ≠ it := fun b u e z => by rw [z, hn] at e; cases e
 refine I.step (g' := s.gens) (d' := s.drawn) (ch := [it]) (fun b hb => ?_) (fun b o _ _ hc e _ => k b o (fun z => hc (by simp [z])) e) (fun b o _ _ hc e _ => ⟨o.slots, k b o (fun z => hc (by simp [z])) e⟩) (fun _ _ _ _ n => n)
  (fun b o hc e => ⟨o, k b o (fun z => hc (by simp [z])) e⟩) (fun _ _ e => e) (fun _ _ _ e => e) (fun b ps e => ⟨#[], by rw [e]; simp⟩) (fun m hm => ?_) (fun b u e => ?_) I.bare
 ·have e : b = it := by simpa using hb
  subst e
  exact ⟨h1, hL, h2, h3⟩
 ·obtain ⟨o, es, ep, ho, r⟩ := hm
  exact ⟨o, es, ep, k _ o (Ne.symm hL) ho, r⟩
 ·refine (I.hok b u e).stay (fun c v hc q => k c v ?_ q) (fun _ q => q) fun _ _ q => q
  rcases hc with z | z
  ·rw [z]; exact nit b u e
  ·exact nit c _ z
theorem Inv.tok (I : Inv X pins σ H s) (t : Nat) : Inv X pins σ H { s with toks := t } := I.un (h' := s.heap) (t' := t) Un.refl I.hok
theorem Inv.kept {t' : Nat} (I : Inv X pins σ H s) (k : ∀ b u, s.heap.get? b = some u -> h'.get? b = some u) : Inv X pins σ H { s with heap := h', toks := t' } := I.un (Un.kept k) (I.hok.kept k)
theorem Inv.laid {a : Addr} {o : HO} {t' : Nat} (I : Inv X pins σ H s) (k : ∀ b u, s.heap.get? b = some u -> h'.get? b = some u) (hp : s.heap.objs.size <= a) (new : zcw X.prog X.w (upd H a o) h' a o) :
  Inv X pins σ (upd H a o) { s with heap := h', toks := t' } := I.un (Un.laid k hp (I.hok.fresh hp)) (I.hok.laid k hp new)
theorem Inv.write {x e : Addr} {o : HO} {t' : Nat} (I : Inv X pins σ H s) (mu : Mut (H x)) (he : e = x \/ H e = some (.own x)) (k : ∀ b u, b ≠ e -> s.heap.get? b = some u -> h'.get? b = some u) (heo : ∃ u, h'.get? e = some u)
  (new : zcw X.prog X.w (upd H x o) h' x o) : Inv X pins σ (upd H x o) { s with heap := h', toks := t' } := I.un (Un.write mu he k heo) (I.hok.write mu he k heo new)
theorem Inv.pins_of {pins' : List (Addr × Obj)} (I : Inv X pins σ H s) (h : ∀ p ∈ pins', s.heap.get? p.1 = some p.2 /\ H p.1 = none /\ p.1 ≠ X.env.locals /\ p.1 ∉ X.fs /\ ∀ v, p.2.data ≠ .cell v) : Inv X pins' σ H s :=
 ⟨I.ok, I.os, I.bare, I.base, I.loc, I.cell, I.free, I.freeC, fun p hp => (List.mem_append.mp hp).elim (fun z => I.pin p (List.mem_append_left _ z)) (h p), I.hok, I.len⟩
theorem zkh {N : List Str} (hN : N.Nodup) {i j : Nat} {x : Str} (a : N[i]? = some x) (b : N[j]? = some x) : i = j := by
 obtain ⟨h1, e1⟩ := List.getElem?_eq_some_iff.mp a
 obtain ⟨h2, e2⟩ := List.getElem?_eq_some_iff.mp b
 exact (List.getElem_inj hN).mp (e1.trans e2.symm)
theorem zis {M : Model} {A : Around} {E : Value -> Shared -> Prop} {i : Nat} {x : Str} {v : V} {u : Value} {Q : Unit -> Shared -> Prop} (I : Inv X pins σ H s) (hN : X.N.Nodup) (hi : X.N[i]? = some x) (hx : Loc X.env.scope x) (r : zco v u)
  (h : ∀ s', Inv X pins (σ.set i (some v)) H s' -> (∃ a, Heap.SameBut a s.heap s'.heap /\ (a = X.env.locals \/ X.env.cells.lookup x = some a)) -> Q () s') (hf : X.fn x = true \/ X.env.scope.names.lookup x = some .local := by first | exact .inl rfl | exact .inr rfl | assumption) : wpAny M A (storeName X.env x u) Q E s := by
 obtain ⟨m, hn, hl⟩ := id I.loc
 have hcls : (X.env.scope.kind == .class || (X.env.scope.kind == .module && X.env.locals != X.env.globals)) = false := by rw [I.ok.kind]; rfl
 have hiσ : i < σ.length := by rw [I.len]; exact (List.getElem?_eq_some_iff.mp hi).1
 have cne := I.cne
 have tracked : ∀ {a : Addr} {h' : Heap}, (∃ o, s.heap.get? a = some o /\ H a = none) -> Heap.SameBut a s.heap h' -> HOk X.prog X.w H h' := fun {a h'} ha hs b ob e => by
  obtain ⟨_, _, hfree⟩ := ha
  refine (I.hok b ob e).stay (fun c w' hc q => (hs.2 c ?_).trans q) (fun _ q => q) fun _ _ q => q
  rintro rfl
  rcases hc with rfl | hc
  ·rw [hfree] at e; cases e
  ·rw [hfree] at hc; cases hc
 rcases hx with hk | hk
 ·refine wpAny_storeName_local hk hn (fun h' hn' hs => ?_) hcls
  obtain ⟨oL, _, _, hoL, _⟩ := id hn
  refine h _ ⟨I.ok, I.os, I.bare, ⟨fun b o e n hb hx => ?_, fun b o e n hb hx => ?_, I.base.free, fun b o e hx => ?_, I.base.tups, I.base.frzs, I.base.tbls⟩, ⟨_, hn', fun j y v' e1 e2 e3 => ?_⟩, fun y c e => ?_, I.free, I.freeC, fun p hp => ?_, tracked ⟨oL, hoL, I.free⟩ hs, by simpa using I.len⟩ ⟨_, hs, .inl rfl⟩
  ·exact (hs.2 b (Nat.ne_of_lt (Nat.lt_of_lt_of_le (qr e) I.ok.above))).trans (I.base.keep b o e n hb hx)
  ·obtain ⟨sl, e1⟩ := I.base.slot b o e n hb hx
   exact ⟨sl, (hs.2 b (Nat.ne_of_lt (Nat.lt_of_lt_of_le (qr e) I.ok.above))).trans e1⟩
  ·obtain ⟨o', e1⟩ := I.base.there b o e hx
   exact ⟨o', (hs.2 b (Nat.ne_of_lt (Nat.lt_of_lt_of_le (qr e) I.ok.above))).trans e1⟩
  ·by_cases hj : j = i
   ·subst hj
    rw [hi] at e1; cases e1
    rw [List.getElem?_set_self hiσ] at e2
    cases e2
    exact ⟨u, r, .inl ⟨hk, by simp⟩⟩
   ·rw [List.getElem?_set_ne (Ne.symm hj)] at e2
    obtain ⟨u', r', q⟩ := hl j y v' e1 e2 e3
    refine ⟨u', r', ?_⟩
    rcases q with ⟨k, e⟩ | ⟨k, c, e, z⟩
    ·refine .inl ⟨k, ?_⟩
     have : y ≠ x := fun e => hj (zkh hN e1 (e ▸ hi))
     simp [this, e]
    ·exact .inr ⟨k, c, e, z.sameBut hs (cne y c e)⟩
  ·obtain ⟨w', z⟩ := I.cell y c e
   exact ⟨w', z.sameBut hs (cne y c e)⟩
  ·obtain ⟨e, n, ne, nf, d⟩ := I.pin p hp
   exact ⟨(hs.2 p.1 ne).trans e, n, ne, nf, d⟩
 ·have hfn : X.fn x = true := by
   rcases hf with z | z
   ·exact z
   ·rw [z] at hk; cases hk
  obtain ⟨c, hc⟩ := I.ok.has x (.inl hk)
  obtain ⟨w', z⟩ := I.cell x c hc
  refine wpAny_storeName_cell I.ok.kind hk hc z (fun h' hc' hs => ?_)
  obtain ⟨oc, hoc, hocd⟩ := id z
  refine h { s with heap := h' } ⟨I.ok, I.os, I.bare, ⟨fun b o e n hb hx => ?_, fun b o e n hb hx => ?_, I.base.free, fun b o e hx => ?_, I.base.tups, I.base.frzs, I.base.tbls⟩, ⟨m, hn.sameBut hs (Ne.symm (cne x c hc)), fun j y v' e1 e2 e3 => ?_⟩, fun y c' e => ?_, I.free, I.freeC, fun p hp => ?_, tracked ⟨oc, hoc, I.freeC x c hc⟩ hs, by simpa using I.len⟩ ⟨c, hs, .inr hc⟩
  ·exact (hs.2 b (Nat.ne_of_lt (Nat.lt_of_lt_of_le (qr e) (I.ok.cab x c hfn hc)))).trans (I.base.keep b o e n hb hx)
  ·obtain ⟨sl, e1⟩ := I.base.slot b o e n hb hx
   exact ⟨sl, (hs.2 b (Nat.ne_of_lt (Nat.lt_of_lt_of_le (qr e) (I.ok.cab x c hfn hc)))).trans e1⟩
  ·obtain ⟨o', e1⟩ := I.base.there b o e hx
   exact ⟨o', (hs.2 b (Nat.ne_of_lt (Nat.lt_of_lt_of_le (qr e) (I.ok.cab x c hfn hc)))).trans e1⟩
  ·by_cases hj : j = i
   ·subst hj
    rw [hi] at e1; cases e1
    rw [List.getElem?_set_self hiσ] at e2
    cases e2
    exact ⟨u, r, .inr ⟨.inl hk, c, hc, hc'⟩⟩
   ·rw [List.getElem?_set_ne (Ne.symm hj)] at e2
    obtain ⟨u', r', q⟩ := hl j y v' e1 e2 e3
    refine ⟨u', r', ?_⟩
    rcases q with q | ⟨k, c', e, z'⟩
    ·exact .inl q
    ·refine .inr ⟨k, c', e, z'.sameBut hs ?_⟩
     rintro rfl
     exact hj (zkh hN e1 (I.ok.inj _ _ _ e hc ▸ hi))
  ·by_cases hcc : c' = c
   ·subst hcc; exact ⟨_, hc'⟩
   ·obtain ⟨w2, z2⟩ := I.cell y c' e
    exact ⟨w2, z2.sameBut hs hcc⟩
  ·obtain ⟨e, n, ne, nf, d⟩ := I.pin p hp
   refine ⟨(hs.2 p.1 ?_).trans e, n, ne, nf, d⟩
   intro q
   rw [q, hoc] at e
   have q' : oc = p.2 := Option.some.inj e
   exact d w' (by rw [← q']; exact hocd)
theorem zj7 {M : Model} {A : Around} {E : Value -> Shared -> Prop} {i : Nat} {x : Str} {v : V} {u : Value} {Q : Unit -> Shared -> Prop} (I : Inv X pins σ H s) (hN : X.N.Nodup) (hi : X.N[i]? = some x) (hx : Loc X.env.scope x) (r : zco v u)
  (h : ∀ s', Inv X pins (σ.set i (some v)) H s' -> Q () s') (hf : X.fn x = true \/ X.env.scope.names.lookup x = some .local := by first | exact .inl rfl | exact .inr rfl | assumption) : wpAny M A (storeName X.env x u) Q E s :=
 zis I hN hi hx r (fun s' I' _ => h s' I') hf
theorem Inv.call' {s' : Shared} {ch : List Addr} (I : Inv X pins σ H s) (ho : s'.os = s.os) (u : Un (frs X.stack) ch H H' s.heap s'.heap) (hok : HOk X.prog X.w H' s'.heap) (hg : AllBare s'.gens)
  (hch : ∀ b ∈ ch, (b ∈ X.ex \/ X.s₀.heap.objs.size <= b) /\ b ≠ X.env.locals /\ (∀ x c, X.env.cells.lookup x = some c -> c ≠ b) /\ ∀ p ∈ X.pn ++ pins, p.1 ≠ b) : Inv X pins σ H' s' := by
 obtain ⟨h', g', d', t', o'⟩ := s'
 have e : o' = s.os := ho
 subst e
 exact I.call (g' := g') (t' := t') (d' := d') u hok hg hch
end
abbrev XK := Value -> Option Addr -> Hp -> Prop
abbrev St := List (Option V)
abbrev VK := V -> Hp -> Prop
abbrev TE := St -> Hp -> VK -> Prop
abbrev TT := St -> Hp -> (Bool -> Hp -> Prop) -> Prop
abbrev TA := St -> Hp -> (List V -> Hp -> Prop) -> Prop
structure Ends where
 nx : St -> Hp -> Prop
 rt : VK
 bk : St -> Hp -> Prop := fun _ _ => False
 ct : St -> Hp -> Prop := fun _ _ => False
abbrev TS := Ends -> St -> Hp -> Prop
def EP (X : Cx) (pins : List (Addr × Obj)) (σ : St) (Q : VK) (u : Value) (s' : Shared) : Prop := ∃ v H', Inv X pins σ H' s' /\ zco v u /\ Q v H'
def TP (X : Cx) (pins : List (Addr × Obj)) (σ : St) (Q : Bool -> Hp -> Prop) (b : Bool) (s' : Shared) : Prop := ∃ H', Inv X pins σ H' s' /\ Q b H'
def AP (X : Cx) (pins : List (Addr × Obj)) (σ : St) (Q : List V -> Hp -> Prop) (us : List Value) (s' : Shared) : Prop := ∃ vs H', Inv X pins σ H' s' /\ zbX vs us /\ Q vs H'
def SP (X : Cx) (pins : List (Addr × Obj)) (D : Ends) (f : Flow) (s' : Shared) : Prop :=
 match f with
 | .next => ∃ σ' H', Inv X pins σ' H' s' /\ D.nx σ' H'
 | .brk => ∃ σ' H', Inv X pins σ' H' s' /\ D.bk σ' H'
 | .cont => ∃ σ' H', Inv X pins σ' H' s' /\ D.ct σ' H'
 | .ret u => ∃ v σ' H', Inv X pins σ' H' s' /\ zco v u /\ D.rt v H'
def PE (X : Cx) (e : Expr) (t : TE) : Prop :=
 ∀ (pins : List (Addr × Obj)) (s : Shared) (σ : St) (H : Hp) (Q : VK), Inv X pins σ H s -> t σ H Q -> wpAny (model X.prog X.w) X.A (eval e X.env) (EP X pins σ Q) X.xe s
def PT (X : Cx) (e : Expr) (t : TT) : Prop :=
 ∀ (pins : List (Addr × Obj)) (s : Shared) (σ : St) (H : Hp) (Q : Bool -> Hp -> Prop), Inv X pins σ H s -> t σ H Q -> wpAny (model X.prog X.w) X.A (isTrue e X.env (eval e X.env)) (TP X pins σ Q) X.xe s
def PW (X : Cx) (e : Expr) (t : TT) : Prop :=
 ∀ (whole : Sem Value) (pins : List (Addr × Obj)) (s : Shared) (σ : St) (H : Hp) (Q : Bool -> Hp -> Prop), Inv X pins σ H s -> t σ H Q -> wpAny (model X.prog X.w) X.A (isTrue e X.env whole) (TP X pins σ Q) X.xe s
theorem PW.pt {X : Cx} {e : Expr} {t : TT} (h : PW X e t) : PT X e t := h _
def PA (X : Cx) (es : List Expr) (t : TA) : Prop :=
 ∀ (pos : Pos) (pins : List (Addr × Obj)) (s : Shared) (σ : St) (H : Hp) (Q : List V -> Hp -> Prop), Inv X pins σ H s -> t σ H Q -> wpAny (model X.prog X.w) X.A (spliced (backTo pos (starEach es X.env))) (AP X pins σ Q) X.xe s
def PS (X : Cx) (st : Stmt) (t : TS) : Prop :=
 ∀ (pins : List (Addr × Obj)) (s : Shared) (σ : St) (H : Hp) (D : Ends), Inv X pins σ H s -> t D σ H -> wpAny (model X.prog X.w) X.A (exec st X.env) (SP X pins D) X.xe s
def PSs (X : Cx) (st : List Stmt) (t : TS) : Prop :=
 ∀ (pins : List (Addr × Obj)) (s : Shared) (σ : St) (H : Hp) (D : Ends), Inv X pins σ H s -> t D σ H -> wpAny (model X.prog X.w) X.A (execs st X.env) (SP X pins D) X.xe s
theorem thn {α : Type} {t : Sem α} {Q Q' : α -> Shared -> Prop} {M : Model} {A : Around} {E : Value -> Shared -> Prop} {s : Shared} (h : wpAny M A t Q E s) (hQ : ∀ a s, Q a s -> Q' a s) : wpAny M A t Q' E s := wpAny_mono h hQ fun _ _ x => x
end L2
namespace L2
open PySem PySem.Spec PyProof.Rows
section
variable {X : Cx}
theorem bin {a b : Expr} {ta tb : TE} (ha : PE X a ta) (hb : PE X b tb) {pins : List (Addr × Obj)} {s : Shared} {σ : St} {H : Hp} {R : V -> V -> Hp -> Prop} (I : Inv X pins σ H s) (h : ta σ H fun x H1 => tb σ H1 fun y H2 => R x y H2)
  {α : Type} {Q : α -> Shared -> Prop} {f : Value -> Value -> Sem α}
  (hf : ∀ v u s2 x y H2, Inv X pins σ H2 s2 -> zco x v -> zco y u -> R x y H2 -> wpAny (model X.prog X.w) X.A (f v u) Q X.xe s2) :
  wpAny (model X.prog X.w) X.A (eval a X.env) (fun v s₁ => wpAny (model X.prog X.w) X.A (eval b X.env) (fun u s₂ => wpAny (model X.prog X.w) X.A (f v u) Q X.xe s₂) X.xe s₁) X.xe s := by
 refine thn (ha pins s σ H _ I h) fun v s1 ⟨x, H1, I1, r1, q1⟩ => ?_
 refine thn (hb pins s1 σ H1 _ I1 q1) fun u s2 ⟨y, H2, I2, r2, q2⟩ => ?_
 exact hf v u s2 x y H2 I2 r1 r2 q2
def ztw (i : Nat) : TE := fun σ H Q => ∃ v, σ[i]? = some (some v) /\ Q v H
def tC (v : V) : TE := fun _ H Q => Q v H
theorem zd5 {i : Nat} {x : Str} {pos : Pos} (hN : X.N[i]? = some x) (hv : Vis X.env.scope x) (hd : (x == ("__debug__" : Str)) = false := by decide) (hcd : (x == ("__classdict__" : Str)) = false := by decide) : PE X (.Name x pos) (ztw i) := by
 intro pins s σ H Q I h
 obtain ⟨v, e, h⟩ := h
 obtain ⟨m, hn, hl⟩ := I.loc
 obtain ⟨u, r, l⟩ := hl i x v hN e hv
 have fin : EP X pins σ Q u s := ⟨v, H, I, r, h⟩
 rcases l with ⟨hk, hm⟩ | ⟨hk, c, hc, hcell⟩
 ·exact wpAny_Name (wpAny_loadName_local I.ok.kind hk hn hm fin) hd
 ·rcases hk with hk | hk
  ·exact wpAny_Name (wpAny_loadName_cell I.ok.kind hk hc hcell fin) hd
  ·exact wpAny_Name (wpAny_loadName_free I.ok.kind hk hc hcell fin hcd) hd
theorem zrt {i j pos} : PE X (.Constant (.int i) j pos) (tC (.int i)) := fun _ _ _ H _ I h => wpAny_Constant_int ⟨.int i, H, I.tok _, ⟨_, rfl⟩, h⟩
theorem zsV {b j pos} : PE X (.Constant (.bool b) j pos) (tC (.bl b)) := fun _ _ _ H _ I h => Constant_bool ⟨.bl b, H, I, rfl, h⟩
theorem zrr {j pos} : PE X (.Constant .none j pos) (tC .non) := fun _ _ _ H _ I h => Constant_none ⟨.non, H, I, rfl, h⟩
theorem zro {x j pos} : PE X (.Constant (.str x) j pos) (tC (.str x)) := fun _ _ _ H _ I h => Calls.Constant_str ⟨.str x, H, I.tok _, ⟨_, rfl⟩, h⟩
def Gl (X : Cx) (x : Str) : Prop := X.env.kindOf x = some .globalImplicit
theorem zjF {E : Value -> Shared -> Prop} {pins : List (Addr × Obj)} {s : Shared} {σ : St} {H : Hp} {x : Str} {u : Value} {pos : Pos} {Q : Value -> Shared -> Prop} (I : Inv X pins σ H s) (hg : Gl X x) (hm : X.mg x = some u) (h : Q u s)
  (hd : (x == ("__debug__" : Str)) = false := by decide) : wpAny (model X.prog X.w) X.A (eval (.Name x pos) X.env) Q E s :=
 Calls.Name_function_global I.ok.kind hg (Calls.loadGlobal_global (by rw [I.ok.glob]; exact I.mod.glob.keeps I.bk) hm h) hd
theorem zgg {E : Value -> Shared -> Prop} {pins : List (Addr × Obj)} {s : Shared} {σ : St} {H : Hp} {x : Str} {u : Value} {pos : Pos} {Q : Value -> Shared -> Prop} (I : Inv X pins σ H s) (hg : Gl X x) (hm : X.mg x = none) (hv : bootBuiltins x = some u) (h : Q u s)
  (hn : x ≠ "__name__" := by decide) (hd : (x == ("__debug__" : Str)) = false := by decide) : wpAny (model X.prog X.w) X.A (eval (.Name x pos) X.env) Q E s := by
 obtain ⟨mb, h1, h2⟩ := I.mod.blt
 exact Calls.Name_function_global I.ok.kind hg (Calls.loadGlobal_builtin (by rw [I.ok.glob]; exact I.mod.glob.keeps I.bk) hm (by rw [I.ok.blt]; exact h1.keeps I.bk) ((h2 x hn).trans hv) h) hd
theorem zpz {x : Str} {v : V} {u : Value} {pos : Pos} (hg : Gl X x) (hm : X.mg x = some u) (r : zco v u) (hd : (x == ("__debug__" : Str)) = false := by decide) : PE X (.Name x pos) (tC v) :=
 fun _ _ _ H _ I h => zjF I hg hm ⟨v, H, I, r, h⟩ hd
theorem zpD {x : Str} {v : V} {u : Value} {pos : Pos} (hg : Gl X x) (hm : X.mg x = none) (hv : bootBuiltins x = some u) (r : zco v u) (hn : x ≠ "__name__" := by decide) (hd : (x == ("__debug__" : Str)) = false := by decide) : PE X (.Name x pos) (tC v) :=
 fun _ _ _ H _ I h => zgg I hg hm hv ⟨v, H, I, r, h⟩ hn hd
variable {a b : Expr} {ta tb : TE} {pos : Pos}
def PC (X : Cx) (op : CmpOp) (a b : Expr) (t : TE) : Prop :=
 ∀ (pins : List (Addr × Obj)) (s : Shared) (σ : St) (H : Hp) (Q : VK), Inv X pins σ H s -> t σ H Q ->
  wpAny (model X.prog X.w) X.A (eval a X.env) (fun v s₁ => wpAny (model X.prog X.w) X.A (eval b X.env) (fun u s₂ => wpAny (model X.prog X.w) X.A (compareOp op v u) (EP X pins σ Q) X.xe s₂) X.xe s₁) X.xe s
theorem znF (b : Expr) {op : CmpOp} (h : op ≠ .In) (h2 : op ≠ .NotIn) : behindInMarks op b = false := by
 have e1 : (op == CmpOp.In) = false := by cases op <;> first | rfl | exact absurd rfl h
 have e2 : (op == CmpOp.NotIn) = false := by cases op <;> first | rfl | exact absurd rfl h2
 cases b <;> simp [behindInMarks, e1, e2]
def tB (t : TE) : TT := fun σ H Q => t σ H fun x H1 => ∃ c, x = .bl c /\ Q c H1
theorem ztE {op : CmpOp} {t : TE} (h : PC X op a b t) (h1 : behindInMarks op b = false := by first | exact znF _ (by decide) (by decide) | rfl) : PT X (.Compare a [op] [b] pos) (tB t) := by
 intro pins s σ H Q I hw
 refine wpAny_isTrue_Compare1 (thn (h pins s σ H _ I hw) fun v s1 h1 => thn h1 fun u s2 h2 => thn h2 fun c s3 ⟨x, H1, I1, r1, q1⟩ => ?_) h1
 obtain ⟨d, rfl, q⟩ := q1
 cases r1
 exact wpAny_truthy_bool ⟨H1, I1, q⟩
theorem zrc {e : Expr} {t : TE} (h : PE X e t) (he : ∀ whole, isTrue e X.env whole = (do let v ← whole; standAt e.pos; holding [v] (truthy v)) := by intro _; rfl) : PT X e (tB t) := by
 intro pins s σ H Q I hw
 refine isTrue_plain (thn (h pins s σ H _ I hw) fun v s1 ⟨x, H1, I1, r1, q1⟩ => ?_) (he _)
 obtain ⟨d, rfl, q⟩ := q1
 cases r1
 exact wpAny_truthy_bool ⟨H1, I1, q⟩
variable {tA tB' : TT} {zcY : List Expr}
def ztW (t u : TT) : TT := fun σ H Q => t σ H fun c H1 => if c = true then u σ H1 Q else Q false H1
def tOr (t u : TT) : TT := fun σ H Q => t σ H fun c H1 => if c = true then Q true H1 else u σ H1 Q
def ztR (t : TT) : TT := fun σ H Q => t σ H fun c H1 => Q (!c) H1
theorem zpi (ha : PT X a tA) : PW X (.BoolOp .And [a] pos) tA := by
 intro wh pins s σ H Q I h
 refine isTrue_and (thn (ha pins s σ H Q I h) fun c s1 e => ?_)
 cases c with
 | true => exact isTrue_and_nil e
 | false => exact e
theorem zq9 (ha : PT X a tA) : PW X (.BoolOp .Or [a] pos) tA := by
 intro wh pins s σ H Q I h
 refine isTrue_or (thn (ha pins s σ H Q I h) fun c s1 e => ?_)
 cases c with
 | false => exact isTrue_or_nil e
 | true => exact e
theorem zra (ha : PT X a tA) (hb : PW X (.BoolOp .And (b :: zcY) pos) tB') : PW X (.BoolOp .And (a :: b :: zcY) pos) (ztW tA tB') := by
 intro wh pins s σ H Q I h
 refine isTrue_and (thn (ha pins s σ H _ I h) fun c s1 ⟨H1, I1, q1⟩ => ?_)
 cases c with
 | true => exact hb wh pins s1 σ H1 Q I1 q1
 | false => exact ⟨H1, I1, q1⟩
theorem zsP (ha : PT X a tA) (hb : PW X (.BoolOp .Or (b :: zcY) pos) tB') : PW X (.BoolOp .Or (a :: b :: zcY) pos) (tOr tA tB') := by
 intro wh pins s σ H Q I h
 refine isTrue_or (thn (ha pins s σ H _ I h) fun c s1 ⟨H1, I1, q1⟩ => ?_)
 cases c with
 | true => exact ⟨H1, I1, q1⟩
 | false => exact hb wh pins s1 σ H1 Q I1 q1
theorem zrd (ha : PT X a tA) : PT X (.UnaryOp .Not a pos) (ztR tA) := by
 intro pins s σ H Q I h
 exact isTrue_not (ha pins s σ H (fun c H1 => Q (!c) H1) I h)
def zsL (ta tb : TE) : TE := fun σ H Q => ta σ H fun x H1 => ∃ c, x = .bl c /\ if c = true then tb σ H1 Q else Q (.bl false) H1
def zsD (ta : TE) : TE := fun σ H Q => ta σ H fun x H1 => ∃ c, x = .bl c /\ Q (.bl (!c)) H1
theorem zrp {op} {t : TE} (h : PE X a t) : PE X (.BoolOp op [a] pos) t := fun pins s σ H Q I hw => BoolOp_one (h pins s σ H Q I hw)
theorem zru (ha : PE X a ta) (hb : PE X (.BoolOp .And (b :: zcY) pos) tb) : PE X (.BoolOp .And (a :: b :: zcY) pos) (zsL ta tb) := by
 intro pins s σ H Q I h
 refine BoolOp_and (thn (ha pins s σ H _ I h) fun v s1 ⟨x, H1, I1, r1, q1⟩ => ?_)
 obtain ⟨c, rfl, q1⟩ := q1
 cases r1
 refine wpAny_truthy_bool ?_
 cases c with
 | true => exact hb pins s1 σ H1 Q I1 q1
 | false => exact ⟨.bl false, H1, I1, rfl, q1⟩
theorem zrq (ha : PE X a ta) : PE X (.UnaryOp .Not a pos) (zsD ta) := by
 intro pins s σ H Q I h
 refine UnaryOp_ (thn (ha pins s σ H _ I h) fun v s1 ⟨x, H1, I1, r1, q1⟩ => ?_)
 obtain ⟨c, rfl, q1⟩ := q1
 cases r1
 exact not_of (wpAny_truthy_bool ⟨.bl (!c), H1, I1, rfl, q1⟩)
end
end L2
namespace L2
open PySem PySem.Spec PyProof.Rows
def SqL (K : PySem.W.Frag) (H : Hp) (a : Addr) (xs : List V) : Prop :=
 Rd H a (.lst xs) \/
  ∃ (o : Obj) (its : Array Value) (n : Nat), K.lookup a = some o /\ o.cls = .type "list" /\ o.dict = none /\ o.data = .seq its n /\ its.size <= sizeLine /\ zbX xs its.toList
def SqT (K : PySem.W.Frag) (H : Hp) (a : Addr) (xs : List V) : Prop :=
 Rd H a (.tup xs) \/
  ∃ (o : Obj) (its : Array Value) (n : Nat), K.lookup a = some o /\ o.cls = .type "tuple" /\ o.data = .seq its n /\ its.size <= sizeLine /\ zbX xs its.toList
def zt9 : Value -> Option V
 | .none => some .non
 | .bool b => some (.bl b)
 | .int i _ => some (.int i)
 | .str x _ => some (.str x)
 | .bytes b _ => some (.byt b)
 | .float b _ => some (.flt b)
 | .ref a => some (.ref a)
 | .type n => some (.ty n)
 | _ => none
theorem zco.abs {x : V} {u : Value} (r : zco x u) : zt9 u = some x := by
 cases x with
 | non => cases r; rfl
 | bl _ => cases r; rfl
 | int _ => obtain ⟨t, rfl⟩ := r; rfl
 | str _ => obtain ⟨t, rfl⟩ := r; rfl
 | byt _ => obtain ⟨t, rfl⟩ := r; rfl
 | flt _ => obtain ⟨t, rfl⟩ := r; rfl
 | ref _ => cases r; rfl
 | ty _ => cases r; rfl
theorem zco.inj {x y : V} {u : Value} (r : zco x u) (q : zco y u) : x = y := Option.some.inj (r.abs.symm.trans q.abs)
theorem zbX.inj : ∀ {xs ys : List V} {us : List Value}, zbX xs us -> zbX ys us -> xs = ys
 | _, _, _, .nil, .nil => rfl
 | _, _, _, .cons r t, .cons r' t' => by rw [r.inj r', zbX.inj t t']
section
variable {X : Cx} {pins : List (Addr × Obj)} {σ : St} {H : Hp} {s : Shared} {a : Addr} {xs ys : List V}
theorem Inv.list (I : Inv X pins σ H s) (h : SqL X.K H a xs) : ∃ its : List Value, zbX xs its /\ PlainL s.heap a its.toArray /\ xs.length <= sizeLine := by
 rcases h with h | ⟨o, its, n, hk, hc, hd, hs, hz, r⟩
 ·obtain ⟨z, its, n, r, e⟩ := h.ok I.hok
  exact ⟨its, r, ⟨_, n, e, rfl, rfl, rfl⟩, z⟩
 ·refine ⟨its.toList, r, ⟨o, n, I.kIn a o hk, hc, hd, by simpa using hs⟩, ?_⟩
  have e := r.length
  simp only [Array.length_toList] at e
  omega
theorem Inv.tuple (I : Inv X pins σ H s) (h : SqT X.K H a xs) : ∃ its : List Value, zbX xs its /\ IsTup s.heap a its.toArray /\ xs.length <= sizeLine := by
 rcases h with h | ⟨o, its, n, hk, hc, hs, hz, r⟩
 ·obtain ⟨z, its, r, p⟩ := h.ok I.hok
  exact ⟨its, r, p, z⟩
 ·refine ⟨its.toList, r, ⟨o, I.kIn a o hk, hc, n, by simpa using hs⟩, ?_⟩
  have e := r.length
  simp only [Array.length_toList] at e
  omega
theorem Inv.list_inj (I : Inv X pins σ H s) (h : SqL X.K H a xs) (h' : SqL X.K H a ys) : xs = ys := by
 obtain ⟨its, r, ⟨o, n, e, _, _, d⟩, _⟩ := I.list h
 obtain ⟨its', r', ⟨o', n', e', _, _, d'⟩, _⟩ := I.list h'
 rw [e] at e'; cases e'
 rw [d] at d'
 injection d' with d1 _
 have : its = its' := by simpa using congrArg Array.toList d1
 subst this
 exact r.inj r'
theorem Inv.tuple_inj (I : Inv X pins σ H s) (h : SqT X.K H a xs) (h' : SqT X.K H a ys) : xs = ys := by
 obtain ⟨its, r, ⟨o, e, _, n, d⟩, _⟩ := I.tuple h
 obtain ⟨its', r', ⟨o', e', _, n', d'⟩, _⟩ := I.tuple h'
 rw [e] at e'; cases e'
 rw [d] at d'
 injection d' with d1 _
 have : its = its' := by simpa using congrArg Array.toList d1
 subst this
 exact r.inj r'
end
abbrev Cx.wish (X : Cx) (E : Value -> Shared -> Prop) : Cx := { X with xe := E }
abbrev Cx.nox (X : Cx) : Cx := X.wish fun _ _ => False
theorem Cx.Ok.wish {X : Cx} (ok : X.Ok) (E : Value -> Shared -> Prop) : (X.wish E).Ok :=
 ⟨ok.mod, ok.kind, ok.glob, ok.blt, ok.above, ok.inj, ok.has, ok.cab, ok.hd, ok.frames, ok.stk, ok.exf, ok.bs, ok.bsz, ok.noex, ok.exfs, ok.funs, ok.frf⟩
theorem Cx.Ok.unwish {X : Cx} {E : Value -> Shared -> Prop} (ok : (X.wish E).Ok) : X.Ok :=
 ⟨ok.mod, ok.kind, ok.glob, ok.blt, ok.above, ok.inj, ok.has, ok.cab, ok.hd, ok.frames, ok.stk, ok.exf, ok.bs, ok.bsz, ok.noex, ok.exfs, ok.funs, ok.frf⟩
section
variable {X : Cx} {pins : List (Addr × Obj)} {σ : St} {H : Hp} {s : Shared} {E : Value -> Shared -> Prop}
theorem Inv.wish (I : Inv X pins σ H s) (E : Value -> Shared -> Prop) : Inv (X.wish E) pins σ H s := ⟨I.ok.wish E, I.os, I.bare, I.base, I.loc, I.cell, I.free, I.freeC, I.pin, I.hok, I.len⟩
theorem Inv.unwish (I : Inv (X.wish E) pins σ H s) : Inv X pins σ H s := ⟨I.ok.unwish, I.os, I.bare, I.base, I.loc, I.cell, I.free, I.freeC, I.pin, I.hok, I.len⟩
theorem SP.unwish {D : Ends} {f : Flow} {s' : Shared} (h : SP (X.wish E) pins D f s') : SP X pins D f s' := by
 cases f with
 | next => obtain ⟨σ', H', I, q⟩ := h; exact ⟨σ', H', I.unwish, q⟩
 | brk => obtain ⟨σ', H', I, q⟩ := h; exact ⟨σ', H', I.unwish, q⟩
 | cont => obtain ⟨σ', H', I, q⟩ := h; exact ⟨σ', H', I.unwish, q⟩
 | ret u => obtain ⟨v, σ', H', I, r, q⟩ := h; exact ⟨v, σ', H', I.unwish, r, q⟩
theorem PSs.nox {st : List Stmt} {t : TS} (h : PSs X.nox st t) : PSs X st t := fun pins s σ H D I hw =>
 wpAny_mono (h pins s σ H D (I.wish _) hw) (fun _ _ q => q.unwish) fun _ _ z => False.elim z
end
section
variable {X : Cx} {st : Stmt} {zcY : List Stmt} {t u : TS} {e : Expr} {te : TE} {pos : Pos}
def zsE : TS := fun D σ H => D.nx σ H
def ztP (t u : TS) : TS := fun D σ H => t { D with nx := u D } σ H
theorem zpo : PSs X [] zsE := fun _ _ σ H _ I h => wpAny_execs_nil ⟨σ, H, I, h⟩
theorem zns (h1 : PS X st t) (h2 : PSs X zcY u) : PSs X (st :: zcY) (ztP t u) := by
 intro pins s σ H D I h
 refine wpAny_execs_cons (thn (h1 pins s σ H { D with nx := u D } I h) fun f s1 q => ?_)
 cases f with
 | next =>
  obtain ⟨σ', H', I', q⟩ := q
  exact h2 pins s1 σ' H' D I' q
 | ret v => exact q
 | brk => exact q
 | cont => exact q
theorem zpn (h1 : PS X st t) : PSs X [st] t := by
 intro pins s σ H D I h
 refine wpAny_execs_cons (thn (h1 pins s σ H D I h) fun f s1 q => ?_)
 cases f with
 | next => exact wpAny_execs_nil q
 | ret v => exact q
 | brk => exact q
 | cont => exact q
theorem Inv.quiet {pins : List (Addr × Obj)} {σ : St} {H : Hp} {s : Shared} (I : Inv X pins σ H s) : interactive X.env = false := by simp [interactive, I.ok.kind]
def zsH (te : TE) : TS := fun D σ H => te σ H fun _ H1 => D.nx σ H1
theorem zly (he : PE X e te) (hs : swapsWith e none pos.line X.env = pure false := by rfl) : PS X (.Expr e pos) (zsH te) := by
 intro pins s σ H D I h
 exact wpAny_Expr_any (thn (he pins s σ H _ I h) fun v s1 ⟨x, H1, I1, r1, q1⟩ => ⟨σ, H1, I1, q1⟩) I.quiet hs
def ztQ (te : TE) : TS := fun D σ H => te σ H D.rt
theorem zov (he : PE X e te) : PS X (.Return (some e) pos) (ztQ te) := by
 intro pins s σ H D I h
 exact wpAny_Return_some (thn (he pins s σ H _ I h) fun v s1 ⟨x, H1, I1, r1, q1⟩ => ⟨x, σ, H1, I1, r1, q1⟩)
def ztT (c : TT) (t u : TS) : TS := fun D σ H => c σ H fun b H1 => if b = true then t D σ H1 else u D σ H1
theorem zsQ {c : Expr} {a b : List Stmt} {tc : TT} (hc : PT X c tc) (ha : PSs X a t) (hb : PSs X b u) : PS X (.If c a b pos) (ztT tc t u) := by
 intro pins s σ H D I h
 refine wpAny_If (thn (hc pins s σ H _ I h) fun d s1 ⟨H1, I1, q1⟩ => ?_)
 cases d with
 | true => exact ha pins s1 σ H1 D I1 q1
 | false => exact hb pins s1 σ H1 D I1 q1
end
abbrev TG := V -> St -> Hp -> (St -> Hp -> Prop) -> Prop
abbrev TGs := List V -> St -> Hp -> (St -> Hp -> Prop) -> Prop
def PG (X : Cx) (target : Expr) (t : TG) : Prop :=
 ∀ (pins : List (Addr × Obj)) (s : Shared) (σ : St) (H : Hp) (v : V) (u : Value) (Q : St -> Hp -> Prop), Inv X pins σ H s -> zco v u -> t v σ H Q ->
  wpAny (model X.prog X.w) X.A (assign target X.env u) (fun _ s' => ∃ σ' H', Inv X pins σ' H' s' /\ Q σ' H') X.xe s
def PGs (X : Cx) (ts : List Expr) (t : TGs) : Prop :=
 ∀ (pins : List (Addr × Obj)) (s : Shared) (σ : St) (H : Hp) (vs : List V) (us : List Value) (Q : St -> Hp -> Prop), Inv X pins σ H s -> zbX vs us -> t vs σ H Q ->
  wpAny (model X.prog X.w) X.A (assignInOrder ((assignEach ts X.env).map (·.2)) us) (fun _ s' => ∃ σ' H', Inv X pins σ' H' s' /\ Q σ' H') X.xe s
section
variable {X : Cx} {pos : Pos}
def zmi (i : Nat) : TG := fun v σ H Q => Q (σ.set i (some v)) H
theorem zpv {i : Nat} {x : Str} (hN : X.N.Nodup) (hi : X.N[i]? = some x) (hx : Loc X.env.scope x) (hf : X.fn x = true \/ X.env.scope.names.lookup x = some .local := by first | exact .inl rfl | exact .inr rfl | assumption) : PG X (.Name x pos) (zmi i) := by
 intro pins s σ H v u Q I r h
 exact wpAny_assign_Name (zj7 I hN hi hx r (fun s' I' => ⟨_, H, I', h⟩) hf)
def zt7 : TGs := fun vs σ H Q => vs = [] /\ Q σ H
def ztc (t : TG) (u : TGs) : TGs := fun vs σ H Q => ∃ v r, vs = v :: r /\ t v σ H fun σ' H' => u r σ' H' Q
theorem zpu : PGs X [] zt7 := by
 intro pins s σ H vs us Q I r h
 obtain ⟨e, h⟩ := h
 subst e
 cases r
 exact assignInOrder_nil ⟨σ, H, I, h⟩
theorem znx {e : Expr} {es : List Expr} {t : TG} {u : TGs} (h1 : PG X e t) (h2 : PGs X es u)
  (hs : (assignEach (e :: es) X.env).map (·.2) = assign e X.env :: (assignEach es X.env).map (·.2) := by rfl) : PGs X (e :: es) (ztc t u) := by
 intro pins s σ H vs us Q I r h
 obtain ⟨v, vr, e1, h⟩ := h
 subst e1
 cases r with
 | cons r rr =>
  rw [hs]
  refine assignInOrder_cons (thn (h1 pins s σ H _ _ _ I r h) fun _ s1 ⟨σ1, H1, I1, q1⟩ => ?_)
  exact h2 pins s1 σ1 H1 _ _ Q I1 rr q1
def zt6 (K : PySem.W.Frag) (n : Nat) (t : TGs) : TG := fun v σ H Q => ∃ a xs, v = .ref a /\ SqT K H a xs /\ xs.length = n /\ t xs σ H Q
theorem zrm {es : List Expr} {k : Nat} {t : TGs} {n : Nat} (hc : X.calm = true) (h : PGs X es t)
  (hn : (assignEach es X.env).length = n := by rfl) (hst : (assignEach es X.env).findIdx? (·.1) = none := by rfl) : PG X (.Tuple es k pos) (zt6 X.K n t) := by
 intro pins s σ H v u Q I r hw
 obtain ⟨a, xs, e1, hq, hl, hw⟩ := hw
 subst e1
 cases r
 obtain ⟨its, rv, ht, hz⟩ := I.tuple hq
 refine assign_Tuple_tuple (I.ok.hd hc) ht (by simp [hn, ← hl, rv.length]) hst fun h' hx => ?_
 have I1 : Inv X pins σ H { s with heap := h' } := I.kept (t' := s.toks) fun b o e => hx b o (Nat.ne_of_lt (qr e)) e
 exact h pins _ σ H xs _ Q I1 (by simpa using rv) hw
def zsu (te : TE) (g : TG) : TS := fun D σ H => te σ H fun x H1 => g x σ H1 D.nx
theorem zlx {i : Nat} {x : Str} {e : Expr} {te : TE} {pos' : Pos} (hN : X.N.Nodup) (hi : X.N[i]? = some x) (hx : Loc X.env.scope x) (he : PE X e te) (hs : swapsWith e (some (.Name x pos')) pos.line X.env = pure false := by rfl) (hf : X.fn x = true \/ X.env.scope.names.lookup x = some .local := by first | exact .inl rfl | exact .inr rfl | assumption) :
  PS X (.Assign [.Name x pos'] e pos) (zsu te (zmi i)) := by
 intro pins s σ H D I h
 refine wpAny_Assign_Name (thn (he pins s σ H _ I h) fun v s1 ⟨y, H1, I1, r1, q1⟩ => ?_) hs
 exact zj7 I1 hN hi hx r1 (fun s2 I2 => ⟨_, H1, I2, q1⟩) hf
end
section
variable {X : Cx} {pos : Pos}
end
structure It where
 go : Nat -> Hp -> Prop
 yld : Nat -> Hp -> V -> Hp -> Prop
 stop : Nat -> Hp -> Prop
def zlb (X : Cx) (pins : List (Addr × Obj)) (H : Hp) (b : Addr) : Prop :=
 H b = none /\ b ≠ X.env.locals /\ b ∉ X.fs /\ (b ∈ X.ex \/ X.s₀.heap.objs.size <= b) /\ (∀ x c, X.env.cells.lookup x = some c -> c ≠ b) /\ ∀ p ∈ X.pn ++ pins, p.1 ≠ b
theorem Inv.fpOk {X : Cx} {pins : List (Addr × Obj)} {σ : St} {H H' : Hp} {s : Shared} {b : Addr} (I : Inv X pins σ H s) (hb : s.heap.objs.size <= b) (hn : H' b = none) : zlb X pins H' b := by
 refine ⟨hn, Nat.ne_of_gt (Nat.lt_of_lt_of_le I.lt hb), I.nofs hb, .inr (Nat.le_trans I.sz hb), fun x c e z => ?_, fun p hp z => ?_⟩
 ·obtain ⟨v, q⟩ := I.cell x c e
  exact absurd (Nat.lt_of_lt_of_le q.lt (by rw [z]; exact hb)) (Nat.lt_irrefl _)
 ·exact absurd (Nat.lt_of_lt_of_le (qr (I.pin p hp).1) (by rw [z]; exact hb)) (Nat.lt_irrefl _)
structure Turn (P : Program) (w : World) (K : PySem.W.Frag) (tg : Expr) (J : It) (fp : List Addr) (it : Addr) (tn : Nat -> Heap -> Prop) : Prop where
 mem : it ∈ fp
 obj : ∀ i h, tn i h -> ∀ b ∈ fp, ∃ o, h.get? b = some o /\ ∀ v, o.data ≠ .cell v
 keep : ∀ i h h', tn i h -> (∀ b ∈ fp, ∀ o, h.get? b = some o -> h'.get? b = some o) -> tn i h'
 item : ∀ (X : Cx), X.prog = P -> X.w = w -> X.K = K -> X.calm = true -> ∀ (i : Nat) (pins : List (Addr × Obj)) (s : Shared) (σ : St) (H : Hp) (E : Value -> Shared -> Prop), Inv X pins σ H s -> (∀ b ∈ fp, zlb X pins H b) -> tn i s.heap -> J.go i H ->
  wpAny (model P w) X.A (pyNext (.ref it)) (fun r s1 => ∃ u, r = some u /\
   wpAny (model P w) X.A (letOwnedTupleGo tg (.ref it) u) (fun _ s2 => ∃ x H', Inv X pins σ H' s2 /\ zco x u /\ J.yld i H x H' /\ tn (i + 1) s2.heap /\ ∀ b ∈ fp, H' b = none) E s1) E s
 done : ∀ (X : Cx), X.prog = P -> X.w = w -> X.K = K -> X.calm = true -> ∀ (i : Nat) (pins : List (Addr × Obj)) (s : Shared) (σ : St) (H : Hp) (E : Value -> Shared -> Prop), Inv X pins σ H s -> (∀ b ∈ fp, zlb X pins H b) -> tn i s.heap -> J.stop i H ->
  wpAny (model P w) X.A (pyNext (.ref it)) (fun r s1 => r = none /\ Inv X pins σ H s1) E s
 self : ∀ (A : Around) (i : Nat) (s : Shared) (Q : Value -> Shared -> Prop) (E : Value -> Shared -> Prop), tn i s.heap -> Q (.ref it) s -> wpAny (model P w) A (pyIter (.ref it)) Q E s
abbrev TI := St -> Hp -> (It -> Hp -> Prop) -> Prop
def PIE (X : Cx) (pins : List (Addr × Obj)) (σ : St) (tg : Expr) (R : It -> Hp -> Prop) (itv : Value) (s2 : Shared) : Prop :=
 ∃ (it : Addr) (fp : List Addr) (tn : Nat -> Heap -> Prop) (J : It) (H' : Hp), itv = .ref it /\ Inv X pins σ H' s2 /\ Turn X.prog X.w X.K tg J fp it tn /\ tn 0 s2.heap /\ (∀ b ∈ fp, zlb X pins H' b) /\ R J H'
def PI (X : Cx) (tg iter : Expr) (wi : TI) : Prop :=
 ∀ (pins : List (Addr × Obj)) (s : Shared) (σ : St) (H : Hp) (R : It -> Hp -> Prop), Inv X pins σ H s -> wi σ H R ->
  wpAny (model X.prog X.w) X.A (eval iter X.env) (fun v s1 => wpAny (model X.prog X.w) X.A (pyIter v) (PIE X pins σ tg R) X.xe s1) X.xe s
theorem zqa {M : Model} {A : Around} {E : Value -> Shared -> Prop} {s : Shared} {tg : Expr} {it : Addr} {u : Value} {o : Obj} {n : String} {vs : Array Value} {Q : Unit -> Shared -> Prop} (ho : s.heap.get? it = some o) (hc : o.cls = .type n) (hd : o.data = .fields vs)
  (hn : ["enumerate", "zip", "dict_itemiterator", "dict_reverseitemiterator", "odict_iterator", "itertools.zip_longest", "itertools.pairwise"].contains n = false) (hQ : Q () s) : wpAny M A (letOwnedTupleGo tg (.ref it) u) Q E s := by
 unfold letOwnedTupleGo
 cases tg <;> first
  | exact wpAny_pure hQ
  | (cases u <;> first
    | exact wpAny_pure hQ
    | (refine qu (wpAny_load ho ?_); rw [hc, hd]; show wpAny M A (if (["enumerate", "zip", "dict_itemiterator", "dict_reverseitemiterator", "odict_iterator", "itertools.zip_longest", "itertools.pairwise"].contains n && vs[0]? == some (rawInt _)) = true then _ else _) Q E s; rw [if_neg (by intro h; rw [hn, Bool.false_and] at h; cases h)]; exact wpAny_pure hQ))
def Itl (K : PySem.W.Frag) (a : Addr) : It :=
 ⟨fun i H => ∃ xs x, SqL K H a xs /\ xs[i]? = some x, fun i H x H' => H' = H /\ ∀ xs, SqL K H a xs -> xs[i]? = some x, fun i H => ∃ xs, SqL K H a xs /\ xs.length <= i⟩
def Itt (K : PySem.W.Frag) (a : Addr) : It :=
 ⟨fun i H => ∃ xs x, SqT K H a xs /\ xs[i]? = some x, fun i H x H' => H' = H /\ ∀ xs, SqT K H a xs -> xs[i]? = some x, fun i H => ∃ xs, SqT K H a xs /\ xs.length <= i⟩
def Itr (lo : Int) (n : Nat) : It := ⟨fun i _ => i < n, fun i H x H' => H' = H /\ x = .int (lo + i), fun i _ => n <= i⟩
theorem zlh {P : Program} {w : World} {K : PySem.W.Frag} {tg : Expr} (a it : Addr) : Turn P w K tg (Itl K a) [it] it (fun i h => h.IsListIter it a i) where
 mem := by simp
 obj := fun i h st b hb => by
  have e : b = it := by simpa using hb
  subst e
  obtain ⟨o, e, c, d⟩ := st
  exact ⟨o, e, fun v z => by rw [d] at z; cases z⟩
 keep := fun i h h' st k => st.at fun o e => k it (by simp) o e
 item := by
  intro X hP hw hK hc i pins s σ H E I hf st hg
  subst hP hw hK
  obtain ⟨xs, x, hq, hx⟩ := hg
  obtain ⟨its, rv, p, hz⟩ := I.list hq
  obtain ⟨u, hu, ru⟩ := rv.get hx
  obtain ⟨f0, f1, f2, f3, f4, f5⟩ := hf it (by simp)
  refine wpAny_pyNext_list_item st p.isList (x := u) (by simpa using hu) fun h' st' sb => ?_
  have I1 : Inv X pins σ H { s with heap := h' } := I.turned (t' := s.toks) (fun b o hb e => (sb.2 b hb).trans e) f0 f1 f3 f4 f5
  obtain ⟨o, e, c, d⟩ := id st'
  exact ⟨u, rfl, zqa (s := { s with heap := h' }) e c d (by decide) ⟨x, H, I1, ru, ⟨rfl, fun ys hy => by rw [I.list_inj hy hq]; exact hx⟩, st', fun b hb => (hf b hb).1⟩⟩
 done := by
  intro X hP hw hK hc i pins s σ H E I hf st hg
  subst hP hw hK
  obtain ⟨xs, hq, hx⟩ := hg
  obtain ⟨its, rv, p, hz⟩ := I.list hq
  obtain ⟨f0, f1, f2, f3, f4, f5⟩ := hf it (by simp)
  have hl := rv.length
  exact wpAny_pyNext_list_end (I.ok.hd hc) st p.isList (by simp; omega) fun h' eb => ⟨rfl, I.turned (t' := s.toks) (fun b o hb e => eb b o hb e) f0 f1 f3 f4 f5⟩
 self := fun _ _ _ _ _ st h => wpAny_pyIter_listiter st h
theorem zkI {P : Program} {w : World} {K : PySem.W.Frag} {tg : Expr} (a it : Addr) : Turn P w K tg (Itt K a) [it] it (fun i h => h.IsTupleIter it a i) where
 mem := by simp
 obj := fun i h st b hb => by
  have e : b = it := by simpa using hb
  subst e
  obtain ⟨o, e, c, d⟩ := st
  exact ⟨o, e, fun v z => by rw [d] at z; cases z⟩
 keep := fun i h h' st k => st.at fun o e => k it (by simp) o e
 item := by
  intro X hP hw hK hc i pins s σ H E I hf st hg
  subst hP hw hK
  obtain ⟨xs, x, hq, hx⟩ := hg
  obtain ⟨its, rv, p, hz⟩ := I.tuple hq
  obtain ⟨u, hu, ru⟩ := rv.get hx
  obtain ⟨f0, f1, f2, f3, f4, f5⟩ := hf it (by simp)
  refine wpAny_pyNext_tuple_item st (show s.heap.IsTuple a its.toArray from p) (x := u) (by simpa using hu) fun h' st' sb => ?_
  have I1 : Inv X pins σ H { s with heap := h' } := I.turned (t' := s.toks) (fun b o hb e => (sb.2 b hb).trans e) f0 f1 f3 f4 f5
  obtain ⟨o, e, c, d⟩ := id st'
  exact ⟨u, rfl, zqa (s := { s with heap := h' }) e c d (by decide) ⟨x, H, I1, ru, ⟨rfl, fun ys hy => by rw [I.tuple_inj hy hq]; exact hx⟩, st', fun b hb => (hf b hb).1⟩⟩
 done := by
  intro X hP hw hK hc i pins s σ H E I hf st hg
  subst hP hw hK
  obtain ⟨xs, hq, hx⟩ := hg
  obtain ⟨its, rv, p, hz⟩ := I.tuple hq
  obtain ⟨f0, f1, f2, f3, f4, f5⟩ := hf it (by simp)
  have hl := rv.length
  exact wpAny_pyNext_tuple_end (I.ok.hd hc) st (show s.heap.IsTuple a its.toArray from p) (by simp; omega) fun h' eb => ⟨rfl, I.turned (t' := s.toks) (fun b o hb e => eb b o hb e) f0 f1 f3 f4 f5⟩
 self := fun _ _ _ _ _ st h => wpAny_pyIter_tupleiter st h
theorem zkJ {P : Program} {w : World} {K : PySem.W.Frag} {tg : Expr} (it : Addr) (lo : Int) (n : Nat) : Turn P w K tg (Itr lo n) [it] it (fun i h => IsRangeIter h it (lo + (i : Nat) * 1) ((n : Int) - (i : Nat)) 1) where
 mem := by simp
 obj := fun i h st b hb => by
  have e : b = it := by simpa using hb
  subst e
  exact ⟨_, st, fun v z => by
   have z' : Data.fields _ = Data.cell v := z
   cases z'⟩
 keep := fun i h h' st k => k it (by simp) _ st
 item := by
  intro X hP hw hK hc i pins s σ H E I hf st hg
  subst hP hw hK
  obtain ⟨f0, f1, f2, f3, f4, f5⟩ := hf it (by simp)
  have W := Walks.range (prog := X.prog) (w := X.w) (I.ok.hd hc) it lo 1 n
  refine W.item i s _ _ hg st fun v h' tk hv st' kk => ?_
  obtain ⟨t, rfl⟩ := hv
  have I1 : Inv X pins σ H { s with heap := h', toks := tk } := I.turned (fun b o hb e => kk b o (by simpa using hb) e) f0 f1 f3 f4 f5
  refine ⟨_, rfl, zqa (s := { s with heap := h', toks := tk }) (n := "range_iterator") st' rfl rfl (by decide) ⟨.int (lo + i), H, I1, ⟨t, ?_⟩, ⟨rfl, rfl⟩, st', fun b hb => (hf b hb).1⟩⟩
  rw [Int.mul_one]
 done := by
  intro X hP hw hK hc i pins s σ H E I hf st hg
  subst hP hw hK
  obtain ⟨f0, f1, f2, f3, f4, f5⟩ := hf it (by simp)
  exact wpAny_pyNext_range_end (I.ok.hd hc) st (by have : n <= i := hg; omega) fun h' eb => ⟨rfl, I.turned (t' := s.toks) (fun b o hb e => eb b o hb e) f0 f1 f3 f4 f5⟩
 self := fun _ _ _ _ _ st h => wpAny_pyIter_rangeiter st h
end L2
namespace L2
open PySem PySem.Spec PyProof.Rows
section
variable {X : Cx} {tg : Expr}
theorem zka {pins : List (Addr × Obj)} {σ : St} {H : Hp} {s : Shared} {R : It -> Hp -> Prop} {E : Value -> Shared -> Prop} {lo hi : Int} {t u v : Tok} {tk : Nat} (I : Inv X pins σ H s) (h1 : -(2 ^ 62) <= lo) (h2 : lo < 2 ^ 62) (h3 : -(2 ^ 62) <= hi) (h4 : hi < 2 ^ 62)
  (q : R (Itr lo (hi - lo).toNat) H) : wpAny (model X.prog X.w) X.A (pyIter (.ref s.heap.objs.size)) (PIE X pins σ tg R) E { s with heap := s.heap.push { cls := .type "range", data := .fields #[.int lo t, .int hi u, .int 1 v] }, toks := tk } := by
 refine wpAny_pyIter_range (IsRange.new ..) (small_one h1 h2 h3 h4) ?_
 have I1 : Inv X pins σ H { s with heap := s.heap.push { cls := .type "range", data := .fields #[.int lo t, .int hi u, .int 1 v] }, toks := tk } := I.kept fun b o e => qq _ e
 refine ⟨(s.heap.push { cls := .type "range", data := .fields #[.int lo t, .int hi u, .int 1 v] }).objs.size, [(s.heap.push { cls := .type "range", data := .fields #[.int lo t, .int hi u, .int 1 v] }).objs.size], _, _, H, rfl,
  I1.kept (t' := tk) fun b o e => qq _ e, zkJ _ lo (hi - lo).toNat, ?_, fun b hb => ?_, q⟩
 ·have e1 : lo + ((0 : Nat) : Int) * 1 = lo := by simp
  have e2 : (((hi - lo).toNat : Nat) : Int) - ((0 : Nat) : Int) = Builtin.Range.rangeSize lo hi 1 := by rw [rangeSize_one]; split <;> omega
  show IsRangeIter _ _ (lo + ((0 : Nat) : Int) * 1) ((((hi - lo).toNat : Nat) : Int) - ((0 : Nat) : Int)) 1
  rw [e1, e2]
  exact Heap.get?_push_size _ rfl
 ·have e : b = (s.heap.push { cls := .type "range", data := .fields #[.int lo t, .int hi u, .int 1 v] }).objs.size := by simpa using hb
  subst e
  exact I1.fpOk (qt _) (I1.hok.fresh (qt _))
def zs9 (ta : TA) : TI := fun σ H R => ta σ H fun vs H1 => ∃ j : Int, vs = [.int j] /\ -(2 ^ 62) <= j /\ j < 2 ^ 62 /\ R (Itr 0 j.toNat) H1
def zs8 (ta : TA) : TI := fun σ H R => ta σ H fun vs H1 => ∃ i j : Int, vs = [.int i, .int j] /\ (-(2 ^ 62) <= i /\ i < 2 ^ 62 /\ -(2 ^ 62) <= j /\ j < 2 ^ 62) /\ R (Itr i (j - i).toNat) H1
theorem zlD {a : Expr} {ta : TA} {p pos : Pos} (hg : Gl X "range") (hm : X.mg "range" = none) (ha : PA X [a] ta) (hs : starEach [a] X.env = [(false, eval a X.env)] := by rfl) : PI X tg (.Call (.Name "range" p) [a] [] pos) (zs9 ta) := by
 intro pins s σ H R I h
 refine Call_ (zgg I hg hm boot_range (PyProof.Rows.callWith_type1 (thn (ha pos pins s σ H _ I h) fun us s1 ⟨vs, H1, I1, r1, q1⟩ => ?_) hs rfl))
 obtain ⟨j, e, q1, q2, q⟩ := q1
 subst e
 cases r1 with
 | cons r rr =>
  cases rr
  obtain ⟨t, rfl⟩ := r
  exact call_range_1 (zka I1 (by omega) (by omega) q1 q2 (by simpa using q))
theorem zlC {a b : Expr} {ta : TA} {p pos : Pos} (hg : Gl X "range") (hm : X.mg "range" = none) (ha : PA X [a, b] ta) (hs : starEach [a, b] X.env = [(false, eval a X.env), (false, eval b X.env)] := by rfl) (hs2 : starEach [b] X.env = [(false, eval b X.env)] := by rfl) :
  PI X tg (.Call (.Name "range" p) [a, b] [] pos) (zs8 ta) := by
 intro pins s σ H R I h
 refine Call_ (zgg I hg hm boot_range (PyProof.Rows.callWith_type1 (thn (ha pos pins s σ H _ I h) fun us s1 ⟨vs, H1, I1, r1, q1⟩ => ?_) (by rw [hs, hs2]) (by rw [hs2]; rfl)))
 obtain ⟨i, j, e, ⟨q1, q2, q3, q4⟩, q⟩ := q1
 subst e
 cases r1 with
 | cons r rr =>
  cases rr with
  | cons r' rr =>
   cases rr
   obtain ⟨t, rfl⟩ := r
   obtain ⟨t', rfl⟩ := r'
   exact call_range_2 (zka I1 q1 q2 q3 q4 q)
def ztU (wi : TI) (g : TG) (tb : TS) : TS := fun D σ H => wi σ H fun J H1 => ∃ W : Nat -> Nat -> St -> Hp -> Prop, (∃ m, W 0 m σ H1) /\ ∀ i m σ H, W i m σ H ->
 (J.stop i H /\ D.nx σ H) \/ (J.go i H /\ ∃ N : St -> Hp -> Prop, (∀ σ' H', N σ' H' -> ∃ m', m' < m /\ W (i + 1) m' σ' H') /\ ∀ x H', J.yld i H x H' -> g x σ H' fun σ2 H2 => tb { D with nx := N, ct := N, bk := D.nx } σ2 H2)
def ziH (fp : List Addr) (h : Heap) : List (Addr × Obj) := fp.filterMap fun b => (h.get? b).map fun o => (b, o)
theorem zdV {fp : List Addr} {h : Heap} {b : Addr} {o : Obj} (hb : b ∈ fp) (e : h.get? b = some o) : (b, o) ∈ ziH fp h := List.mem_filterMap.mpr ⟨b, hb, by rw [e]; rfl⟩
theorem zlM {fp : List Addr} {h : Heap} {p : Addr × Obj} (hp : p ∈ ziH fp h) : p.1 ∈ fp /\ h.get? p.1 = some p.2 := by
 obtain ⟨b, hb, e⟩ := List.mem_filterMap.mp hp
 cases q : h.get? b with
 | none => rw [q] at e; cases e
 | some o =>
  rw [q] at e
  have e' : (b, o) = p := Option.some.inj e
  subst e'
  exact ⟨hb, q⟩
theorem Inv.pinned {pins : List (Addr × Obj)} {σ : St} {H : Hp} {s : Shared} {fp : List Addr} (I : Inv X pins σ H s) (hf : ∀ b ∈ fp, zlb X pins H b) (ho : ∀ b ∈ fp, ∃ o, s.heap.get? b = some o /\ ∀ v, o.data ≠ .cell v) : Inv X (pins ++ ziH fp s.heap) σ H s :=
 I.pins_of fun p hp => (List.mem_append.mp hp).elim (fun z => I.pin p (List.mem_append_right _ z)) fun z => by
  obtain ⟨hb, e⟩ := zlM z
  obtain ⟨f0, f1, f2, _⟩ := hf p.1 hb
  obtain ⟨o, e', d⟩ := ho p.1 hb
  rw [e] at e'; cases e'
  exact ⟨e, f0, f1, f2, d⟩
theorem Inv.unpinned {pins pl : List (Addr × Obj)} {σ : St} {H : Hp} {s : Shared} (I : Inv X (pins ++ pl) σ H s) : Inv X pins σ H s := I.pins_of fun p hp => I.pin p (List.mem_append_right _ (List.mem_append_left _ hp))
theorem zrg {iter : Expr} {body : List Stmt} {wi : TI} {g : TG} {tb : TS} {pos : Pos} (hp : PassesOwn (model X.prog X.w) X.A X.env X.xe) (hc : X.calm = true) (hi : PI X tg iter wi) (hg : PG X tg g) (hb : PSs X body tb)
  (hs : ∀ x, foldedSetIterable iter X.env x = pure x := by intro _; rfl) : PS X (.For tg iter body [] pos) (ztU wi g tb) := by
 intro pins s σ H D I h
 refine wpAny_For (thn (hi pins s σ H _ I h) fun v s1 h1 => thn h1 fun itv s2 h2 => ?_) hs
 obtain ⟨it, fp, tn, J, H2, e, I2, T, st2, f2, W, ⟨m0, w0⟩, turn⟩ := h2
 subst e
 have stat : ∀ {H' : Hp}, (∀ b ∈ fp, H' b = none) -> ∀ b ∈ fp, zlb X pins H' b := fun hn b hb => ⟨hn b hb, (f2 b hb).2⟩
 refine codeAny_forLoop_any (fun n s' => ∃ i σ' H', Inv X pins σ' H' s' /\ tn i s'.heap /\ (∀ b ∈ fp, H' b = none) /\ W i n σ' H') ?_ m0 ⟨0, σ, H2, I2, st2, fun b hb => (f2 b hb).1, w0⟩
 rintro n s3 ⟨i, σ3, H3, I3, st3, fr3, w3⟩
 rcases turn i n σ3 H3 w3 with ⟨stop, qn⟩ | ⟨go, N, hN, step⟩
 ·refine wpAny_passesOwn hp (thn (T.done X rfl rfl rfl hc i pins s3 σ3 H3 X.xe I3 (stat fr3) st3 stop) fun r s4 ⟨hr, I4⟩ => ?_)
  subst hr
  exact wpAny_execs_nil ⟨σ3, H3, I4, qn⟩
 ·refine wpAny_passesOwn hp (thn (T.item X rfl rfl rfl hc i pins s3 σ3 H3 X.xe I3 (stat fr3) st3 go) fun r s4 ⟨u, hr, h4⟩ => ?_)
  subst hr
  refine wpAny_passesOwn hp (thn h4 fun _ s5 ⟨x, H5, I5, r5, y5, st5, fr5⟩ => ?_)
  have I5' := I5.pinned (stat fr5) (T.obj _ _ st5)
  refine wpAny_passesOwn hp (thn (hg _ s5 σ3 H5 x u _ I5' r5 (step x H5 y5)) fun _ s6 ⟨σ6, H6, I6, q6⟩ => ?_)
  refine wpAny_passesOwn hp (thn (hb _ s6 σ6 H6 _ I6 q6) fun f s7 q7 => ?_)
  have again : ∀ {σ7 : St} {H7 : Hp}, Inv X (pins ++ ziH fp s5.heap) σ7 H7 s7 -> N σ7 H7 -> ∃ m, m < n /\ ∃ i σ' H', Inv X pins σ' H' s7 /\ tn i s7.heap /\ (∀ b ∈ fp, H' b = none) /\ W i m σ' H' := fun {σ7 H7} I7 n7 => by
   obtain ⟨m', hm, w7⟩ := hN σ7 H7 n7
   refine ⟨m', hm, i + 1, σ7, H7, I7.unpinned, T.keep _ _ _ st5 fun b hb o e => (I7.pin (b, o) (List.mem_append_right _ (List.mem_append_right _ (zdV hb e)))).1, fun b hb => ?_, w7⟩
   obtain ⟨o, e, d⟩ := T.obj _ _ st5 b hb
   exact (I7.pin (b, o) (List.mem_append_right _ (List.mem_append_right _ (zdV hb e)))).2.1
  cases f with
  | next => obtain ⟨σ7, H7, I7, n7⟩ := q7; exact again I7 n7
  | cont => obtain ⟨σ7, H7, I7, n7⟩ := q7; exact again I7 n7
  | brk => obtain ⟨σ7, H7, I7, q7⟩ := q7; exact ⟨σ7, H7, I7.unpinned, q7⟩
  | ret v => obtain ⟨x7, σ7, H7, I7, r7, q7⟩ := q7; exact ⟨x7, σ7, H7, I7.unpinned, r7, q7⟩
end
end L2
namespace L2
open PySem PySem.Spec PyProof.Rows
abbrev R2 := V -> V -> Hp -> VK -> Prop
def OpR (X : Cx) (f : Value -> Value -> Sem Value) (r : R2) : Prop :=
 ∀ (pins : List (Addr × Obj)) (s : Shared) (σ : St) (H : Hp) (x y : V) (v u : Value) (Q : VK), Inv X pins σ H s -> zco x v -> zco y u -> r x y H Q ->
  wpAny (model X.prog X.w) X.A (f v u) (EP X pins σ Q) X.xe s
def zez (X : Cx) (f : Value) (r : List V -> Hp -> VK -> Prop) : Prop :=
 ∀ (pins : List (Addr × Obj)) (s : Shared) (σ : St) (H : Hp) (xs : List V) (us : List Value) (Q : VK), Inv X pins σ H s -> zbX xs us -> r xs H Q ->
  wpAny (model X.prog X.w) X.A (call f us) (EP X pins σ Q) X.xe s
def zub (X : Cx) (r : V -> Hp -> (Bool -> Hp -> Prop) -> Prop) : Prop :=
 ∀ (pins : List (Addr × Obj)) (s : Shared) (σ : St) (H : Hp) (x : V) (v : Value) (Q : Bool -> Hp -> Prop), Inv X pins σ H s -> zco x v -> r x H Q ->
  wpAny (model X.prog X.w) X.A (truthy v) (TP X pins σ Q) X.xe s
def tOp (r : R2) (ta tb : TE) : TE := fun σ H Q => ta σ H fun x H1 => tb σ H1 fun y H2 => r x y H2 Q
def rI (C : Int -> Int -> Prop) (g : Int -> Int -> V) : R2 := fun x y H Q => ∃ i j, x = .int i /\ y = .int j /\ C i j /\ Q (g i j) H
def rI0 (g : Int -> Int -> V) : R2 := fun x y H Q => ∃ i j, x = .int i /\ y = .int j /\ Q (g i j) H
section
variable {X : Cx} {a b c : Expr} {ta tb tc : TE} {pos : Pos}
theorem ztm (ha : PE X a ta) (hb : PE X b tb) {pins : List (Addr × Obj)} {s : Shared} {σ : St} {H : Hp} {R : V -> V -> Hp -> Prop} (I : Inv X pins σ H s)
  (h : ta σ H fun x H1 => tb σ H1 fun y H2 => R x y H2) {Q : Value -> Shared -> Prop} {f : Value -> Value -> Sem Value}
  (hf : ∀ v u s2 x y H2, Inv X pins σ H2 s2 -> zco x v -> zco y u -> R x y H2 -> wpAny (model X.prog X.w) X.A (f v u) Q X.xe s2) :
  wpAny (model X.prog X.w) X.A (eval a X.env) (fun v s₁ => wpAny (model X.prog X.w) X.A (eval b X.env) (fun u s₂ => wpAny (model X.prog X.w) X.A (f v u) Q X.xe s₂) X.xe s₁) X.xe s := by
 refine thn (ha pins s σ H _ I h) fun v s1 ⟨x, H1, I1, r1, q1⟩ => ?_
 refine thn (hb pins s1 σ H1 _ I1 q1) fun u s2 ⟨y, H2, I2, r2, q2⟩ => ?_
 exact hf v u s2 x y H2 I2 r1 r2 q2
theorem zsS {op : Operator} {r : R2} (ho : OpR X (binaryOp op) r) (ha : PE X a ta) (hb : PE X b tb) : PE X (.BinOp a op b pos) (tOp r ta tb) := by
 intro pins s σ H Q I h
 exact wpAny_BinOp (ztm ha hb I h fun v u s2 x y H2 I2 rx ry q => ho pins s2 σ H2 x y v u Q I2 rx ry q)
theorem opI {f : Value -> Value -> Sem Value} {C : Int -> Int -> Prop} {g : Int -> Int -> Int}
  (rule : ∀ (i j : Int) (t u : Tok) (s : Shared) (Q : Value -> Shared -> Prop) (E : Value -> Shared -> Prop), C i j -> Q (.int (g i j) s.toks) { s with toks := s.toks + 1 } -> wpAny (model X.prog X.w) X.A (f (.int i t) (.int j u)) Q E s) :
  OpR X f (rI C fun i j => .int (g i j)) := by
 intro pins s σ H x y v u Q I rx ry h
 obtain ⟨i, j, rfl, rfl, hc, q⟩ := h
 obtain ⟨t, rfl⟩ := rx
 obtain ⟨t', rfl⟩ := ry
 exact rule i j t t' s _ _ hc ⟨.int (g i j), H, I.tok _, ⟨_, rfl⟩, q⟩
theorem ztF {f : Value -> Value -> Sem Value} {g : Int -> Int -> Int}
  (rule : ∀ (i j : Int) (t u : Tok) (s : Shared) (Q : Value -> Shared -> Prop) (E : Value -> Shared -> Prop), Q (.int (g i j) s.toks) { s with toks := s.toks + 1 } -> wpAny (model X.prog X.w) X.A (f (.int i t) (.int j u)) Q E s) :
  OpR X f (rI0 fun i j => .int (g i j)) := by
 intro pins s σ H x y v u Q I rx ry h
 obtain ⟨i, j, rfl, rfl, q⟩ := h
 obtain ⟨t, rfl⟩ := rx
 obtain ⟨t', rfl⟩ := ry
 exact rule i j t t' s _ _ ⟨.int (g i j), H, I.tok _, ⟨_, rfl⟩, q⟩
theorem zs3 {f : Value -> Value -> Sem Value} {g : Int -> Int -> Bool}
  (rule : ∀ (i j : Int) (t u : Tok) (s : Shared) (Q : Value -> Shared -> Prop) (E : Value -> Shared -> Prop), Q (.bool (g i j)) s -> wpAny (model X.prog X.w) X.A (f (.int i t) (.int j u)) Q E s) :
  OpR X f (rI0 fun i j => .bl (g i j)) := by
 intro pins s σ H x y v u Q I rx ry h
 obtain ⟨i, j, rfl, rfl, q⟩ := h
 obtain ⟨t, rfl⟩ := rx
 obtain ⟨t', rfl⟩ := ry
 exact rule i j t t' s _ _ ⟨.bl (g i j), H, I, rfl, q⟩
def zuh (i j : Int) : Prop := 0 < j /\ j < 1073741824
def zug (i j : Int) : Prop := 0 <= j /\ j <= 1000000 /\ i.natAbs < 2 ^ 64
def zsA (i j : Int) : Prop := (-(2 ^ 64) < i /\ i < 2 ^ 64) \/ (-(2 ^ 64) < j /\ j < 2 ^ 64)
theorem zsA.ok {i j : Int} (h : zsA i j) : IntMulOk i j := by
 rcases h with ⟨h1, h2⟩ | ⟨h1, h2⟩
 ·exact .of_left (intBits_le_64 h1 h2)
 ·exact .of_right (intBits_le_64 h1 h2)
theorem zrI : OpR X (binaryOp .Add) (rI0 fun i j => .int (i + j)) := ztF fun _ _ _ _ _ _ _ q => add_int q
theorem zry : OpR X (binaryOp .Sub) (rI0 fun i j => .int (i - j)) := ztF fun _ _ _ _ _ _ _ q => sub_int q
theorem zrC : OpR X (binaryOp .Mult) (rI zsA fun i j => .int (i * j)) := opI fun _ _ _ _ _ _ _ hc q => mul_int q hc.ok
theorem zpH : OpR X (binaryOp .FloorDiv) (rI zuh fun i j => .int (i / j)) := opI fun i j _ _ _ _ _ hc q => by
 have h1 : (0 : Int) < j := hc.1
 have h2 : j < 1073741824 := hc.2
 exact floordiv_int (by omega) (by rw [Int.fdiv_eq_ediv_of_nonneg i (by omega)]; exact q) (.inl (PyProof.noPylong_small (by omega)))
theorem zrD : OpR X (binaryOp .Mod) (rI (fun _ j => 0 < j) fun i j => .int (i % j)) := opI fun i j _ _ _ _ _ hc q => by
 have h1 : (0 : Int) < j := hc
 exact mod_int' (by omega) (by rw [Int.fmod_eq_emod_of_nonneg i (by omega)]; exact q)
theorem zrA : OpR X (binaryOp .Pow) (rI zug fun i j => .int (i ^ j.toNat)) := opI fun _ _ _ _ _ _ _ hc q => pow_int_small hc.1 hc.2.1 hc.2.2 q
end
def zsM : V -> V -> Bool
 | .non, .non => true | .non, .int _ => true | .int _, .non => true | .non, .bl _ => true | .bl _, .non => true | .non, .str _ => true | .str _, .non => true
 | .int _, .int _ => true | .bl _, .bl _ => true | .str _, .str _ => true | .byt _, .byt _ => true
 | .int _, .str _ => true | .str _, .int _ => true | .bl _, .str _ => true | .str _, .bl _ => true
 | _, _ => false
def rEq : R2 := fun x y H Q => zsM x y = true /\ Q (.bl (decide (x = y))) H
def rNe : R2 := fun x y H Q => zsM x y = true /\ Q (.bl (!decide (x = y))) H
theorem zmC {i j : Int} : decide (V.int i = V.int j) = (i == j) := by
 rw [Bool.eq_iff_iff]
 simp
theorem zoL {i j : Bool} : decide (V.bl i = V.bl j) = (i == j) := by
 rw [Bool.eq_iff_iff]
 simp
theorem zmB {i j : Str} : decide (V.str i = V.str j) = (i == j) := by
 rw [Bool.eq_iff_iff]
 simp
theorem zmD {i j : Array UInt8} : decide (V.byt i = V.byt j) = (i.toList == j.toList) := by
 rw [Bool.eq_iff_iff]
 cases i
 cases j
 simp
section
variable {X : Cx} {a b c : Expr} {ta tb tc : TE} {pos : Pos}
theorem zbb {pins : List (Addr × Obj)} {σ : St} {H : Hp} {s : Shared} {Q : VK} {k k' : Bool} (I : Inv X pins σ H s) (q : Q (.bl k) H) (e : k = k') : EP X pins σ Q (.bool k') s := by
 subst e
 exact ⟨.bl k, H, I, rfl, q⟩
theorem zs2 : OpR X (compareOp .Eq) rEq := by
 intro pins s σ H x y v u Q I rx ry h
 obtain ⟨hs, q⟩ := h
 cases x with
 | non =>
  cases rx
  cases y with
  | non => cases ry; exact PySem.EqNone.eq_none_none (zbb I q (by simp))
  | bl j => cases ry; exact PySem.EqNone.eq_none_bool (zbb I q (by simp))
  | int j => obtain ⟨t', rfl⟩ := ry; exact PySem.EqNone.eq_none_int (zbb I q (by simp))
  | str j => obtain ⟨t', rfl⟩ := ry; exact PySem.EqNone.eq_none_str (zbb I q (by simp))
  | _ => exact absurd (show false = true from hs) qp
 | bl i =>
  cases rx
  cases y with
  | non => cases ry; exact PySem.EqNone.eq_bool_none (zbb I q (by simp))
  | bl j => cases ry; exact eq_bool (zbb I q zoL)
  | str j => obtain ⟨t', rfl⟩ := ry; exact PySem.EqMixed.eq_bool_str (zbb I q (by simp))
  | _ => exact absurd (show false = true from hs) qp
 | int i =>
  obtain ⟨t, rfl⟩ := rx
  cases y with
  | non => cases ry; exact PySem.EqNone.eq_int_none (zbb I q (by simp))
  | int j => obtain ⟨t', rfl⟩ := ry; exact eq_int (zbb I q zmC)
  | str j => obtain ⟨t', rfl⟩ := ry; exact PySem.EqMixed.eq_int_str (zbb I q (by simp))
  | _ => exact absurd (show false = true from hs) qp
 | str i =>
  obtain ⟨t, rfl⟩ := rx
  cases y with
  | non => cases ry; exact PySem.EqNone.eq_str_none (zbb I q (by simp))
  | bl j => cases ry; exact PySem.EqMixed.eq_str_bool (zbb I q (by simp))
  | int j => obtain ⟨t', rfl⟩ := ry; exact PySem.EqMixed.eq_str_int (zbb I q (by simp))
  | str j => obtain ⟨t', rfl⟩ := ry; exact eq_str (zbb I q zmB)
  | _ => exact absurd (show false = true from hs) qp
 | byt i =>
  obtain ⟨t, rfl⟩ := rx
  cases y with
  | byt j => obtain ⟨t', rfl⟩ := ry; exact PySem.W.eq_bytes (zbb I q zmD)
  | _ => exact absurd (show false = true from hs) qp
 | _ => cases y <;> exact absurd (show false = true from hs) qp
theorem zsY : OpR X (compareOp .NotEq) rNe := by
 intro pins s σ H x y v u Q I rx ry h
 obtain ⟨hs, q⟩ := h
 cases x with
 | non =>
  cases rx
  cases y with
  | non => cases ry; exact PySem.EqNone.ne_none_none (zbb I q (by simp))
  | bl j => cases ry; exact PySem.EqNone.ne_none_bool (zbb I q (by simp))
  | int j => obtain ⟨t', rfl⟩ := ry; exact PySem.EqNone.ne_none_int (zbb I q (by simp))
  | str j => obtain ⟨t', rfl⟩ := ry; exact PySem.EqNone.ne_none_str (zbb I q (by simp))
  | _ => exact absurd (show false = true from hs) qp
 | bl i =>
  cases rx
  cases y with
  | non => cases ry; exact PySem.EqNone.ne_bool_none (zbb I q (by simp))
  | bl j => cases ry; exact ne_bool (zbb I q (congrArg not zoL))
  | str j => obtain ⟨t', rfl⟩ := ry; exact PySem.EqMixed.ne_bool_str (zbb I q (by simp))
  | _ => exact absurd (show false = true from hs) qp
 | int i =>
  obtain ⟨t, rfl⟩ := rx
  cases y with
  | non => cases ry; exact PySem.EqNone.ne_int_none (zbb I q (by simp))
  | int j => obtain ⟨t', rfl⟩ := ry; exact ne_int (zbb I q (congrArg not zmC))
  | str j => obtain ⟨t', rfl⟩ := ry; exact PySem.EqMixed.ne_int_str (zbb I q (by simp))
  | _ => exact absurd (show false = true from hs) qp
 | str i =>
  obtain ⟨t, rfl⟩ := rx
  cases y with
  | non => cases ry; exact PySem.EqNone.ne_str_none (zbb I q (by simp))
  | bl j => cases ry; exact PySem.EqMixed.ne_str_bool (zbb I q (by simp))
  | int j => obtain ⟨t', rfl⟩ := ry; exact PySem.EqMixed.ne_str_int (zbb I q (by simp))
  | str j => obtain ⟨t', rfl⟩ := ry; exact ne_str (zbb I q (congrArg not zmB))
  | _ => exact absurd (show false = true from hs) qp
 | byt i =>
  obtain ⟨t, rfl⟩ := rx
  cases y with
  | byt j => obtain ⟨t', rfl⟩ := ry; exact PySem.W.ne_bytes (zbb I q (congrArg not zmD))
  | _ => exact absurd (show false = true from hs) qp
 | _ => cases y <;> exact absurd (show false = true from hs) qp
theorem zsZ : OpR X (compareOp .Lt) (rI0 fun i j => .bl (decide (i < j))) := zs3 fun _ _ _ _ _ _ _ q => lt_int q
theorem zs0 : OpR X (compareOp .LtE) (rI0 fun i j => .bl (decide (i <= j))) := zs3 fun _ _ _ _ _ _ _ q => le_int q
theorem zs1 : OpR X (compareOp .Gt) (rI0 fun i j => .bl (decide (j < i))) := zs3 fun _ _ _ _ _ _ _ q => gt_int q
theorem zlK : OpR X (compareOp .Lt) (fun x y H Q => ∃ i j, x = .str i /\ y = .str j /\ Q (.bl (decide (i.cps.toList < j.cps.toList))) H) := by
 intro pins s σ H x y v u Q I rx ry h
 obtain ⟨i, j, rfl, rfl, q⟩ := h
 obtain ⟨t, rfl⟩ := rx
 obtain ⟨t', rfl⟩ := ry
 exact lt_str (zbb I q rfl)
theorem zpE : OpR X (compareOp .IsNot) (fun x y H Q => y = .non /\ Q (.bl (!decide (x = .non))) H) := by
 intro pins s σ H x y v u Q I rx ry h
 obtain ⟨rfl, q⟩ := h
 cases ry
 refine isnot_none_gen (zbb I q ?_)
 cases x <;> first
  | (cases rx; rfl)
  | (obtain ⟨t, rfl⟩ := rx; rfl)
theorem OpR.or {f : Value -> Value -> Sem Value} {r r' : R2} (h : OpR X f r) (h' : OpR X f r') : OpR X f (fun x y H Q => r x y H Q \/ r' x y H Q) := by
 intro pins s σ H x y v u Q I rx ry q
 rcases q with q | q
 ·exact h pins s σ H x y v u Q I rx ry q
 ·exact h' pins s σ H x y v u Q I rx ry q
theorem zbI (b : Expr) {op : CmpOp} (h : op ≠ .In := by decide) (h2 : op ≠ .NotIn := by decide) : behindInMarks op b = false := by
 have e1 : (op == CmpOp.In) = false := by cases op <;> first | rfl | exact absurd rfl h
 have e2 : (op == CmpOp.NotIn) = false := by cases op <;> first | rfl | exact absurd rfl h2
 cases b <;> simp [behindInMarks, e1, e2]
theorem zpB {op : CmpOp} {r : R2} (ho : OpR X (compareOp op) r) (ha : PE X a ta) (hb : PE X b tb) (hm : behindInMarks op b = false) : PE X (.Compare a [op] [b] pos) (tOp r ta tb) := by
 intro pins s σ H Q I h
 exact wpAny_Compare1 (ztm ha hb I h fun v u s2 x y H2 I2 rx ry q => ho pins s2 σ H2 x y v u Q I2 rx ry q) hm
def zqV (t : TE) : TT := fun σ H Q => t σ H fun x H' => ∃ k, x = .bl k /\ Q k H'
theorem zpm {op : CmpOp} {r : R2} (ho : OpR X (compareOp op) r) (ha : PE X a ta) (hb : PE X b tb) (hm : behindInMarks op b = false) : PT X (.Compare a [op] [b] pos) (zqV (tOp r ta tb)) := by
 intro pins s σ H Q I h
 refine wpAny_isTrue_Compare1 (thn (ha pins s σ H _ I h) fun v s1 ⟨x, H1, I1, r1, q1⟩ => thn (hb pins s1 σ H1 _ I1 q1) fun u s2 ⟨y, H2, I2, r2, q2⟩ =>
  thn (ho pins s2 σ H2 x y v u _ I2 r1 r2 q2) fun c s3 ⟨z, H3, I3, r3, k, e, q3⟩ => ?_) hm
 subst e
 cases r3
 exact wpAny_truthy_bool ⟨H3, I3, q3⟩
def zll (r r' : R2) (ta tb tc : TE) : TE := fun σ H Q => ta σ H fun x H1 => tb σ H1 fun y H2 => r x y H2 fun z H3 => ∃ k, z = .bl k /\
 (if k = true then tc σ H3 fun w' H4 => r' y w' H4 Q else Q (.bl false) H3)
theorem znC {op op' : CmpOp} {r r' : R2} (ho : OpR X (compareOp op) r) (ho' : OpR X (compareOp op') r') (ha : PE X a ta) (hb : PE X b tb) (hc : PE X c tc)
  (hm : lastMarks [op, op'] [b, c] = false := by with_unfolding_all rfl) : PE X (.Compare a [op, op'] [b, c] pos) (zll r r' ta tb tc) := by
 intro pins s σ H Q I h
 refine Compare_chain (thn (ha pins s σ H _ I h) fun v s1 ⟨x, H1, I1, r1, q1⟩ => chain_link (thn (hb pins s1 σ H1 _ I1 q1) fun u s2 ⟨y, H2, I2, r2, q2⟩ =>
  thn (ho pins s2 σ H2 x y v u _ I2 r1 r2 q2) fun d s3 ⟨z, H3, I3, r3, k, e, q3⟩ => ?_)) hm
 subst e
 cases r3
 refine wpAny_truthy_bool ?_
 cases k with
 | false => exact ite_ff ⟨.bl false, H3, I3, rfl, q3⟩
 | true => exact ite_tt (chain_last (thn (hc pins s3 σ H3 _ I3 q3) fun w' s4 ⟨z', H4, I4, r4, q4⟩ => ho' pins s4 σ H4 y z' u w' Q I4 r2 r4 q4))
theorem znr {op op' : CmpOp} {r r' : R2} (ho : OpR X (compareOp op) r) (ho' : OpR X (compareOp op') r') (ha : PE X a ta) (hb : PE X b tb) (hc : PE X c tc)
  (hm : lastMarks [op, op'] [b, c] = false := by with_unfolding_all rfl) : PT X (.Compare a [op, op'] [b, c] pos) (zqV (zll r r' ta tb tc)) := by
 intro pins s σ H Q I h
 refine isTrue_chain (thn (ha pins s σ H _ I h) fun v s1 ⟨x, H1, I1, r1, q1⟩ => test_link (thn (hb pins s1 σ H1 _ I1 q1) fun u s2 ⟨y, H2, I2, r2, q2⟩ =>
  thn (ho pins s2 σ H2 x y v u _ I2 r1 r2 q2) fun d s3 ⟨z, H3, I3, r3, k, e, q3⟩ => ?_)) hm
 subst e
 cases r3
 refine wpAny_truthy_bool ?_
 cases k with
 | false =>
  obtain ⟨k', e', q'⟩ := q3
  cases e'
  exact ite_ff ⟨H3, I3, q'⟩
 | true =>
  refine ite_tt (test_last (thn (hc pins s3 σ H3 _ I3 q3) fun w' s4 ⟨z', H4, I4, r4, q4⟩ => thn (ho' pins s4 σ H4 y z' u w' _ I4 r2 r4 q4) fun d' s5 ⟨z2, H5, I5, r5, k2, e2, q5⟩ => ?_))
  subst e2
  cases r5
  exact wpAny_truthy_bool ⟨H5, I5, q5⟩
def zua (K : PySem.W.Frag) (x : V) (H : Hp) (k : Bool) : Prop :=
 match x with
 | .non => k = false
 | .bl b => k = b
 | .int i => k = (i != 0)
 | .str y => y.length <= sizeLine /\ k = ((y.length : Int) != 0)
 | .byt y => y.size <= sizeLine /\ k = ((y.size : Int) != 0)
 | .ref p => (∃ xs, SqL K H p xs /\ k = !xs.isEmpty) \/ (∃ xs, SqT K H p xs /\ k = !xs.isEmpty) \/ ∃ kvs, H p = some (.dK kvs) /\ k = !kvs.isEmpty
 | _ => False
theorem zk1 {κ : Type} {kvs : List (κ × V)} {vs : List (κ × Value)} (r : KV kvs vs) : (!vs.isEmpty) = !kvs.isEmpty := by
 cases r <;> rfl
theorem zhm {xs : List V} {its : List Value} (r : zbX xs its) : (!its.toArray.isEmpty) = !xs.isEmpty := by
 cases r <;> simp
theorem ziQ : (sizeLine : Nat) < 2 ^ 63 := by rw [sizeLine_eq]; decide
theorem ztv : zub X (fun x H Q => ∃ k, zua X.K x H k /\ Q k H) := by
 intro pins s σ H x v Q I rx h
 obtain ⟨k, e, q⟩ := h
 have hl := ziQ
 have hs : sizeLine = 16777216 := sizeLine_eq
 cases x with
 | non =>
  cases rx
  have e' : k = false := e
  subst e'
  exact truthy_none ⟨H, I, q⟩
 | bl b =>
  cases rx
  have e' : k = b := e
  subst e'
  exact wpAny_truthy_bool ⟨H, I, q⟩
 | int i =>
  obtain ⟨t, rfl⟩ := rx
  have e' : k = (i != 0) := e
  subst e'
  exact PySem.P.truthy_int ⟨H, I, q⟩
 | str y =>
  obtain ⟨t, rfl⟩ := rx
  obtain ⟨hy, e'⟩ : y.length <= sizeLine /\ k = ((y.length : Int) != 0) := e
  subst e'
  exact PySem.P.truthy_str (by omega) ⟨H, I.tok _, q⟩
 | byt y =>
  obtain ⟨t, rfl⟩ := rx
  obtain ⟨hy, e'⟩ : y.size <= sizeLine /\ k = ((y.size : Int) != 0) := e
  subst e'
  exact PySem.W.truthy_bytes (by omega) ⟨H, I.tok _, q⟩
 | ref p =>
  cases rx
  have e' : (∃ xs, SqL X.K H p xs /\ k = !xs.isEmpty) \/ (∃ xs, SqT X.K H p xs /\ k = !xs.isEmpty) \/ ∃ kvs, H p = some (.dK kvs) /\ k = !kvs.isEmpty := e
  rcases e' with ⟨xs, hx, e'⟩ | ⟨xs, hx, e'⟩ | ⟨kvs, hx, e'⟩
  ·subst e'
   obtain ⟨its, r, pl, hz⟩ := I.list hx
   have hlen := r.length
   exact wpAny_truthy_list pl.isList (by simp only [List.size_toArray]; omega) ⟨H, I.tok _, by rw [zhm r]; exact q⟩
  ·subst e'
   obtain ⟨its, r, pl, hz⟩ := I.tuple hx
   have hlen := r.length
   exact truthy_tuple pl (by simp only [List.size_toArray]; omega) ⟨H, I.tok _, by rw [zhm r]; exact q⟩
  ·subst e'
   obtain ⟨hz, hS, vs, r, m⟩ : kvs.length <= sizeLine /\ (p == sysModules) = false /\ ∃ vs, KV kvs vs /\ s.heap.DictOf (za6 X.prog X.w) p vs := I.hok p _ hx
   have hlen : kvs.length = vs.length := Paired.length r
   exact wpAny_truthy_dict hS m (by omega) ⟨H, I.tok _, by rw [zk1 r]; exact q⟩
 | _ => exact (show False from e).elim
theorem zkR : OpR X (binaryOp .Add) (fun x y H Q => ∃ i j, x = .str i /\ y = .str j /\ i.length + j.length <= sizeLine /\ Q (.str (i ++ j)) H) := by
 intro pins s σ H x y v u Q I rx ry h
 obtain ⟨i, j, rfl, rfl, hz, q⟩ := h
 obtain ⟨t, rfl⟩ := rx
 obtain ⟨t', rfl⟩ := ry
 exact add_str (fun t' tk => ⟨.str (i ++ j), H, I.tok _, ⟨_, rfl⟩, q⟩) hz
theorem zeA {x : V} {us : List Value} (r : zbX [x] us) : ∃ u, us = [u] /\ zco x u := by
 cases r with
 | cons r1 r2 => cases r2; exact ⟨_, rfl, r1⟩
theorem zoV {x y : V} {us : List Value} (r : zbX [x, y] us) : ∃ u w', us = [u, w'] /\ zco x u /\ zco y w' := by
 cases r with
 | cons r1 r2 =>
  cases r2 with
  | cons r3 r4 => cases r4; exact ⟨_, _, rfl, r1, r3⟩
theorem zoh : zez X (.builtin "abs") (fun xs H Q => ∃ i, xs = [.int i] /\ Q (.int (if i < 0 then -i else i)) H) := by
 intro pins s σ H xs us Q I r h
 obtain ⟨i, rfl, q⟩ := h
 obtain ⟨u, rfl, t, rfl⟩ := zeA r
 exact call_abs_int fun u tk => ⟨.int (if i < 0 then -i else i), H, I.tok _, ⟨_, rfl⟩, q⟩
theorem zmO (hc : X.calm = true) : zez X (.builtin "max") (fun xs H Q => ∃ i j, xs = [.int i, .int j] /\ Q (.int (if j > i then j else i)) H) := by
 intro pins s σ H xs us Q I r h
 obtain ⟨i, j, rfl, q⟩ := h
 obtain ⟨u, w', rfl, ⟨t, rfl⟩, ⟨t', rfl⟩⟩ := zoV r
 refine max_two_ints (I.ok.hd hc) fun h' tk k => ⟨_, H, I.kept k, ?_, q⟩
 by_cases hj : j > i
 ·rw [if_pos hj, if_pos hj]; exact ⟨_, rfl⟩
 ·rw [if_neg hj, if_neg hj]; exact ⟨_, rfl⟩
theorem zmM (hc : X.calm = true) : zez X (.builtin "min") (fun xs H Q => ∃ i j, xs = [.int i, .int j] /\ Q (.int (if j < i then j else i)) H) := by
 intro pins s σ H xs us Q I r h
 obtain ⟨i, j, rfl, q⟩ := h
 obtain ⟨u, w', rfl, ⟨t, rfl⟩, ⟨t', rfl⟩⟩ := zoV r
 refine min_two_ints (I.ok.hd hc) fun h' tk k => ⟨_, H, I.kept k, ?_, q⟩
 by_cases hj : j < i
 ·rw [if_pos hj, if_pos hj]; exact ⟨_, rfl⟩
 ·rw [if_neg hj, if_neg hj]; exact ⟨_, rfl⟩
theorem zmP : zez X (.type "int") (fun xs H Q => (∃ i, xs = [.int i] /\ Q (.int i) H) \/ ∃ k, xs = [.bl k] /\ Q (.int (if k then 1 else 0)) H) := by
 intro pins s σ H xs us Q I r h
 rcases h with ⟨i, rfl, q⟩ | ⟨k, rfl, q⟩
 ·obtain ⟨u, rfl, t, rfl⟩ := zeA r
  exact call_int_int ⟨.int i, H, I, ⟨_, rfl⟩, q⟩
 ·obtain ⟨u, rfl, r1⟩ := zeA r
  cases r1
  exact call_int_bool ⟨.int (if k then 1 else 0), H, I.tok _, ⟨_, rfl⟩, q⟩
def zue (K : PySem.W.Frag) (x : V) (H : Hp) (n : Nat) : Prop :=
 match x with
 | .str y => y.length <= sizeLine /\ n = y.length
 | .byt y => y.size <= sizeLine /\ n = y.size
 | .ref p => (∃ xs, SqL K H p xs /\ n = xs.length) \/ ∃ xs, SqT K H p xs /\ n = xs.length
 | _ => False
theorem zog : zez X (.builtin "len") (fun xs H Q => ∃ x n, xs = [x] /\ zue X.K x H n /\ Q (.int n) H) := by
 intro pins s σ H xs us Q I r h
 obtain ⟨x, n, rfl, e, q⟩ := h
 obtain ⟨u, rfl, rx⟩ := zeA r
 have hl := ziQ
 have hs : sizeLine = 16777216 := sizeLine_eq
 cases x with
 | str y =>
  obtain ⟨t, rfl⟩ := rx
  obtain ⟨hy, e'⟩ : y.length <= sizeLine /\ n = y.length := e
  subst e'
  exact len_str (by omega) ⟨.int _, H, I.tok _, ⟨_, rfl⟩, q⟩
 | byt y =>
  obtain ⟨t, rfl⟩ := rx
  obtain ⟨hy, e'⟩ : y.size <= sizeLine /\ n = y.size := e
  subst e'
  exact PySem.W.len_bytes (by omega) ⟨.int _, H, I.tok _, ⟨_, rfl⟩, q⟩
 | ref p =>
  cases rx
  have e' : (∃ xs, SqL X.K H p xs /\ n = xs.length) \/ ∃ xs, SqT X.K H p xs /\ n = xs.length := e
  rcases e' with ⟨xs, hx, e'⟩ | ⟨xs, hx, e'⟩
  ·subst e'
   obtain ⟨its, r', pl, hz⟩ := I.list hx
   have hlen := r'.length
   exact Calls.call_len_list pl.isList (by simp only [List.size_toArray]; omega) ⟨.int xs.length, H, I.tok _, ⟨_, by simp only [List.size_toArray]; rw [hlen]⟩, q⟩
  ·subst e'
   obtain ⟨its, r', pl, hz⟩ := I.tuple hx
   have hlen := r'.length
   exact len_tuple pl (by simp only [List.size_toArray]; omega) ⟨.int xs.length, H, I.tok _, ⟨_, by simp only [List.size_toArray]; rw [hlen]⟩, q⟩
 | _ => exact (show False from e).elim
end
end L2
namespace L2
open PySem PySem.Spec PyProof.Rows
structure ObjM (h : Heap) (x dx C : Addr) (mA : Str -> Option Value) : Prop where
 obj : h.get? x = some (PySem.W.instObj C dx)
 ns : h.Ns1 dx mA
 ne : dx ≠ x
theorem zlZ {h : Heap} {dx : Addr} {mA : Str -> Option Value} (n : h.Ns1 dx mA) : ∃ od, h.get? dx = some od /\ ∀ name, PySem.W.lookIn name od = some (mA name) := by
 obtain ⟨o, es, ep, ho, hd, hk, _, hm⟩ := n
 refine ⟨o, ho, fun name => ?_⟩
 have e := hm name
 unfold nsFind findBy at e
 rw [← Array.find?_toList] at e
 unfold PySem.W.lookIn
 rw [hd]
 dsimp only
 split
 ·rename_i y q
  rw [q] at e
  exact congrArg some e
 ·rename_i q
  rw [q] at e
  have a : es.toList.any (·.refKey) = false := by
   rw [List.any_eq_false]
   intro y hy
   obtain ⟨z, t, hkey⟩ := hk y (Array.mem_toList_iff.mp hy)
   simp [DictEntry.refKey, hkey]
  have a' : ¬ es.toList.any (·.refKey) = true := by rw [a]; exact qp
  rw [if_neg a']
  exact congrArg some e
theorem ObjM.look {h : Heap} {x dx C : Addr} {mA : Str -> Option Value} (I : ObjM h x dx C mA) : ∃ od, PySem.W.InstAt h x (PySem.W.instObj C dx) C (some od) /\ ∀ name, PySem.W.lookIn name od = some (mA name) :=
 let ⟨od, ho, hl⟩ := zlZ I.ns
 ⟨od, ⟨I.obj, rfl, rfl, ho⟩, hl⟩
section
variable {prog : Program} {w : World} {A : Around} {E : Value -> Shared -> Prop} {s : Shared} {K : PySem.W.Frag} {x dx C f : Addr} {mA : Str -> Option Value} {name : Str} {v : Value}
theorem zqc {expr : Bool} {Q : Value -> Shared -> Prop} (X : K.In s.heap) (I : ObjM s.heap x dx C mA) (hg : PySem.W.plainGet K C name = true) (hh : PySem.W.hasDictIn K C = true)
  (ha : PySem.W.findIn K (.ref C) name = some none) (hv : mA name = some v) (hv' : PySem.W.handedIn v = true) (h : Q v { s with toks := s.toks + 1 }) :
  wpAny (model prog w) A (getAttr (.ref x) name expr) Q E s := by
 obtain ⟨od, J, hl⟩ := I.look
 exact PySem.W.get_value X J (PySem.W.plainGet_of hg).1 (PySem.W.findObj_own hh ha rfl (by rw [hl, hv])) hv' h
theorem znY {pl : Sem Bool} {Q : Value × List Value -> Shared -> Prop} (X : K.In s.heap) (I : ObjM s.heap x dx C mA) (hg : PySem.W.plainGet K C name = true)
  (hf : PySem.W.findIn K (.ref C) name = some (some (.ref f))) (ht : PySem.W.isFn K (.ref f) = true) (hv : mA name = none) (h : Q (.ref f, [.ref x]) s) :
  wpAny (model prog w) A (getMethod (.ref x) name pl) Q E s := by
 obtain ⟨od, J, hl⟩ := I.look
 exact PySem.W.method_fn X J (PySem.W.plainGet_of hg).1 (PySem.W.plainGet_of hg).2 hf (beq_iff_eq.mp ht) (by show (PySem.W.lookIn name od).map (·.isSome) = some false; rw [hl, hv]; rfl) h
theorem zo8 {ns : List Str} {Q : Unit -> Shared -> Prop} (X : K.In s.heap) (I : ObjM s.heap x dx C mA)
  (hs : PySem.W.findIn K (.ref C) "__setattr__" = some (some (.builtin "object.__setattr__"))) (hp : PySem.W.plainOver K C = true) (ht : PySem.W.takerIn K C name = some none) (hh : PySem.W.hasDictIn K C = true)
  (hw : PySem.Within mA ns) (hsz : ns.length <= sizeLine)
  (h : ∀ h', ObjM h' x dx C (fun y => if y = name then some v else mA y) -> Heap.SameBut dx s.heap h' -> Q () { s with heap := h', toks := s.toks + 2 }) :
  wpAny (model prog w) A (setAttr (.ref x) name v) Q E s := by
 obtain ⟨od, J, hl⟩ := I.look
 refine PySem.W.set_plain X J hs (PySem.W.osa_open (s := { s with toks := s.toks + 1 }) (r := none) X J hp ht fun b => ?_)
 obtain ⟨cd, hc, hd'⟩ := PySem.W.any_some hh
 have hx : s.heap.get? x = some ⟨.ref C, some dx, .plain, #[]⟩ := I.obj
 refine qu (wpAny_pure (qu (qu (wpAny_loadPart hx (qu (PySem.W.Looks.here (s := { s with toks := s.toks + 1 }) (PySem.W.looks_clsIn X hc) ?_))))))
 rw [hd']
 refine wpAny_pure (a := some dx) (qu (wpAny_pure (qu ?_)))
 refine wpAny_nsSet1 (s := { s with toks := s.toks + 1 }) I.ns fun h' hn2 hs2 => ?_
 obtain ⟨oD, esD, epD, hoD, hdD, hcD⟩ := hn2.count (PySem.Within.cons name v hw)
 refine qu (wpAny_lookBehind hoD (by rw [hdD]; exact pastItsLine_dict (Nat.le_trans hcD (by rw [qh]; omega))) ?_)
 exact wpAny_pure (h _ ⟨(hs2.2 _ (Ne.symm I.ne)).trans I.obj, hn2, I.ne⟩ hs2)
theorem znK {R : Result -> Shared -> Prop} {vs : List Value} {kw : List (Str × Value)} (X : K.In s.heap) (hm : PySem.W.makesIn K C = true)
  (hi : PySem.W.findIn K (.ref C) "__init__" = some (some (.ref f))) (hf : PySem.W.typeIn K (.ref f) = some (.type "function"))
  (h : codeAny (model prog w) (A.under (.builtin "type.__call__" ⟨.ref C :: vs, kw⟩)) (.call (.ref f) ⟨.ref (s.heap.objs.size + 1) :: vs, kw⟩) (PySem.W.InitBack (s.heap.objs.size + 1) R)
   { s with heap := (s.heap.push PySem.W.emptyDict).push (PySem.W.instObj C s.heap.objs.size) }) :
  codeAny (model prog w) A (.call (.ref C) ⟨vs, kw⟩) R s := by
 obtain ⟨hh, g, d, t, os⟩ := s
 exact PySem.W.make_core (PySem.W.makes_of X hm) (PySem.W.looks_findIn X hi) (fun self => PySem.W.bind_fn X self hf) (.inl rfl) h
end
def zik (f : Str) (v : V) : List (Str × V) -> List (Str × V)
 | [] => [(f, v)]
 | (g, x) :: r => if g = f then (g, v) :: r else (g, x) :: zik f v r
theorem zgb (f g : Str) (v : V) : ∀ fs : List (Str × V), (zik f v fs).lookup g = if g = f then some v else fs.lookup g
 | [] => by
  show List.lookup g [(f, v)] = _
  by_cases h : g = f
  ·have hb : (g == f) = true := beq_iff_eq.mpr h
   simp only [List.lookup, hb, if_pos h]
  ·have hb : (g == f) = false := beq_eq_false_iff_ne.mpr h
   simp only [List.lookup, hb, if_neg h]
 | (k, x) :: r => by
  have ih := zgb f g v r
  rw [show zik f v ((k, x) :: r) = (if k = f then (k, v) :: r else (k, x) :: zik f v r) from rfl]
  by_cases hk : k = f
  ·rw [if_pos hk]
   by_cases h : g = k
   ·have hb : (g == k) = true := beq_iff_eq.mpr h
    simp only [List.lookup, hb, if_pos (h.trans hk)]
   ·have hb : (g == k) = false := beq_eq_false_iff_ne.mpr h
    simp only [List.lookup, hb, if_neg (fun e : g = f => h (e.trans hk.symm))]
  ·rw [if_neg hk]
   by_cases h : g = k
   ·have hb : (g == k) = true := beq_iff_eq.mpr h
    simp only [List.lookup, hb, if_neg (fun e : g = f => hk (h.symm.trans e))]
   ·have hb : (g == k) = false := beq_eq_false_iff_ne.mpr h
    simp only [List.lookup, hb]
    exact ih
theorem zgh (f : Str) (v : V) : ∀ fs : List (Str × V), f ∈ (zik f v fs).map (·.1) /\ ∀ g, g ∈ fs.map (·.1) -> g ∈ (zik f v fs).map (·.1)
 | [] => ⟨by simp [zik], fun g h => by simp at h⟩
 | (k, x) :: r => by
  obtain ⟨i1, i2⟩ := zgh f v r
  rw [show zik f v ((k, x) :: r) = (if k = f then (k, v) :: r else (k, x) :: zik f v r) from rfl]
  by_cases hk : k = f
  ·rw [if_pos hk]
   subst hk
   exact ⟨by simp, fun g h => by simpa using h⟩
  ·rw [if_neg hk]
   refine ⟨?_, fun g h => ?_⟩
   ·rw [ql]
    exact qg _ i1
   ·rw [ql] at h ⊢
    rcases List.mem_cons.mp h with e | e
    ·exact List.mem_cons.mpr (.inl e)
    ·exact qg _ (i2 g e)
theorem zgf (f : Str) (v : V) : ∀ fs : List (Str × V), (zik f v fs).length <= fs.length + 1
 | [] => by simp [zik]
 | (k, x) :: r => by
  have ih := zgf f v r
  rw [show zik f v ((k, x) :: r) = (if k = f then (k, v) :: r else (k, x) :: zik f v r) from rfl]
  by_cases hk : k = f
  ·rw [if_pos hk, qh, qh]; omega
  ·rw [if_neg hk, qh, qh]; omega
theorem zjk.some_of {v : V} {o : Option Value} (r : zjk (some v) o) : ∃ u, o = some u /\ zco v u := by
 cases o with
 | none => exact (show False from r).elim
 | some u => exact ⟨u, rfl, r⟩
theorem zjk.none_of {o : Option Value} (r : zjk none o) : o = none := by
 cases o with
 | none => rfl
 | some u => exact (show False from r).elim
theorem zmh {v : V} {u : Value} (r : zco v u) : PySem.W.handedIn u = true := by
 cases v with
 | non => cases (show u = Value.none from r); rfl
 | bl b => cases (show u = Value.bool b from r); rfl
 | int i => obtain ⟨t, e⟩ := (show ∃ t, u = Value.int i t from r); cases e; rfl
 | str x => obtain ⟨t, e⟩ := (show ∃ t, u = Value.str x t from r); cases e; rfl
 | byt b => obtain ⟨t, e⟩ := (show ∃ t, u = Value.bytes b t from r); cases e; rfl
 | flt b => obtain ⟨t, e⟩ := (show ∃ t, u = Value.float b t from r); cases e; rfl
 | ref a => cases (show u = Value.ref a from r); rfl
 | ty n => cases (show u = Value.type n from r); rfl
section
variable {P : Program} {w : World} {H H' : Hp} {h h' : Heap} {a C dx : Addr} {fs fs' : List (Str × V)}
theorem zhR (hok : HOk P w H h) (e : H a = some (.ins C dx fs)) : ∃ mA, ObjM h a dx C mA /\ (∀ f, zjk (fs.lookup f) (mA f)) /\ PySem.Within mA (fs.map (·.1)) /\ fs.length <= 1000 /\ H dx = some (.own a) := by
 obtain ⟨d, z, ne, ob, mA, n, r, q⟩ := (show zcw P w H h a (.ins C dx fs) from hok a _ e)
 exact ⟨mA, ⟨ob, n, ne⟩, r, q, z, d⟩
end
structure Cls (K : PySem.W.Frag) (C : Addr) : Prop where
 pg : PySem.W.plainGet K C Str.empty = true
 hd : PySem.W.hasDictIn K C = true
 po : PySem.W.plainOver K C = true
 sa : PySem.W.findIn K (.ref C) "__setattr__" = some (some (.builtin "object.__setattr__"))
theorem Cls.get {K : PySem.W.Frag} {C : Addr} (c : Cls K C) (f : Str) : PySem.W.plainGet K C f = true := c.pg
def zfA (K : PySem.W.Frag) (C : Addr) (f : Str) : Prop := PySem.W.findIn K (.ref C) f = some none
theorem zfA.taker {K : PySem.W.Frag} {C : Addr} {f : Str} (n : zfA K C f) : PySem.W.takerIn K C f = some none := by
 unfold PySem.W.takerIn
 rw [show PySem.W.findIn K (.ref C) f = some none from n]
 rfl
structure Con (K : PySem.W.Frag) (C : Addr) (f : Str) (v : V) (u : Value) : Prop where
 at_ : PySem.W.findIn K (.ref C) f = some (some u)
 rel : zco v u
 get : PySem.W.specialIn K u "__get__" = some none
 cp : PySem.W.copiedNames.contains f = false
structure Meth (K : PySem.W.Frag) (C : Addr) (m : Str) (f : Addr) : Prop where
 at_ : PySem.W.findIn K (.ref C) m = some (some (.ref f))
 fn : PySem.W.isFn K (.ref f) = true
 kp : PySem.W.keepIn K (.ref f) = true
section
variable {X : Cx} {pins : List (Addr × Obj)} {σ : St} {H : Hp} {s : Shared} {a C dx : Addr} {fs : List (Str × V)} {f : Str} {v : V} {A : Around} {E : Value -> Shared -> Prop}
theorem zk2 {b : Bool} {Q : Value -> Shared -> Prop} (I : Inv X pins σ H s) (e : H a = some (.ins C dx fs)) (c : Cls X.K C) (n : zfA X.K C f) (l : fs.lookup f = some v)
  (h : ∀ u s', Inv X pins σ H s' -> zco v u -> Q u s') : wpAny (model X.prog X.w) A (getAttr (.ref a) f b) Q E s := by
 obtain ⟨mA, O, r, _, _, _⟩ := zhR I.hok e
 obtain ⟨u, hu, ru⟩ := zjk.some_of (v := v) (o := mA f) (by rw [← l]; exact r f)
 exact zqc I.kIn O (c.get f) c.hd n hu (zmh ru) (h u _ (I.tok _) ru)
theorem zfd {m : Str} {g : Addr} {pl : Sem Bool} {Q : Value × List Value -> Shared -> Prop} (I : Inv X pins σ H s) (e : H a = some (.ins C dx fs)) (c : Cls X.K C) (k : Meth X.K C m g) (l : fs.lookup m = none)
  (h : Q (.ref g, [.ref a]) s) : wpAny (model X.prog X.w) A (getMethod (.ref a) m pl) Q E s := by
 obtain ⟨mA, O, r, _, _, _⟩ := zhR I.hok e
 have hn : mA m = none := zjk.none_of (by rw [← l]; exact r m)
 exact znY I.kIn O (c.get m) k.at_ k.fn hn h
theorem zkK {y : V} {u : Value} {Q : Unit -> Shared -> Prop} (I : Inv X pins σ H s) (e : H a = some (.ins C dx fs)) (c : Cls X.K C) (n : zfA X.K C f) (hl : fs.length < 1000) (ry : zco y u)
  (h : ∀ s', Inv X pins σ (upd H a (.ins C dx (zik f y fs))) s' -> Q () s') : wpAny (model X.prog X.w) A (setAttr (.ref a) f u) Q E s := by
 obtain ⟨mA, O, r, wi, _, ho⟩ := zhR I.hok e
 have hz : (fs.map (·.1)).length <= sizeLine := by rw [qe, sizeLine_eq]; omega
 refine zo8 I.kIn O c.sa c.po n.taker c.hd wi hz fun h' O' sb => h _ ?_
 have hd : ∃ o, h'.get? dx = some o := let ⟨o, _, _, e', _⟩ := O'.ns; ⟨o, e'⟩
 refine I.write (x := a) (e := dx) (by rw [e]; exact True.intro) (.inr ho) (fun b q hb z => (sb.2 b hb).trans z) hd ?_
 refine ⟨by rw [zaw O.ne]; exact ho, ?_, O.ne, O'.obj, _, O'.ns, fun g => ?_, fun g hg => ?_⟩
 ·have := zgf f y fs; omega
 ·show zjk ((zik f y fs).lookup g) (if g = f then some u else mA g)
  rw [zgb]
  by_cases q : g = f
  ·rw [if_pos q, if_pos q]; exact ry
  ·rw [if_neg q, if_neg q]; exact r g
 ·by_cases q : g = f
  ·rw [q]; exact (zgh f y fs).1
  ·refine (zgh f y fs).2 g (wi g fun z => hg ?_)
   show (if g = f then some u else mA g) = none
   rw [if_neg q]; exact z
theorem Inv.made (I : Inv X pins σ H s) : Inv X pins σ (upd (upd H s.heap.objs.size (.own (s.heap.objs.size + 1))) (s.heap.objs.size + 1) (.ins C s.heap.objs.size []))
  { s with heap := (s.heap.push PySem.W.emptyDict).push (PySem.W.instObj C s.heap.objs.size) } := by
 have e1 : (s.heap.push PySem.W.emptyDict).get? s.heap.objs.size = some PySem.W.emptyDict := Heap.get?_push_size s.heap rfl
 have e2 : ((s.heap.push PySem.W.emptyDict).push (PySem.W.instObj C s.heap.objs.size)).get? (s.heap.objs.size + 1) = some (PySem.W.instObj C s.heap.objs.size) := by
  have := Heap.get?_push_size (s.heap.push PySem.W.emptyDict) (o := PySem.W.instObj C s.heap.objs.size) rfl
  rwa [Heap.size_push] at this
 have e3 : (s.heap.push PySem.W.emptyDict).Ns s.heap.objs.size (fun _ => none) := ⟨PySem.W.emptyDict, #[], _, e1, rfl, (fun e he => absurd he (by simp)), fun _ => rfl⟩
 have I1 := I.laid (a := s.heap.objs.size) (o := .own (s.heap.objs.size + 1)) (h' := s.heap.push PySem.W.emptyDict) (t' := s.toks) (fun b u q => qq _ q) (qt _) ⟨_, e1⟩
 refine I1.laid (a := s.heap.objs.size + 1) (o := .ins C s.heap.objs.size []) (t' := s.toks) (fun b u q => qq _ q) (Nat.le_of_eq (Heap.size_push _ _)) ?_
 have ne : s.heap.objs.size ≠ s.heap.objs.size + 1 := Nat.ne_of_lt (Nat.lt_succ_self _)
 refine ⟨by rw [zaw ne, zaC], Nat.zero_le _, ne, e2, fun _ => none, (Heap.Ns1.of_empty e3).at fun o q => qq _ q, fun _ => True.intro, fun y hy => absurd rfl hy⟩
theorem zqB {prog : Program} {w : World} {env : Env} {e : Expr} {f : Str} {pos : Pos} {s : Shared} {Q : Value -> Shared -> Prop} (hb : attributeBase e f env (eval e env) = eval e env)
  (h : wpAny (model prog w) A (eval e env) (fun o s₁ => wpAny (model prog w) A (getAttr o f true) Q E s₁) E s) : wpAny (model prog w) A (eval (.Attribute e f pos) env) Q E s :=
 Attribute_any_ h (by rw [arm_eval_Attribute, hb])
end
def ztV (K : PySem.W.Frag) (ta : TE) (f : Str) : TE := fun σ H Q => ta σ H fun x H1 => ∃ a C dx fs v, x = .ref a /\ H1 a = some (.ins C dx fs) /\ Cls K C /\ zfA K C f /\ fs.lookup f = some v /\ Q v H1
def ztX (K : PySem.W.Frag) (ta tv : TE) (f : Str) : TS := fun D σ H => tv σ H fun y H1 => ta σ H1 fun x H2 => ∃ a C dx fs, x = .ref a /\ H2 a = some (.ins C dx fs) /\ Cls K C /\ zfA K C f /\ fs.length < 1000 /\
 D.nx σ (upd H2 a (.ins C dx (zik f y fs)))
section
variable {X : Cx} {o e value : Expr} {f : Str} {pos pos' tpos : Pos} {ta tv : TE}
theorem zlE (he : PE X e ta) (hb : attributeBase e f X.env (eval e X.env) = eval e X.env) : PE X (.Attribute e f pos) (ztV X.K ta f) := by
 intro pins s σ H Q I h
 refine zqB hb (thn (he pins s σ H _ I h) fun u s1 ⟨x, H1, I1, rx, a, C, dx, fs, v, ex, ea, c, n, l, q⟩ => ?_)
 subst ex
 obtain rfl : u = Value.ref a := rx
 exact zk2 I1 ea c n l fun u' s2 I2 ru => ⟨v, H1, I2, ru, q⟩
theorem zow (ha : PE X o ta) (hv : PE X value tv) (hs : swapsWith value (some (.Attribute o f pos')) pos.line X.env = pure false) : PS X (.Assign [.Attribute o f pos'] value pos) (ztX X.K ta tv f) := by
 intro pins s σ H D I h
 refine plainObj_wpAny_Assign_Attribute (thn (hv pins s σ H _ I h) fun u s1 ⟨y, H1, I1, ry, q⟩ => thn (ha pins s1 σ H1 _ I1 q) fun ov s2 ⟨x, H2, I2, rx, a, C, dx, fs, ex, ea, c, n, l, q2⟩ => ?_) hs
 subst ex
 obtain rfl : ov = Value.ref a := rx
 exact zkK I2 ea c n l ry fun s3 I3 => ⟨σ, _, I3, q2⟩
theorem zpV {pl : Sem Bool} {m : Str} {apos : Pos} {args : List Expr} {pins : List (Addr × Obj)} {s : Shared} {σ : St} {H : Hp} {Q : Value -> Shared -> Prop} {te : TE} (he : PE X e te) (I : Inv X pins σ H s)
  (h : te σ H fun x H1 => ∃ a C dx fs g, x = .ref a /\ H1 a = some (.ins C dx fs) /\ Cls X.K C /\ Meth X.K C m g /\ fs.lookup m = none /\
   ∀ s1, Inv X pins σ H1 s1 -> wpAny (model X.prog X.w) X.A (callWith pos (.ref g) [.ref a] (backTo pos (starEach args X.env)) (backToKw pos (keywordEach [] X.env))) Q X.xe s1)
  (ht : eval (.Call (.Attribute e m apos) args [] pos) X.env = (do
   let ov ← eval e X.env
   standAt apos.atName
   let (f, first) ← holding [ov] (getMethod ov m pl)
   callWith pos f first (backTo pos (starEach args X.env)) (backToKw pos (keywordEach [] X.env)))) :
  wpAny (model X.prog X.w) X.A (eval (.Call (.Attribute e m apos) args [] pos) X.env) Q X.xe s := by
 refine PySem.W.methodCall_KW (pl := pl) (thn (he pins s σ H _ I h) fun u s1 ⟨x, H1, I1, rx, a, C, dx, fs, g, ex, ea, c, k, l, q⟩ => ?_) ht
 subst ex
 obtain rfl : u = Value.ref a := rx
 exact zfd I1 ea c k l (q s1 I1)
end
section
variable {X : Cx} {pins : List (Addr × Obj)} {σ : St} {H : Hp} {s : Shared} {A : Around} {E : Value -> Shared -> Prop} {Q : Value -> Shared -> Prop} {c : Value} {b : Bool}
inductive TyOf (K : PySem.W.Frag) (H : Hp) : V -> Value -> Prop where
 | non : TyOf K H .non (.type "NoneType")
 | bl (x : Bool) : TyOf K H (.bl x) (.type "bool")
 | int (i : Int) : TyOf K H (.int i) (.type "int")
 | str (x : Str) : TyOf K H (.str x) (.type "str")
 | flt (x : UInt64) : TyOf K H (.flt x) (.type "float")
 | lst {a : Addr} {xs : List V} (e : H a = some (.lst xs)) : TyOf K H (.ref a) (.type "list")
 | frz {a : Addr} {o : Obj} {xs : List V} (e : H a = some (.frz o (.lst xs))) : TyOf K H (.ref a) (.type "list")
 | tup {a : Addr} {xs : List V} (e : H a = some (.tup xs)) : TyOf K H (.ref a) (.type "tuple")
 | dK {a : Addr} {kvs : List (Key × V)} (e : H a = some (.dK kvs)) : TyOf K H (.ref a) (.type "dict")
 | dT {a : Addr} {kvs : List (List Key × V)} (e : H a = some (.dT kvs)) : TyOf K H (.ref a) (.type "dict")
 | ins {a C dx : Addr} {fs : List (Str × V)} (e : H a = some (.ins C dx fs)) (cl : Cls K C) (ha : PySem.W.findIn K (.ref C) "__class__" = some (some (.builtin "object.__class__")))
   (hn : PySem.W.specialIn K (.builtin "object.__class__") "__get__" = some (some (.builtin "getset_descriptor.__get__"))) (htk : PySem.W.takesIn K (.builtin "object.__class__") = some true)
   (hm : PySem.W.mroIn K C (.type "object") = some true) : TyOf K H (.ref a) (.ref C)
theorem zmc {x : V} {u t : Value} (I : Inv X pins σ H s) (rx : zco x u) (ty : TyOf X.K H x t) (e : PySem.W.kitOne X.K t c = some b) (h : ∀ tk, Q (.bool b) { s with toks := tk }) :
  wpAny (model X.prog X.w) A (call (.builtin "isinstance") [u, c]) Q E s := by
 cases ty with
 | non => cases (show u = Value.none from rx); exact PySem.W.kia_one PySem.W.kitx_none I.kIn True.intro e (fun z => nomatch z) h
 | bl y => cases (show u = Value.bool y from rx); exact PySem.W.kia_one PySem.W.kitx_bool I.kIn True.intro e (fun z => nomatch z) h
 | int i => obtain ⟨t, q⟩ := (show ∃ t, u = Value.int i t from rx); cases q; exact PySem.W.kia_one PySem.W.kitx_int I.kIn True.intro e (fun z => nomatch z) h
 | str y => obtain ⟨t, q⟩ := (show ∃ t, u = Value.str y t from rx); cases q; exact PySem.W.kia_one PySem.W.kitx_str I.kIn True.intro e (fun z => nomatch z) h
 | flt y => obtain ⟨t, q⟩ := (show ∃ t, u = Value.float y t from rx); cases q; exact PySem.W.kia_one PySem.W.kitx_float I.kIn True.intro e (fun z => nomatch z) h
 | @lst a xs ea =>
  cases (show u = Value.ref a from rx)
  obtain ⟨_, _, n, _, h1⟩ := (show zcw X.prog X.w H s.heap a (.lst xs) from I.hok a _ ea)
  exact PySem.W.kia_one PySem.W.kitx_list I.kIn ⟨_, h1, rfl⟩ e (fun z => nomatch z) h
 | @frz a ob xs ea =>
  cases (show u = Value.ref a from rx)
  obtain ⟨_, _, _, n, _, h1⟩ := (show zcw X.prog X.w H s.heap a (.frz ob (.lst xs)) from I.hok a _ ea)
  exact PySem.W.kia_one PySem.W.kitx_list I.kIn ⟨_, h1, rfl⟩ e (fun z => nomatch z) h
 | @tup a xs ea =>
  cases (show u = Value.ref a from rx)
  obtain ⟨_, _, _, p⟩ := (show zcw X.prog X.w H s.heap a (.tup xs) from I.hok a _ ea)
  obtain ⟨o, h1, h2, _⟩ := p
  exact PySem.W.kia_one PySem.W.kitx_tuple I.kIn ⟨o, h1, h2⟩ e (fun z => nomatch z) h
 | @dK a kvs ea =>
  cases (show u = Value.ref a from rx)
  obtain ⟨_, _, vs, _, p⟩ := (show zcw X.prog X.w H s.heap a (.dK kvs) from I.hok a _ ea)
  obtain ⟨o, es, ep, h1, h2, _⟩ := p
  exact PySem.W.kia_one PySem.W.kitx_dict I.kIn ⟨o, h1, h2.1⟩ e (fun z => nomatch z) h
 | @dT a kvs ea =>
  cases (show u = Value.ref a from rx)
  obtain ⟨_, _, xs, _, o, es, ep, h1, h2, _⟩ := (show zcw X.prog X.w H s.heap a (.dT kvs) from I.hok a _ ea)
  exact PySem.W.kia_one PySem.W.kitx_dict I.kIn ⟨o, h1, h2.1⟩ e (fun z => nomatch z) h
 | @ins a C dx fs ea cl ha hn htk hm =>
  cases (show u = Value.ref a from rx)
  obtain ⟨mA, O, _⟩ := zhR I.hok ea
  obtain ⟨od, J, _⟩ := O.look
  exact PySem.W.kia_one (PySem.W.kitx_own (cl.get _) cl.hd ha hn htk hm) I.kIn J e (fun z => nomatch z) h
end
end L2
namespace L2
open PySem PySem.Spec PyProof.Rows
structure Room (k : Nat) (A : Around) : Prop where
 hd : A.handled = none
 dp : A.depth + 3 * k + 5 < recursionLimit
 un : A.units + 16 * k + 200 < cLine
theorem Room.mono {j k : Nat} {A : Around} (r : Room k A) (h : j <= k) : Room j A := ⟨r.hd, by have := r.dp; omega, by have := r.un; omega⟩
theorem Room.deeper {k : Nat} {A : Around} (r : Room (k + 1) A) (env : Env) : Room k (A.deeper env) :=
 ⟨r.hd, by have := r.dp; show A.depth + 1 + 3 * k + 5 < _; omega, by have := r.un; show A.units + 3 + 16 * k + 200 < _; omega⟩
theorem zkU {A : Around} {C : Addr} {us : List Value} {kw : List (Str × Value)} : (A.under (.builtin "type.__call__" ⟨.ref C :: us, kw⟩)).depth = A.depth + 1 := by
 first | rfl | simp [Around.under, Code.weight, Code.isCreation, Code.isGuard, Code.isCaller, Code.frames, Code.isFrame, guardIds]
theorem zkT {A : Around} {C : Addr} {us : List Value} {kw : List (Str × Value)} : (A.under (.builtin "type.__call__" ⟨.ref C :: us, kw⟩)).units = A.units + 1 := by
 first | rfl | simp [Around.under, Code.cUnits, Code.frames, Code.isFrame]
theorem Room.make {k : Nat} {A : Around} (r : Room (k + 1) A) (C : Addr) (us : List Value) (kw : List (Str × Value)) : Room k (A.under (.builtin "type.__call__" ⟨.ref C :: us, kw⟩)) :=
 ⟨r.hd, by have := r.dp; rw [zkU]; omega, by have := r.un; rw [zkT]; omega⟩
theorem Room.depth {k : Nat} {A : Around} (r : Room k A) : A.depth < recursionLimit := by have := r.dp; omega
def ztx : TA := fun _ H Q => Q [] H
def zsJ (ta : TE) (tr : TA) : TA := fun σ H Q => ta σ H fun x H1 => tr σ H1 fun xs H2 => Q (x :: xs) H2
section
variable {X : Cx} {e : Expr} {es : List Expr} {te : TE} {t : TA} {pos : Pos}
theorem zfu : PA X [] ztx := fun _ _ _ _ H Q I h => Calls.spliced_nil ⟨[], H, I, .nil, h⟩
theorem zdH (ha : PE X e te) (hr : PA X es t) (hs : starEach (e :: es) X.env = (false, eval e X.env) :: starEach es X.env := by rfl) : PA X (e :: es) (zsJ te t) := by
 intro pos pins s σ H Q I h
 rw [hs]
 show wpAny _ _ (spliced ((false, eval e X.env) :: backTo pos (starEach es X.env))) _ _ s
 refine Calls.spliced_cons (thn (ha pins s σ H _ I h) fun u s1 ⟨x, H1, I1, r1, q1⟩ => ?_)
 exact thn (hr pos pins s1 σ H1 _ I1 q1) fun us s2 ⟨xs, H2, I2, r2, q2⟩ => ⟨x :: xs, H2, I2, .cons r1 r2, q2⟩
def ztO (t : TA) : TE := fun σ H Q => t σ H fun xs H1 => xs.length <= sizeLine /\ ∀ p, H1 p = none -> Q (.ref p) (upd H1 p (.tup xs))
def ztS (t : TA) : TE := fun σ H Q => t σ H fun xs H1 => xs.length <= sizeLine /\ ∀ p, H1 p = none -> Q (.ref p) (upd H1 p (.lst xs))
theorem zrn {x1} (h : PA X es t) : PE X (.Tuple es x1 pos) (ztO t) := by
 intro pins s σ H Q I hq
 refine wpAny_Tuple_spliced (thn (h pos pins s σ H _ I hq) fun us s1 ⟨xs, H1, I1, r, z, q⟩ => ⟨by rw [← r.length]; exact z, ?_⟩)
 have hf : H1 s1.heap.objs.size = none := I1.hok.fresh (qt _)
 refine ⟨.ref s1.heap.objs.size, upd H1 s1.heap.objs.size (.tup xs), I1.laid (t' := s1.toks) (fun b u e => qq _ e) (qt _) ?_, rfl, q _ hf⟩
 exact ⟨z, us, r, ⟨_, Heap.get?_push_size _ rfl, rfl, _, rfl⟩⟩
theorem zrs (h : PA X es t) : PE X (.List es pos) (ztS t) := by
 intro pins s σ H Q I hq
 refine wpAny_List_spliced (thn (h pos pins s σ H _ I hq) fun us s1 ⟨xs, H1, I1, r, z, q⟩ => ⟨by rw [← r.length]; exact z, ?_⟩)
 have hf : H1 s1.heap.objs.size = none := I1.hok.fresh (qt _)
 refine ⟨.ref s1.heap.objs.size, upd H1 s1.heap.objs.size (.lst xs), I1.laid (t' := s1.toks) (fun b u e => qq _ e) (qt _) ?_, rfl, q _ hf⟩
 exact ⟨z, us, 0, r, Heap.get?_push_size _ rfl⟩
end
abbrev Sp := List V -> Hp -> VK -> XK -> Prop
abbrev CXT := List Env -> Hp -> Shared -> XK -> Value -> Shared -> Prop
structure Env0 (P : Program) (w : World) (K : PySem.W.Frag) (mg : Str -> Option Value) (base : Heap) (A : Around) (outer : List Env) (s : Shared) (H : Hp) : Prop where
 frames : A.frames = some outer
 mod : Mod K mg base
 bs : ∀ b o, base.get? b = some o -> s.heap.get? b = some o /\ H b = none
 bsz : base.objs.size <= s.heap.objs.size
 funs : s.heap.FunFrames base outer
 frf : ∀ b ∈ frs outer, H b = none
 hok : HOk P w H s.heap
 bare : AllBare s.gens
def CE (outer : List Env) (P : Program) (w : World) (H : Hp) (s : Shared) (Q : VK) (u : Value) (s' : Shared) : Prop :=
 ∃ v H', s'.os = s.os /\ AllBare s'.gens /\ Un (frs outer) [] H H' s.heap s'.heap /\ HOk P w H' s'.heap /\ zco v u /\ Q v H'
def CR (CX : CXT) (outer : List Env) (P : Program) (w : World) (H : Hp) (s : Shared) (Q : VK) (E : XK) (r : Result) (s' : Shared) : Prop :=
 match r with
 | .ok (.ret u) => CE outer P w H s Q u s'
 | .ok _ => False
 | .error e => CX outer H s E e s'
structure FnOk (P : Program) (w : World) (K : PySem.W.Frag) (mg : Str -> Option Value) (base : Heap) (CX : CXT) (k : Nat) (f : Addr) (fd : FuncData) (ps : List Str) (sp : Sp) : Prop where
 len : ∀ vs H Q E, sp vs H Q E -> vs.length = ps.length
 run : ∀ (A : Around) (outer : List Env) (s : Shared) (H : Hp) (args : Args) (us : List Value) (vs : List V) (Q : VK) (E : XK), Room k A -> Env0 P w K mg base A outer s H -> BindsTo s fd args (ps.zip us) -> zbX vs us -> sp vs H Q E ->
  codeAny (model P w) A (.call (.ref f) args) (CR CX outer P w H s Q E) s
theorem FnOk.imp {P : Program} {w : World} {K : PySem.W.Frag} {mg : Str -> Option Value} {base : Heap} {CX : CXT} {k : Nat} {f : Addr} {fd : FuncData} {ps : List Str} {sp sp' : Sp} (F : FnOk P w K mg base CX k f fd ps sp)
  (h : ∀ vs H Q E, sp' vs H Q E -> sp vs H Q E) : FnOk P w K mg base CX k f fd ps sp' :=
 ⟨fun vs H Q E q => F.len vs H Q E (h _ _ _ _ q), fun A outer s H args us vs Q E hr he hb hv hs => F.run A outer s H args us vs Q E hr he hb hv (h _ _ _ _ hs)⟩
theorem Env0.make {P : Program} {w : World} {K : PySem.W.Frag} {mg : Str -> Option Value} {base : Heap} {A : Around} {outer : List Env} {s : Shared} {H : Hp} (e : Env0 P w K mg base A outer s H) (C : Addr) (us : List Value) (kw : List (Str × Value)) :
  Env0 P w K mg base (A.under (.builtin "type.__call__" ⟨.ref C :: us, kw⟩)) outer s H := ⟨by first | exact e.frames | (simpa [Around.under, Code.envs, Code.isFrame, pushEnvs] using e.frames), e.mod, e.bs, e.bsz, e.funs, e.frf, e.hok, e.bare⟩
section
variable {X : Cx} {pins : List (Addr × Obj)} {σ : St} {H : Hp} {s s' : Shared}
theorem Inv.env0 (I : Inv X pins σ H s) : Env0 X.prog X.w X.K X.mg X.base X.A X.stack s H :=
 ⟨I.ok.frames, I.ok.mod, I.bs, Nat.le_trans I.ok.bsz I.sz, I.stack, I.stkFree, I.hok, I.bare⟩
theorem Inv.after {Q : VK} {u : Value} (I : Inv X pins σ H s) (h : CE X.stack X.prog X.w H s Q u s') : EP X pins σ Q u s' := by
 obtain ⟨v, H', os, bare, un, hok, r, q⟩ := h
 obtain ⟨hh, g, d, t, os'⟩ := s'
 obtain rfl : os' = s.os := os
 exact ⟨v, H', I.call (h' := hh) (g' := g) (d' := d) (t' := t) (ch := []) un hok bare (fun b z => absurd z (by simp)), r, q⟩
end
def zsK (sp : Sp) (dvs : List V) (E : XK) (t : TA) : TE := fun σ H Q => t σ H fun vs H1 => sp (vs ++ dvs) H1 Q E
def zqW (C : Addr) (m : Str) (sp : Sp) (dvs : List V) (E : XK) (ta : TE) (t : TA) : TE := fun σ H Q => ta σ H fun x H1 => ∃ a dx fs, x = .ref a /\ H1 a = some (.ins C dx fs) /\ fs.lookup m = none /\
 t σ H1 fun vs H2 => sp (x :: (vs ++ dvs)) H2 Q E
def zsG (C : Addr) (sp : Sp) (dvs : List V) (E : XK) (t : TA) : TE := fun σ H Q => t σ H fun vs H1 => ∀ x dx, H1 x = none -> H1 dx = none -> dx ≠ x ->
 sp (.ref x :: (vs ++ dvs)) (upd (upd H1 dx (.own x)) x (.ins C dx [])) (fun v H2 => v = .non /\ Q (.ref x) H2) E
def zdR (K : PySem.W.Frag) (fd : FuncData) (ps : List Str) (ds : List Value) : Prop :=
 ∀ (s : Shared) (us : List Value), K.In s.heap -> (us ++ ds).length = ps.length -> BindsTo s fd ⟨us, []⟩ (ps.zip (us ++ ds))
theorem zdR.all {K : PySem.W.Frag} {fd : FuncData} {ps : List Str} (h : ∀ us : List Value, us.length = ps.length -> bindArgs fd ⟨us, []⟩ = pure (ps.zip us)) : zdR K fd ps [] := fun s us _ hl => by
 rw [List.append_nil] at hl ⊢
 exact .of_eq (h us hl)
def zgF (CX : CXT) (X : Cx) (E : XK) : Prop := ∀ (pins : List (Addr × Obj)) (σ : St) (H : Hp) (s : Shared) (e : Value) (s' : Shared), Inv X pins σ H s -> CX X.stack H s E e s' -> X.xe e s'
section
variable {X : Cx} {CX : CXT} {k : Nat} {f C : Addr} {fd : FuncData} {ps : List Str} {sp : Sp} {dvs : List V} {ds : List Value} {E : XK} {x m : Str} {p pos apos : Pos} {e o : Expr} {es : List Expr} {ta : TE} {t : TA}
theorem zlu {pins : List (Addr × Obj)} {σ : St} {H : Hp} {s : Shared} {Q : VK} {us : List Value} {vs : List V} (F : FnOk X.prog X.w X.K X.mg X.base CX k f fd ps sp) (hr : Room k X.A) (hb : zdR X.K fd ps ds) (hd : zbX dvs ds) (hx : zgF CX X E)
  (I : Inv X pins σ H s) (r : zbX vs us) (h : sp (vs ++ dvs) H Q E) : wpAny (model X.prog X.w) X.A (call (.ref f) us) (EP X pins σ Q) X.xe s := by
 have r2 : zbX (vs ++ dvs) (us ++ ds) := r.append hd
 have hl : (us ++ ds).length = ps.length := by rw [← r2.length]; exact F.len _ _ _ _ h
 refine wpAny_call (codeAny_mono (F.run X.A X.stack s H ⟨us, []⟩ (us ++ ds) (vs ++ dvs) Q E hr I.env0 (hb s us I.kIn hl) r2 h) fun r s' hq => ?_)
 cases r with
 | error e => exact hx pins σ H s e s' I hq
 | ok fl =>
  cases fl with
  | ret u => exact I.after hq
  | next => exact False.elim hq
  | brk => exact False.elim hq
  | cont => exact False.elim hq
theorem zlF (F : FnOk X.prog X.w X.K X.mg X.base CX k f fd ps sp) (hr : Room k X.A) (hg : Gl X x) (hm : X.mg x = some (.ref f)) (hk : PySem.W.keepIn X.K (.ref f) = true) (hb : zdR X.K fd ps ds) (hd : zbX dvs ds) (hx : zgF CX X E)
  (ha : PA X (e :: es) t) (hdb : (x == ("__debug__" : Str)) = false := by decide) (he : starEach (e :: es) X.env = (false, eval e X.env) :: starEach es X.env := by rfl) (hpl : (backTo pos (starEach es X.env)).any (·.1) = false := by rfl) :
  PE X (.Call (.Name x p) (e :: es) [] pos) (zsK sp dvs E t) := by
 intro pins s σ H Q I h
 refine wpAny_Call_Name_kw (zjF I hg hm ?_ hdb)
 refine PySem.W.callWith_K (h₀ := X.base) I.ok.mod.kin hk (thn (ha pos pins s σ H _ I h) fun us s1 ⟨vs, H1, I1, r, q⟩ => ⟨I1.kIn, ?_⟩) he hpl
 exact zlu F hr hb hd hx I1 r q
theorem zpw {pl : Sem Bool} (he : PE X o ta) (c : Cls X.K C) (hm : Meth X.K C m f) (F : FnOk X.prog X.w X.K X.mg X.base CX k f fd ps sp) (hr : Room k X.A) (hb : zdR X.K fd ps ds) (hd : zbX dvs ds) (hx : zgF CX X E) (ha : PA X (e :: es) t)
  (hst : starEach (e :: es) X.env = (false, eval e X.env) :: starEach es X.env := by rfl) (hpl : (backTo pos (starEach es X.env)).any (·.1) = false := by rfl)
  (ht : eval (.Call (.Attribute o m apos) (e :: es) [] pos) X.env = (do
   let ov ← eval o X.env
   standAt apos.atName
   let (f, first) ← holding [ov] (getMethod ov m pl)
   callWith pos f first (backTo pos (starEach (e :: es) X.env)) (backToKw pos (keywordEach [] X.env))) := by rfl) :
  PE X (.Call (.Attribute o m apos) (e :: es) [] pos) (zqW C m sp dvs E ta t) := by
 intro pins s σ H Q I h
 refine PySem.W.methodCall_KW (pl := pl) (thn (he pins s σ H _ I h) fun u s1 ⟨x, H1, I1, rx, a, dx, fs, ex, ea, l, q⟩ => ?_) ht
 subst ex
 obtain rfl : u = Value.ref a := rx
 refine zfd I1 ea c hm l ?_
 refine PySem.W.callWith_K (first := [.ref a]) (h₀ := X.base) I.ok.mod.kin hm.kp (thn (ha pos pins s1 σ H1 _ I1 q) fun us s2 ⟨vs, H2, I2, r, q2⟩ => ⟨I2.kIn, ?_⟩) hst hpl
 exact zlu (us := .ref a :: us) (vs := .ref a :: vs) F hr hb hd hx I2 (.cons rfl r) q2
theorem znz {pl : Sem Bool} (he : PE X o ta) (c : Cls X.K C) (hm : Meth X.K C m f) (F : FnOk X.prog X.w X.K X.mg X.base CX k f fd ps sp) (hr : Room k X.A) (hb : zdR X.K fd ps ds) (hd : zbX dvs ds) (hx : zgF CX X E)
  (ht : eval (.Call (.Attribute o m apos) [] [] pos) X.env = (do
   let ov ← eval o X.env
   standAt apos.atName
   let (f, first) ← holding [ov] (getMethod ov m pl)
   callWith pos f first (backTo pos (starEach [] X.env)) (backToKw pos (keywordEach [] X.env))) := by rfl) :
  PE X (.Call (.Attribute o m apos) [] [] pos) (zqW C m sp dvs E ta ztx) := by
 intro pins s σ H Q I h
 refine PySem.W.methodCall_KW (pl := pl) (thn (he pins s σ H _ I h) fun u s1 ⟨x, H1, I1, rx, a, dx, fs, ex, ea, l, q⟩ => ?_) ht
 subst ex
 obtain rfl : u = Value.ref a := rx
 refine zfd I1 ea c hm l ?_
 exact PySem.W.callWith_K0 (first := [.ref a]) I1.kIn hm.kp (zlu (us := [.ref a]) (vs := [.ref a]) F hr hb hd hx I1 (.cons rfl .nil) q)
structure Mk (K : PySem.W.Frag) (C f : Addr) : Prop where
 makes : PySem.W.makesIn K C = true
 init : PySem.W.findIn K (.ref C) "__init__" = some (some (.ref f))
 fn : PySem.W.isFn K (.ref f) = true
 kp : PySem.W.keepIn K (.ref C) = true
theorem znp {pins : List (Addr × Obj)} {σ : St} {H : Hp} {s : Shared} {Q : VK} {us : List Value} {vs : List V} (M : Mk X.K C f) (F : FnOk X.prog X.w X.K X.mg X.base CX k f fd ps sp) (hr : Room (k + 1) X.A) (hb : zdR X.K fd ps ds) (hd : zbX dvs ds)
  (hx : zgF CX X E) (I : Inv X pins σ H s) (r : zbX vs us)
  (h : ∀ x dx, H x = none -> H dx = none -> dx ≠ x -> sp (.ref x :: (vs ++ dvs)) (upd (upd H dx (.own x)) x (.ins C dx [])) (fun v H2 => v = .non /\ Q (.ref x) H2) E) :
  wpAny (model X.prog X.w) X.A (call (.ref C) us) (EP X pins σ Q) X.xe s := by
 have hq := h (s.heap.objs.size + 1) s.heap.objs.size (I.hok.fresh (Nat.le_succ _)) (I.hok.fresh (qt _)) (Nat.ne_of_lt (Nat.lt_succ_self _))
 have I2 := Inv.made (C := C) I
 have r2 : zbX (V.ref (s.heap.objs.size + 1) :: (vs ++ dvs)) (Value.ref (s.heap.objs.size + 1) :: (us ++ ds)) := .cons rfl (r.append hd)
 have hl : (Value.ref (s.heap.objs.size + 1) :: us ++ ds).length = ps.length := by
  have e := r2.length
  rw [F.len _ _ _ _ hq] at e
  exact e.symm
 refine wpAny_call (znK (f := f) I.kIn M.makes M.init (beq_iff_eq.mp M.fn) (codeAny_mono (F.run _ X.stack _ _ ⟨Value.ref (s.heap.objs.size + 1) :: us, []⟩ (Value.ref (s.heap.objs.size + 1) :: (us ++ ds)) _ _ E (hr.make C us [])
  (I2.env0.make C us []) (hb _ (Value.ref (s.heap.objs.size + 1) :: us) I2.kIn hl) r2 hq) fun r s' hq' => ?_))
 cases r with
 | error e => exact hx pins σ _ _ e s' I2 hq'
 | ok fl =>
  cases fl with
  | ret u =>
   obtain ⟨v, H', I3, rv, ev, q3⟩ := I2.after hq'
   subst ev
   exact ⟨rv, ⟨V.ref (s.heap.objs.size + 1), H', I3, rfl, q3⟩⟩
  | next => exact False.elim hq'
  | brk => exact False.elim hq'
  | cont => exact False.elim hq'
theorem zpy (M : Mk X.K C f) (F : FnOk X.prog X.w X.K X.mg X.base CX k f fd ps sp) (hr : Room (k + 1) X.A) (hg : Gl X x) (hm : X.mg x = some (.ref C)) (hb : zdR X.K fd ps ds) (hd : zbX dvs ds) (hx : zgF CX X E)
  (ha : PA X (e :: es) t) (hdb : (x == ("__debug__" : Str)) = false := by decide) (he : starEach (e :: es) X.env = (false, eval e X.env) :: starEach es X.env := by rfl) (hpl : (backTo pos (starEach es X.env)).any (·.1) = false := by rfl) :
  PE X (.Call (.Name x p) (e :: es) [] pos) (zsG C sp dvs E t) := by
 intro pins s σ H Q I h
 refine wpAny_Call_Name_kw (zjF I hg hm ?_ hdb)
 refine PySem.W.callWith_K (h₀ := X.base) I.ok.mod.kin M.kp (thn (ha pos pins s σ H _ I h) fun us s1 ⟨vs, H1, I1, r, q⟩ => ⟨I1.kIn, ?_⟩) he hpl
 exact znp M F hr hb hd hx I1 r q
end
section
variable {X : Cx} {CX : CXT} {k : Nat} {f C : Addr} {fd : FuncData} {ps ks : List Str} {sp : Sp} {E : XK} {x m : Str} {p pos apos kpos : Pos} {e o : Expr} {es : List Expr} {kws : List Keyword} {te ta : TE} {t tk : TA} {nm : Option Str}
structure KBinds (K : PySem.W.Frag) (fd : FuncData) (ps ks : List Str) (g : List Value -> List Value -> List Value) (gV : List V -> List V -> List V) : Prop where
 to : ∀ (s : Shared) (us ws : List Value), K.In s.heap -> (g us ws).length = ps.length -> BindsTo s fd ⟨us, ks.zip ws⟩ (ps.zip (g us ws))
 rel : ∀ {vs : List V} {us : List Value} {zs : List V} {ws : List Value}, zbX vs us -> zbX zs ws -> zbX (gV vs zs) (g us ws)
variable {g : List Value -> List Value -> List Value} {gV : List V -> List V -> List V}
end
structure FnScope (N P : List Str) (sc : Scope) : Prop where
 kind : sc.kind = .function
 co : sc.isCoroutine = false
 gen : sc.isGenerator = false
 nd : N.Nodup
 pre : N.take P.length = P
 par : ∀ x ∈ P, sc.names.lookup x = some .local \/ sc.names.lookup x = some .cell
 nofree : ∀ y ∈ sc.names, y.2 ≠ .free
theorem zjc {kindOf : Str -> Option NameKind} {x : Str} : ∀ {binds : List (Str × Value)} {m : Str -> Option Value}, (∀ v, (x, v) ∉ binds) -> bindL kindOf binds m x = m x
 | [], _, _ => rfl
 | (n, v) :: r, m, h => by
  unfold bindL
  rw [zjc fun w hw => h w (qg _ hw)]
  split
  ·have : x ≠ n := by rintro rfl; exact h v qf
   simp [this]
  ·rfl
theorem zje {kindOf : Str -> Option NameKind} {x : Str} : ∀ {binds : List (Str × Value)} {m : Str -> Option Value}, (∀ v, (x, v) ∉ binds) -> bindC kindOf binds m x = m x
 | [], _, _ => rfl
 | (n, v) :: r, m, h => by
  unfold bindC
  rw [zje fun w hw => h w (qg _ hw)]
  split
  ·rfl
  ·have : x ≠ n := by rintro rfl; exact h v qf
   simp [this]
theorem zjd {kindOf : Str -> Option NameKind} {x : Str} {v : Value} : ∀ {P : List Str} {vs : List Value} {i : Nat} {m : Str -> Option Value}, P.Nodup -> P[i]? = some x -> vs[i]? = some v -> kindOf x = some .local ->
  bindL kindOf (P.zip vs) m x = some v
 | [], _, _, _, _, h, _, _ => by simp at h
 | _ :: _, [], _, _, _, _, h, _ => by simp at h
 | p :: P, w :: vs, 0, m, nd, h1, h2, hk => by
  simp at h1 h2; subst h1; subst h2
  show bindL kindOf ((p, w) :: P.zip vs) m p = _
  unfold bindL
  rw [zjc fun v hv => (List.nodup_cons.mp nd).1 (List.of_mem_zip hv).1, if_pos hk]
  simp
 | p :: P, w :: vs, i + 1, m, nd, h1, h2, hk => by
  show bindL kindOf ((p, w) :: P.zip vs) m x = _
  unfold bindL
  exact zjd (i := i) (List.nodup_cons.mp nd).2 (by simpa using h1) (by simpa using h2) hk
theorem zjf {kindOf : Str -> Option NameKind} {x : Str} {v : Value} : ∀ {P : List Str} {vs : List Value} {i : Nat} {m : Str -> Option Value}, P.Nodup -> P[i]? = some x -> vs[i]? = some v -> kindOf x ≠ some .local ->
  bindC kindOf (P.zip vs) m x = some v
 | [], _, _, _, _, h, _, _ => by simp at h
 | _ :: _, [], _, _, _, _, h, _ => by simp at h
 | p :: P, w :: vs, 0, m, nd, h1, h2, hk => by
  simp at h1 h2; subst h1; subst h2
  show bindC kindOf ((p, w) :: P.zip vs) m p = _
  unfold bindC
  rw [zje fun v hv => (List.nodup_cons.mp nd).1 (List.of_mem_zip hv).1, if_neg hk]
  simp
 | p :: P, w :: vs, i + 1, m, nd, h1, h2, hk => by
  show bindC kindOf ((p, w) :: P.zip vs) m x = _
  unfold bindC
  exact zjf (i := i) (List.nodup_cons.mp nd).2 (by simpa using h1) (by simpa using h2) hk
def zeF (N : List Str) (vs : List V) : St := vs.map some ++ List.replicate (N.length - vs.length) none
def zkz (CX : CXT) (P : Program) (w : World) (K : PySem.W.Frag) (mg : Str -> Option Value) (base : Heap) (N : List Str) (qual : Str) (scope : Scope) (f : Addr) (cd : Value) (A : Around) (outer : List Env) (s : Shared) (H : Hp) (E : XK) : Cx where
 prog := P
 w := w
 K := K
 mg := mg
 base := base
 A := A.deeper (envOfC qual scope s.heap.objs.size f cd)
 N := N
 s₀ := s
 H₀ := H
 env := envOfC qual scope s.heap.objs.size f cd
 outer := outer
 stack := envOfC qual scope s.heap.objs.size f cd :: outer
 ex := []
 calm := true
 fn := fun _ => true
 pn := []
 xe := fun e s' => wpAny (model P w) (A.deeper (envOfC qual scope s.heap.objs.size f cd)) (leaving (envOfC qual scope s.heap.objs.size f cd) e) (fun _ s'' => CX outer H s E e s'') (fun e' s'' => CX outer H s E e' s'') s'
theorem zkB {sc : Scope} {n : Nat} {x : Str} (h : sc.names.lookup x = some .cell) : ∃ c, (cellsFrom n sc.names []).lookup x = some c := by
 have q := PySem.W.cellsFrom_some sc.names n [] (.inl h)
 exact Option.isSome_iff_exists.mp q
theorem zmd {CX : CXT} {P : Program} {w : World} {K : PySem.W.Frag} {mg : Str -> Option Value} {base : Heap} {N ps : List Str} {qual : Str} {scope : Scope} {f : Addr} {cd : Value} {A : Around} {outer : List Env} {s s1 : Shared} {H : Hp} {E : XK} {us : List Value} {vs : List V}
  (S : FnScope N ps scope) (hd : A.handled = none) (e0 : Env0 P w K mg base A outer s H) (hl : vs.length = ps.length) (r : zbX vs us)
  (x : InCallC s s.heap.objs.size (bindL (envOfC qual scope s.heap.objs.size f cd).kindOf (ps.zip us) fun _ => none) (cellsFrom (s.heap.objs.size + 1) scope.names []) (bindC (envOfC qual scope s.heap.objs.size f cd).kindOf (ps.zip us) fun _ => none) s1) :
  Inv (zkz CX P w K mg base N qual scope f cd A outer s H E) [] (zeF N vs) H s1 := by
 have hpl : ps.length <= N.length := by have := congrArg List.length S.pre; rw [List.length_take] at this; omega
 obtain ⟨h1, tk, rfl, hk⟩ := x.done
 have noA : ∀ b : Addr, b ∉ (zkz CX P w K mg base N qual scope f cd A outer s H E).ex := fun b z => absurd (show b ∈ ([] : List Addr) from z) (by simp)
 refine ⟨⟨e0.mod, S.kind, rfl, rfl, qt _, fun y z c h1 h2 => ?_, fun y hy => ?_, fun y c _ h => ?_, fun _ => hd, Around.frames_deeper e0.frames, .inr ⟨rfl, rfl⟩, fun b z => absurd z (noA b), e0.bs, e0.bsz, fun b _ _ => noA b, fun b z => absurd z (noA b), e0.funs, e0.frf⟩,
  rfl, e0.bare, Un.kept hk, ⟨_, x.toInCall.ns, fun i y v h1 h2 h3 => ?_⟩, fun y c h => ⟨_, x.cell y c h⟩, e0.hok.fresh (qt _), fun y c h => ?_, fun p hp => absurd (show p ∈ ([] : List (Addr × Obj)) from hp) (by simp), e0.hok.kept hk, ?_⟩
 ·exact name_of_addr x.apart (PySem.mem_of_lookup h1) (PySem.mem_of_lookup h2)
 ·have hy : scope.names.lookup y = some .cell \/ scope.names.lookup y = some .free := hy
  rcases hy with hy | hy
  ·exact zkB hy
  ·exact absurd rfl (S.nofree _ (PySem.mem_of_lookup hy))
 ·exact Nat.le_of_lt (x.above y c (PySem.mem_of_lookup h))
 ·have hi : i < vs.length := by
   unfold zeF at h2
   by_cases hi : i < vs.length
   ·exact hi
   ·rw [List.getElem?_append_right (by simpa using hi)] at h2
    rw [List.getElem?_replicate] at h2
    split at h2 <;> cases h2
  have ha : vs[i]? = some v := by
   unfold zeF at h2
   rw [qv (by simpa using hi), qj] at h2
   cases e : vs[i]? with
   | none => rw [e] at h2; cases h2
   | some a => rw [e] at h2; cases h2; rfl
  obtain ⟨u, hu, rv⟩ := r.get ha
  have hp : ps[i]? = some y := by
   rw [← S.pre, List.getElem?_take_of_lt (by omega)]; exact h1
  have ndP : ps.Nodup := by rw [← S.pre]; exact S.nd.sublist (List.take_sublist _ _)
  refine ⟨u, rv, ?_⟩
  rcases S.par y (List.mem_of_getElem? hp) with k | k
  ·exact .inl ⟨k, zjd ndP hp hu k⟩
  ·obtain ⟨c, e⟩ := zkB (n := s.heap.objs.size + 1) k
   refine .inr ⟨.inl k, c, e, ?_⟩
   have q := x.cell y c e
   rw [zjf ndP hp hu (by show scope.names.lookup y ≠ _; rw [k]; decide)] at q
   exact q
 ·exact e0.hok.fresh (Nat.le_of_lt (x.above y c (PySem.mem_of_lookup h)))
 ·unfold zeF
  show _ = N.length
  rw [qi, qe, List.length_replicate]
  omega
theorem ztd {CX : CXT} {P : Program} {w : World} {K : PySem.W.Frag} {mg : Str -> Option Value} {base : Heap} {k : Nat} {f : Addr} {name qual : Str} {params : Arguments} {body : List Stmt} {scope : Scope} {dV kV doc pm cdv ct oc : Value} {an od : Option Addr}
  {osl : Array (Option Value)} {N ps : List Str} {sp : Sp} (lk : K.lookup f = some ⟨oc, od, .func (PySem.W.fnOf name qual params body scope dV kV doc pm an cdv ct), osl⟩) (hcd : PySem.W.codeIn K cdv qual = true) (S : FnScope N ps scope)
  (len : ∀ vs H Q E, sp vs H Q E -> vs.length = ps.length)
  (hbody : ∀ (A : Around) (outer : List Env) (s : Shared) (H : Hp) (vs : List V) (Q : VK) (E : XK), Room k (A.deeper (envOfC qual scope s.heap.objs.size f cdv)) -> sp vs H Q E ->
   ∃ t, PSs (zkz CX P w K mg base N qual scope f cdv A outer s H E) body t /\ t { nx := fun _ H' => Q .non H', rt := Q } (zeF N vs) H) :
  FnOk P w K mg base CX (k + 1) f (PySem.W.fnOf name qual params body scope dV kV doc pm an cdv ct) ps sp := by
 refine ⟨len, fun A outer s H args us vs Q E hr e0 hb r hsp => ?_⟩
 have hl := len _ _ _ _ hsp
 have KX : K.In s.heap := e0.mod.kin.keeps fun b o e => (e0.bs b o e).1
 have lim : s.heap.NoLimit := e0.mod.nolimit.keeps fun b o e => (e0.bs b o e).1
 have hkind : ∀ y ∈ ps.zip us, scope.names.lookup y.1 = some .local \/ (scope.names.lookup y.1 = some .cell /\ ((cellsFrom (s.heap.objs.size + 1) scope.names []).lookup y.1).isSome = true) := fun ⟨n, v⟩ hy => by
  rcases S.par n (List.of_mem_zip hy).1 with q | q
  ·exact .inl q
  ·exact .inr ⟨q, PySem.W.cellsFrom_some _ _ _ (.inl q)⟩
 refine codeAny_call_function hr.depth (KX _ _ lk) rfl S.co S.gen rfl (PySem.W.codeRec_of KX hcd) (hb _ _ _ _ ?_)
 refine wpAny_newFunctionEnv_cells S.kind hkind fun env he s1 x => ?_
 subst he
 refine ⟨lim.keeps x.toInCall.keep, codeAny_func ?_⟩
 obtain ⟨t, ht, hq⟩ := hbody A outer s H vs Q E (hr.deeper _) hsp
 have I : Inv (zkz CX P w K mg base N qual scope f cdv A outer s H E) [] (zeF N vs) H s1 := zmd S hr.hd e0 hl r x
 refine wpAny_mono (ht [] s1 (zeF N vs) H _ I hq) (fun fl s' hs => ?_) fun e s' hs => hs
 have fin : ∀ {σ' : St} {H' : Hp} {v : V} {u : Value}, Inv (zkz CX P w K mg base N qual scope f cdv A outer s H E) [] σ' H' s' -> zco v u -> Q v H' -> CE outer P w H s Q u s' :=
  fun {σ' H' v u} J rv q => ⟨v, H', J.os, J.bare, J.base, J.hok, rv, q⟩
 cases fl with
 | ret u =>
  obtain ⟨v, σ', H', J, rv, q⟩ := hs
  exact fin J rv q
 | next =>
  obtain ⟨σ', H', J, q⟩ := hs
  exact fin (v := V.non) (u := Value.none) J rfl q
 | brk =>
  obtain ⟨_, _, _, q⟩ := hs
  exact False.elim q
 | cont =>
  obtain ⟨_, _, _, q⟩ := hs
  exact False.elim q
end L2
namespace L2
open PySem PySem.Spec PyProof.Rows
section
variable {X : Cx} {x : Str} {p pos : Pos} {e : Expr} {es : List Expr} {t : TA} {id T : String} {r : List V -> Hp -> VK -> Prop}
def tCB (r : List V -> Hp -> VK -> Prop) (t : TA) : TE := fun σ H Q => t σ H fun vs H1 => r vs H1 Q
theorem zkc (hc : zez X (.builtin id) r) (hg : Gl X x) (hm : X.mg x = none) (hv : bootBuiltins x = some (.builtin id)) (ha : PA X (e :: es) t) (hn : x ≠ "__name__" := by decide) (hdb : (x == ("__debug__" : Str)) = false := by decide)
  (he : starEach (e :: es) X.env = (false, eval e X.env) :: starEach es X.env := by rfl) (hpl : (backTo pos (starEach es X.env)).any (·.1) = false := by rfl) : PE X (.Call (.Name x p) (e :: es) [] pos) (tCB r t) := by
 intro pins s σ H Q I h
 refine wpAny_Call_Name_kw (zgg I hg hm hv ?_ hn hdb)
 exact PyProof.Rows.callWith_builtin1 (thn (ha pos pins s σ H _ I h) fun us s1 ⟨vs, H1, I1, r1, q1⟩ => hc pins s1 σ H1 vs us Q I1 r1 q1) he hpl
theorem zf5 (hc : zez X (.type T) r) (hg : Gl X x) (hm : X.mg x = none) (hv : bootBuiltins x = some (.type T)) (ha : PA X (e :: es) t) (hn : x ≠ "__name__" := by decide) (hdb : (x == ("__debug__" : Str)) = false := by decide)
  (he : starEach (e :: es) X.env = (false, eval e X.env) :: starEach es X.env := by rfl) (hpl : (backTo pos (starEach es X.env)).any (·.1) = false := by rfl) : PE X (.Call (.Name x p) (e :: es) [] pos) (tCB r t) := by
 intro pins s σ H Q I h
 refine wpAny_Call_Name_kw (zgg I hg hm hv ?_ hn hdb)
 exact PyProof.Rows.callWith_type1 (thn (ha pos pins s σ H _ I h) fun us s1 ⟨vs, H1, I1, r1, q1⟩ => hc pins s1 σ H1 vs us Q I1 r1 q1) he hpl
end
end L2
end
section
namespace HT
open PySem PyProof.Rows
section
open PySem.SeqAt
open PySem.AutoSeq1 (wpAny_loadPart')
open PySem.MeetsSeq PySem.MeetsSeq2 PySem.MeetsSeq3
end
section
variable {prog : Program} {w : World} {A : Around} {E : Value -> Shared -> Prop} {s : Shared}
def sIx (n d : Nat) : Option Int -> Nat
 | none => d
 | some v => if v < 0 then (v + (n : Int)).toNat else min v.toNat n
theorem zq4 (n d : Nat) (hd : d <= n) (o : Option Int) : sIx n d o <= n := by
 cases o with
 | none => exact hd
 | some v =>
  show (if v < 0 then (v + (n : Int)).toNat else min v.toNat n) <= n
  by_cases hv : v < 0
  ·rw [if_pos hv]; omega
  ·rw [if_neg hv]; exact Nat.min_le_right _ _
theorem zmL (v : Int) (n d : Nat) : (if v < 0 then max (v + (n : Int)) 0 else min v (n : Int)) = ((sIx n d (some v) : Nat) : Int) := by
 show (if v < 0 then max (v + (n : Int)) 0 else min v (n : Int)) = (((if v < 0 then (v + (n : Int)).toNat else min v.toNat n) : Nat) : Int)
 by_cases hv : v < 0
 ·simp only [if_pos hv]; omega
 ·simp only [if_neg hv]; omega
theorem zla (lo hi : Option Int) (n : Nat) : Builtin.Slice.sliceAdjust lo hi 1 (n : Int) = (((sIx n 0 lo : Nat) : Int), ((sIx n n hi : Nat) : Int)) := by
 have h1 : ¬ ((1 : Int) < 0) := by omega
 unfold Builtin.Slice.sliceAdjust
 simp only [h1, if_false]
 refine Prod.ext ?_ ?_
 ·cases lo with
  | none => rfl
  | some v => exact zmL v n 0
 ·cases hi with
  | none => rfl
  | some v => exact zmL v n n
theorem zkQ (i j : Nat) : Builtin.Slice.slicePlaces (i : Int) (j : Int) 1 = j - i := by
 unfold Builtin.Slice.slicePlaces
 have h1 : (1 : Int) > 0 := by omega
 simp only [h1, if_true, Int.ediv_one]
 split <;> omega
theorem zg9 {v : Value} {o : Option Int} {Q : Option Int -> Shared -> Prop} (p : IsPart v o) (h : Q o s) : wpAny (model prog w) A (Builtin.Slice.slicePartIndex v) Q E s := by
 cases p with
 | none => exact slicePart_none h
 | int i t => exact slicePart_int h
theorem zfI {sl : Addr} {vl vu : Value} {lo hi : Option Int} {n : Nat} {Q : Int × Int × Nat -> Shared -> Prop} (hs : s.heap.IsSliceOf sl vl vu .none) (pl : IsPart vl lo) (pu : IsPart vu hi)
  (h : Q (((sIx n 0 lo : Nat) : Int), 1, sIx n n hi - sIx n 0 lo) s) : wpAny (model prog w) A (Builtin.Slice.sliceApplied (.ref sl) (pure (n : Int))) Q E s := by
 obtain ⟨os, hos, hcs, hds⟩ := id hs
 unfold Builtin.Slice.sliceApplied Builtin.Slice.sliceFields
 refine qu (qu (wpAny_field hos hds (x := vl) rfl (qu (wpAny_field hos hds (x := vu) rfl (qu (wpAny_field hos hds (x := .none) rfl (wpAny_pure ?_)))))))
 refine qu (slicePart_none ?_)
 show wpAny _ _ (if ((1 : Int) == 0) = true then _ else _) _ _ s
 rw [if_neg (by decide)]
 refine qu (zg9 pl (qu (zg9 pu (qu (wpAny_pure ?_)))))
 show wpAny _ _ (match Builtin.Slice.sliceAdjust lo hi 1 (n : Int) with | (lo, hi) => pure (lo, (1 : Int), Builtin.Slice.slicePlaces lo hi 1)) _ _ s
 rw [zla lo hi n]
 show wpAny _ _ (pure (((sIx n 0 lo : Nat) : Int), (1 : Int), Builtin.Slice.slicePlaces ((sIx n 0 lo : Nat) : Int) ((sIx n n hi : Nat) : Int) 1)) _ _ s
 rw [zkQ]
 exact wpAny_pure h
theorem znw (xs : Array Value) (i k : Nat) : ((List.range k).filterMap fun (m : Nat) => xs[((i : Int) + (m : Int) * 1).toNat]?).toArray = ((xs.toList.drop i).take k).toArray := by
 have e : (fun (m : Nat) => xs[((i : Int) + (m : Int) * 1).toNat]?) = fun m => xs[i + m]? := by
  funext m
  have : ((i : Int) + (m : Int) * 1).toNat = i + m := by omega
  rw [this]
 rw [e]
 have := pick_run xs i k
 rw [List.filterMap_map] at this
 have e2 : ((fun x => xs[x]?) ∘ fun x => i + x) = fun m => xs[i + m]? := rfl
 rw [e2] at this
 rw [this]
theorem getItem_tuple_cut {t sl : Addr} {items : Array Value} {vl vu : Value} {lo hi : Option Int} {Q : Value -> Shared -> Prop} (ht : IsTup s.heap t items) (hs : s.heap.IsSliceOf sl vl vu .none) (pl : IsPart vl lo) (pu : IsPart vu hi)
  (hw : ¬ (sIx items.size 0 lo = 0 /\ sIx items.size items.size hi = items.size))
  (h : Q (.ref s.heap.objs.size) { s with heap := s.heap.push { cls := .type "tuple", data := .seq ((items.toList.drop (sIx items.size 0 lo)).take (sIx items.size items.size hi - sIx items.size 0 lo)).toArray } })
  (hsz : items.size <= sizeLine) : wpAny (model prog w) A (getItem (.ref t) (.ref sl)) Q E s := by
 have htake : sizeOk (.seq ((items.toList.drop (sIx items.size 0 lo)).take (sIx items.size items.size hi - sIx items.size 0 lo)).toArray) := by
  show ((items.toList.drop (sIx items.size 0 lo)).take (sIx items.size items.size hi - sIx items.size 0 lo)).toArray.size <= sizeLine
  rw [List.size_toArray, List.length_take, List.length_drop, Array.length_toList]
  omega
 have hj : sIx items.size items.size hi <= items.size := zq4 _ _ (qt _) hi
 obtain ⟨os, hos, hcs, hds⟩ := id hs
 have hTs : s.TypeIs (.ref sl) "slice" := ⟨os, hos, hcs⟩
 unfold getItem
 try with_reducible refine wpAny_holding ?_
 first | refine qu (wpAny_pure ?_) | skip
 refine qu (wpAny_sequenceKey ht.typeIs (by decide) ?_)
 refine qu (wpAny_callSpecial?_slot (name := Str.ofString "__getitem__") ht.typeIs PyProof.Rows.slot_tuple_getitem
  (wpAny_call_entry PyProof.Rows.slot_tuple_getitem ht.typeIs entry_tuple_getitem ?_ (args_tuple_getitem _ _)))
 show wpAny _ _ (Builtin.Tuple.tupleItemsOf (.ref t) >>= _) _ _ s
 refine qu (tupleItemsOf_ ht ?_)
 refine qu (wpAny_typeOf hTs ?_)
 rw [if_pos (by decide)]
 refine qu (zfI hs pl pu ?_)
 have hno : ¬ ((((sIx items.size 0 lo : Nat) : Int) == 0 && (1 : Int) == 1 && (sIx items.size items.size hi - sIx items.size 0 lo) == items.size) = true) := by
  intro q
  rw [Bool.and_eq_true, Bool.and_eq_true] at q
  have q1 : ((sIx items.size 0 lo : Nat) : Int) = 0 := eq_of_beq q.1.1
  have q2 : sIx items.size items.size hi - sIx items.size 0 lo = items.size := eq_of_beq q.2
  exact hw ⟨by omega, by omega⟩
 show wpAny _ _ (if (((sIx items.size 0 lo : Nat) : Int) == 0 && (1 : Int) == 1 && (sIx items.size items.size hi - sIx items.size 0 lo) == items.size) = true then _ else _) _ _ s
 rw [if_neg hno, znw]
 first
  | exact qu (m := Builtin.Tuple.tupleExact _) (wpAny_newObj_type (wpAny_pure ⟨_, rfl, wpAny_pure h⟩) htake)
  | exact qu (m := Builtin.Tuple.tupleExact _) (wpAny_newObj_type (qu (wpAny_pure (wpAny_pure ⟨_, rfl, wpAny_pure h⟩))) htake)
  | exact qu (qu (m := Builtin.Tuple.tupleExact _) (wpAny_newObj_type (wpAny_pure (wpAny_pure ⟨_, rfl, wpAny_pure h⟩)) htake))
  | exact qu (qu (m := Builtin.Tuple.tupleExact _) (wpAny_newObj_type (wpAny_pure ⟨_, rfl, wpAny_pure h⟩) htake))
end
end HT
namespace L2
open PySem PySem.Spec PyProof.Rows
abbrev TO := St -> Hp -> (Option Int -> Hp -> Prop) -> Prop
def PO (X : Cx) (e : Option Expr) (t : TO) : Prop :=
 ∀ (pins : List (Addr × Obj)) (s : Shared) (σ : St) (H : Hp) (Q : Option Int -> Hp -> Prop), Inv X pins σ H s -> t σ H Q ->
  wpAny (model X.prog X.w) X.A (evalPart e X.env) (fun u s' => ∃ o H', Inv X pins σ H' s' /\ IsPart u o /\ Q o H') X.xe s
def zoY : TO := fun _ H Q => Q none H
def zsC (t : TE) : TO := fun σ H Q => t σ H fun x H1 => ∃ i, x = .int i /\ Q (some i) H1
section
variable {X : Cx} {e : Expr} {te : TE} {lo hi : Option Expr} {tl th : TO} {pos p2 : Pos}
theorem zpr : PO X none zoY := by
 intro pins s σ H Q I h
 rw [evalPart_none]
 exact wpAny_pure ⟨none, H, I, .none, h⟩
theorem zpq (h : PE X e te) : PO X (some e) (zsC te) := by
 intro pins s σ H Q I hw
 rw [evalPart_some]
 refine thn (h pins s σ H _ I hw) fun u s1 ⟨x, H1, I1, r1, q1⟩ => ?_
 obtain ⟨i, rfl, q⟩ := q1
 obtain ⟨t, rfl⟩ := r1
 exact ⟨some i, H1, I1, .int i t, q⟩
def SlR (X : Cx) (r : V -> Option Int -> Option Int -> Hp -> VK -> Prop) : Prop :=
 ∀ (pins : List (Addr × Obj)) (s : Shared) (σ : St) (H : Hp) (x : V) (v vl vu : Value) (lo hi : Option Int) (sl : Addr) (Q : VK), Inv X pins σ H s -> zco x v -> s.heap.IsSliceOf sl vl vu .none -> IsPart vl lo -> IsPart vu hi -> r x lo hi H Q ->
  ∃ T id, typeLookup (.type T) "__getitem__" = pure (some (.builtin id)) /\ s.TypeIs v T /\ wpAny (model X.prog X.w) X.A (getItem v (.ref sl)) (EP X pins σ Q) X.xe s
theorem SlR.or {r r' : V -> Option Int -> Option Int -> Hp -> VK -> Prop} (h : SlR X r) (h' : SlR X r') : SlR X (fun x lo hi H Q => r x lo hi H Q \/ r' x lo hi H Q) := by
 intro pins s σ H x v vl vu lo hi sl Q I rx hs pl pu q
 rcases q with q | q
 ·exact h pins s σ H x v vl vu lo hi sl Q I rx hs pl pu q
 ·exact h' pins s σ H x v vl vu lo hi sl Q I rx hs pl pu q
def tSl (r : V -> Option Int -> Option Int -> Hp -> VK -> Prop) (te : TE) (tl th : TO) : TE := fun σ H Q => te σ H fun x H1 => tl σ H1 fun l H2 => th σ H2 fun u H3 => r x l u H3 Q
theorem zny {r : V -> Option Int -> Option Int -> Hp -> VK -> Prop} (hr : SlR X r) (he : PE X e te) (hl : PO X lo tl) (hu : PO X hi th) : PE X (.Subscript e (.Slice lo hi none p2) pos) (tSl r te tl th) := by
 intro pins s σ H Q I h
 refine Subscript_ (thn (he pins s σ H _ I h) fun v s1 ⟨x, H1, I1, r1, q1⟩ => ?_)
 refine wpAny_Slice (thn (hl pins s1 σ H1 _ I1 q1) fun vl s2 ⟨l, H2, I2, pl, q2⟩ => thn (hu pins s2 σ H2 _ I2 q2) fun vu s3 ⟨u, H3, I3, pu, q3⟩ => ?_)
 rw [evalPart_none]
 refine wpAny_pure ?_
 have I4 : Inv X pins σ H3 { s3 with heap := s3.heap.push { cls := .type "slice", data := .fields #[vl, vu, .none] } } := I3.kept (t' := s3.toks) fun b ob q => qq _ q
 obtain ⟨T, id, hT, ht, hg⟩ := hr pins { s3 with heap := s3.heap.push { cls := .type "slice", data := .fields #[vl, vu, .none] } } σ H3 x v vl vu l u s3.heap.objs.size Q I4 r1 (Heap.IsSliceOf.new ..) pl pu q3
 show wpAny (model X.prog X.w) X.A (subscriptTail e (.Slice lo hi none p2) v (.ref s3.heap.objs.size)) (EP X pins σ Q) X.xe { s3 with heap := s3.heap.push { cls := .type "slice", data := .fields #[vl, vu, .none] } }
 exact tail_any (ops := [.ref s3.heap.objs.size, v]) ht hT hg (by with_unfolding_all rfl)
def zoN (xs : List V) (lo hi : Option Int) : List V := (xs.drop (HT.sIx xs.length 0 lo)).take (HT.sIx xs.length xs.length hi - HT.sIx xs.length 0 lo)
theorem zgt (xs : List V) (lo hi : Option Int) : (zoN xs lo hi).length <= xs.length := by
 unfold zoN
 rw [List.length_take, List.length_drop]
 omega
def ztY (K : PySem.W.Frag) : V -> Option Int -> Option Int -> Hp -> VK -> Prop := fun x lo hi H Q => ∃ a xs, x = .ref a /\ SqT K H a xs /\
 ¬ (HT.sIx xs.length 0 lo = 0 /\ HT.sIx xs.length xs.length hi = xs.length) /\ ∀ p, H p = none -> Q (.ref p) (upd H p (.tup (zoN xs lo hi)))
theorem zq1 : SlR X (ztY X.K) := by
 intro pins s σ H x v vl vu lo hi sl Q I rx hs pl pu h
 obtain ⟨a, xs, rfl, hx, hw, q⟩ := h
 cases rx
 obtain ⟨its, r, ht, hz⟩ := I.tuple hx
 have hlen : its.toArray.size = xs.length := by rw [List.size_toArray]; exact r.length.symm
 refine ⟨"tuple", _, PyProof.Rows.slot_tuple_getitem.lookup, ht.typeIs, ?_⟩
 refine HT.getItem_tuple_cut ht hs pl pu (by rw [hlen]; exact hw) ?_ (by rw [hlen]; exact hz)
 rw [hlen]
 refine ⟨.ref s.heap.objs.size, _, I.laid (t' := s.toks) (o := .tup (zoN xs lo hi)) (fun b ob q => qq _ q) (qt _) ?_, rfl, q _ (I.hok.fresh (qt _))⟩
 exact ⟨Nat.le_trans (zgt xs lo hi) hz, _, (r.drop (HT.sIx xs.length 0 lo)).take (HT.sIx xs.length xs.length hi - HT.sIx xs.length 0 lo), IsTup.new _ _⟩
end
end L2
namespace L2
open PySem PySem.Spec PyProof.Rows
def ixN (n : Nat) (i : Int) : Option Nat := if 0 <= i then (if i < n then some i.toNat else none) else if -(n : Int) <= i then some (i + n).toNat else none
def atI {α : Type} (xs : List α) (i : Int) : Option α := (ixN xs.length i).bind fun j => xs[j]?
theorem zp5 {n : Nat} {i : Int} {j : Nat} (h : ixN n i = some j) : seqIndex? i n = some j /\ j < n /\ -(n : Int) <= i /\ i < n := by
 unfold ixN at h
 by_cases h0 : 0 <= i
 ·rw [if_pos h0] at h
  by_cases h1 : i < n
  ·rw [if_pos h1] at h
   have e : i.toNat = j := Option.some.inj h
   exact ⟨by rw [seqIndex_of h0 h1, e], by omega, by omega, h1⟩
  ·rw [if_neg h1] at h; cases h
 ·rw [if_neg h0] at h
  by_cases h1 : -(n : Int) <= i
  ·rw [if_pos h1] at h
   have e : (i + n).toNat = j := Option.some.inj h
   exact ⟨by rw [seqIndex_neg (by omega) h1, e], by omega, h1, by omega⟩
  ·rw [if_neg h1] at h; cases h
theorem zjV {α : Type} {xs : List α} {i : Int} {v : α} (h : atI xs i = some v) : ∃ j, seqIndex? i xs.length = some j /\ xs[j]? = some v /\ j < xs.length /\ -(xs.length : Int) <= i /\ i < xs.length := by
 unfold atI at h
 cases e : ixN xs.length i with
 | none => rw [e] at h; cases h
 | some j =>
  rw [e] at h
  obtain ⟨h1, h2, h3, h4⟩ := zp5 e
  exact ⟨j, h1, h, h2, h3, h4⟩
theorem zdN {α : Type} {xs : List α} {j : Nat} {v : α} (h : xs[j]? = some v) : atI xs (j : Int) = some v := by
 have hj : j < xs.length := (List.getElem?_eq_some_iff.mp h).1
 have e : ixN xs.length (j : Int) = some j := by
  unfold ixN
  rw [if_pos (by omega), if_pos (by omega)]; simp
 unfold atI; rw [e]; exact h
def zm2 (b : Expr) : Prop := ∀ o i, subscripted b false o i = operate [o, i] (getItem o i)
def IxR (X : Cx) (r : R2) : Prop :=
 ∀ (value slice : Expr) (pins : List (Addr × Obj)) (s : Shared) (σ : St) (H : Hp) (x y : V) (v u : Value) (Q : VK), Inv X pins σ H s -> zco x v -> zco y u -> r x y H Q ->
  subscripted slice false v u = operate [v, u] (getItem v u) -> wpAny (model X.prog X.w) X.A (subscriptTail value slice v u) (EP X pins σ Q) X.xe s
def MtR (X : Cx) (id : String) (r : V -> List V -> Hp -> VK -> Prop) : Prop :=
 ∀ (pins : List (Addr × Obj)) (s : Shared) (σ : St) (H : Hp) (x : V) (xs : List V) (v : Value) (us : List Value) (Q : VK), Inv X pins σ H s -> zco x v -> zbX xs us -> r x xs H Q ->
  wpAny (model X.prog X.w) X.A (call (.builtin id) (v :: us)) (EP X pins σ Q) X.xe s
section
variable {X : Cx} {a b : Expr} {ta tb : TE} {pos : Pos}
theorem IxR.or {r r' : R2} (h : IxR X r) (h' : IxR X r') : IxR X (fun x y H Q => r x y H Q \/ r' x y H Q) := by
 intro value slice pins s σ H x y v u Q I rx ry q hs
 rcases q with q | q
 ·exact h value slice pins s σ H x y v u Q I rx ry q hs
 ·exact h' value slice pins s σ H x y v u Q I rx ry q hs
theorem zsU {r : R2} (hr : IxR X r) (ha : PE X a ta) (hb : PE X b tb) (hs : zm2 b) : PE X (.Subscript a b pos) (tOp r ta tb) := by
 intro pins s σ H Q I h
 exact Subscript_ (ztm ha hb I h fun v u s2 x y H2 I2 rx ry q => hr a b pins s2 σ H2 x y v u Q I2 rx ry q (hs _ _))
def ztC (K : PySem.W.Frag) : R2 := fun x y H Q => ∃ p xs i v, x = .ref p /\ y = .int i /\ SqL K H p xs /\ atI xs i = some v /\ Q v H
def ztA (K : PySem.W.Frag) : R2 := fun x y H Q => ∃ p xs i v, x = .ref p /\ y = .int i /\ SqT K H p xs /\ atI xs i = some v /\ Q v H
def ztB : R2 := fun x y H Q => ∃ z i c, x = .str z /\ y = .int i /\ z.length <= sizeLine /\ atI z.cps.toList i = some c /\ Q (.str ⟨#[c]⟩) H
theorem zp4 : IxR X (ztC X.K) := by
 intro value slice pins s σ H x y v u Q I rx ry h hs
 obtain ⟨p, xs, i, z, rfl, rfl, hq, he, q⟩ := h
 cases rx
 obtain ⟨t, rfl⟩ := ry
 obtain ⟨its, r, pl, hz⟩ := I.list hq
 obtain ⟨j, h1, h2, h3, h4, h5⟩ := zjV he
 obtain ⟨w, ew, rw'⟩ := r.get h2
 have hl := r.length
 have hn := ziQ
 have fin : EP X pins σ Q w s := ⟨z, H, I, rw', q⟩
 by_cases h0 : 0 <= i
 ·have hj : i.toNat = j := by
   rw [seqIndex_of h0 h5] at h1
   exact Option.some.inj h1
  exact item_listR pl.isList h0 (by omega) (by rw [hj]; simpa using ew) fin hs
 ·have hj : (i + (its.toArray.size : Int)).toNat = j := by
   rw [seqIndex_neg (by omega) h4] at h1
   rw [List.size_toArray, ← hl]
   exact Option.some.inj h1
  exact subscriptTail_builtinR (x := w) pl.isList.typeIs slot_list_getitem.lookup
   (wpAny_getItem_list_neg (Q := fun r s' => r = w /\ EP X pins σ Q r s') pl.isList (by omega) (by rw [List.size_toArray] <;> omega) (by omega) (by rw [hj]; simpa using ew) ⟨rfl, fin⟩) hs
theorem zrT : IxR X (ztA X.K) := by
 intro value slice pins s σ H x y v u Q I rx ry h hs
 obtain ⟨p, xs, i, z, rfl, rfl, hq, he, q⟩ := h
 cases rx
 obtain ⟨t, rfl⟩ := ry
 obtain ⟨its, r, pl, hz⟩ := I.tuple hq
 obtain ⟨j, h1, h2, h3, h4, h5⟩ := zjV he
 obtain ⟨w, ew, rw'⟩ := r.get h2
 have hl := r.length
 have hn := ziQ
 have fin : EP X pins σ Q w s := ⟨z, H, I, rw', q⟩
 exact subscriptTail_builtinR (x := w) pl.typeIs slot_tuple_getitem.lookup
  (getItem_tuple (j := j) (Q := fun r s' => r = w /\ EP X pins σ Q r s') pl (by omega) (by omega) (by rw [List.size_toArray, ← hl]; exact h1) (by simpa using ew) ⟨rfl, fin⟩) hs
theorem zrU : IxR X ztB := by
 intro value slice pins s σ H x y v u Q I rx ry h hs
 obtain ⟨z, i, c, rfl, rfl, hz, he, q⟩ := h
 obtain ⟨t, rfl⟩ := rx
 obtain ⟨t', rfl⟩ := ry
 obtain ⟨j, h1, h2, h3, h4, h5⟩ := zjV he
 have hl : z.cps.toList.length = z.length := by simp [Str.length]
 rw [hl] at h1 h4 h5
 have hn := ziQ
 exact tail_any (typeIs_str s z t) slot_str_getitem.lookup (getItem_str (c := c) (by
  have e1 : decide (i < -(2 ^ 63 : Int)) = false := decide_eq_false (by omega)
  have e2 : decide (i ≥ 2 ^ 63) = false := decide_eq_false (by omega)
  rw [e1, e2, Bool.or_false]) (by rw [h1]; simpa using h2) ⟨.str ⟨#[c]⟩, H, I.tok _, ⟨_, rfl⟩, q⟩) hs
def rIx (K : PySem.W.Frag) : R2 := fun x y H Q => ztC K x y H Q \/ ztA K x y H Q \/ ztB x y H Q
theorem zrV : IxR X (rIx X.K) := zp4.or (zrT.or zrU)
theorem Inv.lst {pins : List (Addr × Obj)} {σ : St} {H : Hp} {s : Shared} {p : Addr} {xs : List V} (I : Inv X pins σ H s) (h : H p = some (.lst xs)) :
  ∃ (its : List Value) (n : Nat), zbX xs its /\ s.heap.get? p = some { cls := .type "list", data := .seq its.toArray n } /\ xs.length <= sizeLine := by
 obtain ⟨z, its, n, r, e⟩ := I.hok p _ h
 exact ⟨its, n, r, e, z⟩
theorem ziu (lo hi : Option Int) (n : Nat) : (sliceBounds lo hi none n).1 = ((HT.sIx n 0 lo : Nat) : Int) /\ (sliceBounds lo hi none n).2.1 = ((HT.sIx n n hi : Nat) : Int) /\ (sliceBounds lo hi none n).2.2 = 1 := by
 refine ⟨?_, ?_, rfl⟩
 ·cases lo with
  | none => simp [sliceBounds, HT.sIx]
  | some i =>
   simp only [sliceBounds, HT.sIx, Option.getD_none, show (1 : Int) > 0 by decide, if_true]
   by_cases h : i < 0
   ·simp only [h, if_true] <;> omega
   ·simp only [h, if_false] <;> omega
 ·cases hi with
  | none => simp [sliceBounds, HT.sIx]
  | some i =>
   simp only [sliceBounds, HT.sIx, Option.getD_none, show (1 : Int) > 0 by decide, if_true]
   by_cases h : i < 0
   ·simp only [h, if_true] <;> omega
   ·simp only [h, if_false] <;> omega
theorem zhA (its : List Value) (lo hi : Option Int) : slicePick its.toArray lo hi none = ((its.drop (HT.sIx its.length 0 lo)).take (HT.sIx its.length its.length hi - HT.sIx its.length 0 lo)).toArray := by
 obtain ⟨h1, h2, h3⟩ := ziu lo hi its.toArray.size
 unfold slicePick
 rw [h1, h2, h3]
 simp only [sliceRange_one, pick_run, List.size_toArray] <;> rfl
def ztZ (K : PySem.W.Frag) : V -> Option Int -> Option Int -> Hp -> VK -> Prop := fun x lo hi H Q => ∃ a xs, x = .ref a /\ SqL K H a xs /\ ∀ p, H p = none -> Q (.ref p) (upd H p (.lst (zoN xs lo hi)))
theorem zo5 : SlR X (ztZ X.K) := by
 intro pins s σ H x v vl vu lo hi sl Q I rx hs pl pu h
 obtain ⟨a, xs, rfl, hx, q⟩ := h
 cases rx
 obtain ⟨its, r, ht, hz⟩ := I.list hx
 have hlen := r.length
 refine ⟨"list", _, slot_list_getitem.lookup, ht.isList.typeIs, ?_⟩
 refine wpAny_getItem_list_slice ht.isList hs pl pu .none (by simp) ?_ (by rw [List.size_toArray] <;> omega)
 rw [zhA, ← hlen]
 refine ⟨.ref s.heap.objs.size, _, I.laid (t' := s.toks) (o := .lst (zoN xs lo hi)) (fun b ob q => qq _ q) (qt _) ?_, rfl, q _ (I.hok.fresh (qt _))⟩
 exact ⟨Nat.le_trans (zgt xs lo hi) hz, _, 0, (r.drop (HT.sIx xs.length 0 lo)).take (HT.sIx xs.length xs.length hi - HT.sIx xs.length 0 lo), Heap.get?_push_size _ rfl⟩
theorem zi1 : zez X (.type "list") (fun xs H Q => ∃ p ys, xs = [.ref p] /\ (SqL X.K H p ys \/ SqT X.K H p ys) /\ ∀ l, H l = none -> Q (.ref l) (upd H l (.lst ys))) := by
 intro pins s σ H xs us Q I r h
 obtain ⟨p, ys, rfl, hq, q⟩ := h
 obtain ⟨u, rfl, rx⟩ := zeA r
 cases rx
 have fin : ∀ (its : List Value), zbX ys its -> ys.length <= sizeLine -> ∀ (h' : Heap) (c' : Nat), (∀ b o', s.heap.get? b = some o' -> h'.get? b = some o') ->
   h'.get? s.heap.objs.size = some { cls := .type "list", dict := none, data := .seq its.toArray c', slots := #[] } -> EP X pins σ Q (.ref s.heap.objs.size) { s with heap := h' } := fun its r' hz h' c' kp e =>
  ⟨.ref s.heap.objs.size, _, I.laid (t' := s.toks) kp (qt _) (show zcw X.prog X.w _ h' _ (.lst ys) from ⟨hz, its, c', r', e⟩), rfl, q _ (I.hok.fresh (qt _))⟩
 rcases hq with hq | hq
 ·obtain ⟨its, r', pl, hz⟩ := I.list hq
  have hlen := r'.length
  obtain ⟨o, ho, hc, n, hd⟩ := pl.isList
  exact call_list_seq p (.inl rfl) ho hc hd (fun h' c' kp e => fin its r' hz h' c' kp e) (by simp only [List.size_toArray] <;> omega)
 ·obtain ⟨its, r', pl, hz⟩ := I.tuple hq
  have hlen := r'.length
  obtain ⟨o, ho, hc, n, hd⟩ := pl
  exact call_list_seq p (.inr rfl) ho hc hd (fun h' c' kp e => fin its r' hz h' c' kp e) (by simp only [List.size_toArray] <;> omega)
theorem zh6 : zez X (.type "tuple") (fun xs H Q => ∃ p ys, xs = [.ref p] /\ ((SqL X.K H p ys /\ ∀ l, H l = none -> Q (.ref l) (upd H l (.tup ys))) \/ (SqT X.K H p ys /\ Q (.ref p) H))) := by
 intro pins s σ H xs us Q I r h
 obtain ⟨p, ys, rfl, h⟩ := h
 obtain ⟨u, rfl, rx⟩ := zeA r
 cases rx
 rcases h with ⟨hq, q⟩ | ⟨hq, q⟩
 ·obtain ⟨its, r', pl, hz⟩ := I.list hq
  have hlen := r'.length
  refine call_tuple_list pl.isList (fun h' kp => ?_) (by simp only [List.size_toArray] <;> omega)
  have I1 : Inv X pins σ H { s with heap := h' } := I.kept (t' := s.toks) kp
  have I2 : Inv X pins σ (upd H h'.objs.size (.tup ys)) { s with heap := h'.push { cls := .type "tuple", data := .seq its.toArray } } :=
   I1.laid (t' := s.toks) (fun b o e => qq _ e) (qt _) (show zcw X.prog X.w _ _ _ (.tup ys) from ⟨hz, its, r', IsTup.new _ _⟩)
  exact ⟨.ref h'.objs.size, _, I2, rfl, q _ (I1.hok.fresh (qt _))⟩
 ·obtain ⟨its, r', pl, hz⟩ := I.tuple hq
  exact call_tuple_same pl ⟨.ref p, H, I, rfl, q⟩
def tyV (K : PySem.W.Frag) (T : String) (x : V) (H : Hp) : Prop := match x with
 | .str _ => T = "str"
 | .int _ => T = "int"
 | .ref p => (T = "list" /\ ∃ xs, SqL K H p xs) \/ (T = "tuple" /\ ∃ o, K.lookup p = some o /\ o.cls = .type "tuple" /\ o.dict = none) \/
   (T = "dict" /\ ((∃ kvs, H p = some (.dK kvs)) \/ ∃ kvs, H p = some (.dT kvs))) \/ (T = "set" /\ ∃ S n, H p = some (.set S n))
 | _ => False
theorem zqU {pins : List (Addr × Obj)} {σ : St} {H : Hp} {s : Shared} {T : String} {x : V} {v : Value} (I : Inv X pins σ H s) (r : zco x v) (ty : tyV X.K T x H) :
  s.TypeIs v T /\ ∀ a, v = .ref a -> ∃ ob, s.heap.get? a = some ob /\ ob.dict = none := by
 cases x with
 | str z =>
  obtain ⟨t, rfl⟩ := r
  cases (show T = "str" from ty)
  exact ⟨typeIs_str s z t, fun _ e => nomatch e⟩
 | int i =>
  obtain ⟨t, rfl⟩ := r
  cases (show T = "int" from ty)
  exact ⟨typeIs_int s i t, fun _ e => nomatch e⟩
 | ref p =>
  cases r
  rcases ty with ⟨rfl, xs, hq⟩ | ⟨rfl, o, hk, hc, hd⟩ | ⟨rfl, hk⟩ | ⟨rfl, S, n, hk⟩
  ·obtain ⟨its, _, pl, _⟩ := I.list hq
   refine ⟨pl.isList.typeIs, fun a e => ?_⟩
   cases e
   obtain ⟨o, n, e, c, hd, _⟩ := pl
   exact ⟨o, e, hd⟩
  ·refine ⟨⟨o, I.kIn p o hk, hc⟩, fun a e => ?_⟩
   cases e
   exact ⟨o, I.kIn _ o hk, hd⟩
  ·have z : ∃ o, s.heap.get? p = some o /\ o.ExactDict := by
    rcases hk with ⟨kvs, hk⟩ | ⟨kvs, hk⟩
    ·obtain ⟨_, _, _, _, o, _, _, e, ex, _⟩ := I.hok p _ hk
     exact ⟨o, e, ex⟩
    ·obtain ⟨_, _, _, _, o, _, _, e, ex, _⟩ := I.hok p _ hk
     exact ⟨o, e, ex⟩
   obtain ⟨o, e, ex⟩ := z
   refine ⟨⟨o, e, ex.1⟩, fun a e2 => ?_⟩
   cases e2
   exact ⟨o, e, ex.2.1⟩
  ·obtain ⟨o, _, _, _, e, ex, _⟩ := I.hok p _ hk
   refine ⟨⟨o, e, ex.1⟩, fun a e2 => ?_⟩
   cases e2
   exact ⟨o, e, ex.2.1⟩
 | _ => exact False.elim ty
def tBM (K : PySem.W.Frag) (T : String) (r : V -> List V -> Hp -> VK -> Prop) (to : TE) (t : TA) : TE := fun σ H Q => to σ H fun x H1 => tyV K T x H1 /\ t σ H1 fun xs H2 => r x xs H2 Q
variable {o e : Expr} {es : List Expr} {to : TE} {t : TA} {name : Str} {apos cpos : Pos} {T id : String} {r : V -> List V -> Hp -> VK -> Prop}
theorem zpC (pa : PlainAttrs T) (slot : Slot T name id) (hty : typeOf (.builtin id) = pure (.type "method_descriptor")) (hm : MtR X id r) (ho : PE X o to) (ha : PA X (e :: es) t)
  (hbase : attributeBase o name X.env (eval o X.env) = eval o X.env := by rfl)
  (hfew : ((backTo cpos (starEach (e :: es) X.env)).all (fun x => !x.1) && (backToKw cpos (keywordEach [] X.env)).all (fun x => x.1.isSome)
   && decide ((e :: es).length + ([] : List Keyword).length + (if ([] : List Keyword).isEmpty then 0 else 1) < 30)) = true := by rfl)
  (hline : (apos.endLine == cpos.line) = true := by rfl) (hs : starEach (e :: es) X.env = (false, eval e X.env) :: starEach es X.env := by rfl) (hplain : (backTo cpos (starEach es X.env)).any (·.1) = false := by rfl) :
  PE X (.Call (.Attribute o name apos) (e :: es) [] cpos) (tBM X.K T r to t) := by
 intro pins s σ H Q I h
 refine wpAny_Call_method_late hbase hfew hline rfl (thn (ho pins s σ H _ I h) fun v s1 ⟨x, H1, I1, r1, ty, q1⟩ => ?_)
 obtain ⟨h1, h2⟩ := zqU I1 r1 ty
 refine ⟨T, id, pa, slot, hty, h1, h2, ?_⟩
 have hA := ha cpos pins s1 σ H1 _ I1 q1
 rw [hs] at hA ⊢
 refine Calls.callWith_builtin (by show (false || (backTo cpos (starEach es X.env)).any (·.1)) = false; rw [hplain] <;> rfl) (Calls.evalArgs_plain ?_)
 exact thn hA fun us s2 ⟨vs, H2, I2, r2, q2⟩ => hm pins s2 σ H2 x vs v us Q I2 r1 r2 q2
end
end L2
namespace L2
open PySem PySem.Spec PyProof.Rows
def MtM (X : Cx) (id : String) (r : V -> List V -> Hp -> VK -> Prop) : Prop :=
 ∀ (pins : List (Addr × Obj)) (s : Shared) (σ : St) (H : Hp) (x : V) (xs : List V) (v : Value) (us : List Value) (Q : VK), Inv X pins σ H s -> zco x v -> zbX xs us -> r x xs H Q ->
  wpAny (model X.prog X.w) X.A (call (.builtin id) (v :: us)) (EP X pins σ Q) X.xe s
theorem zbX.one : ∀ {x : V} {us : List Value}, zbX [x] us -> ∃ u, us = [u] /\ zco x u
 | _, _, .cons r .nil => ⟨_, rfl, r⟩
theorem zbX.rep {xs : List V} {us : List Value} (h : zbX xs us) : ∀ k : Nat, zbX (List.replicate k xs).flatten (List.replicate k us).flatten
 | 0 => .nil
 | k + 1 => by
  rw [List.replicate_succ, List.replicate_succ, List.flatten_cons, List.flatten_cons]
  exact zbX.append h (zbX.rep h k)
theorem ziX (its : List Value) : ∀ (k : Nat) (acc : List Value),
  List.foldl (fun x1 x2 => x1 ++ x2) acc.toArray (List.replicate k its.toArray) = (acc ++ (List.replicate k its).flatten).toArray
 | 0, acc => by simp
 | k + 1, acc => by
  have e : acc.toArray ++ its.toArray = (acc ++ its).toArray := by simp
  have e2 : (acc ++ its) ++ (List.replicate k its).flatten = acc ++ (List.replicate (k + 1) its).flatten := by
   rw [List.replicate_succ, List.flatten_cons, List.append_assoc]
  rw [← e2, ← ziX its k (acc ++ its), ← e, List.replicate_succ, List.foldl_cons]
section
variable {X : Cx} {pins : List (Addr × Obj)} {σ : St} {H : Hp} {s : Shared} {l b : Addr} {xs ys zs : List V}
theorem Inv.lset {its its' : List Value} {n : Nat} {f : Array Value -> Array Value} {t' : Nat} (I : Inv X pins σ H s) (hH : H l = some (.lst xs))
  (e : s.heap.get? l = some { cls := .type "list", data := .seq its.toArray n }) (hf : f its.toArray = its'.toArray) (hv : zbX ys its') (hz : ys.length <= sizeLine) :
  Inv X pins σ (upd H l (.lst ys)) { s with heap := s.heap.update l (Obj.mapSeq f), toks := t' } := by
 have q := PySem.IsL.update e f
 rw [hf] at q
 refine I.write (x := l) (e := l) (by rw [hH]; exact trivial) (.inl rfl) (fun b' u hb hu => (Heap.get?_update_other s.heap (Obj.mapSeq f) (Ne.symm hb)).trans hu) ⟨_, q⟩ ?_
 exact ⟨hz, its', _, hv, q⟩
theorem Inv.lnew {its : List Value} {t' : Nat} (I : Inv X pins σ H s) (hv : zbX ys its) (hz : ys.length <= sizeLine) :
  Inv X pins σ (upd H s.heap.objs.size (.lst ys)) { s with heap := s.heap.push { cls := .type "list", data := .seq its.toArray }, toks := t' } :=
 I.laid (fun _ _ q => qq _ q) (qt _) ⟨hz, its, 0, hv, Heap.get?_push_size _ rfl⟩
theorem Inv.fresh (I : Inv X pins σ H s) : H s.heap.objs.size = none := I.hok.fresh (qt _)
theorem Inv.lstM (I : Inv X pins σ H s) (hH : H l = some (.lst xs)) : xs.length <= sizeLine /\ ∃ (its : List Value) (n : Nat), zbX xs its /\ xs.length = its.length /\ s.heap.get? l = some { cls := .type "list", data := .seq its.toArray n } := by
 obtain ⟨z, its, n, r, e⟩ := I.hok l _ hH
 exact ⟨z, its, n, r, r.length, e⟩
theorem zkg {n : Nat} (h : n <= sizeLine) : Builtin.List.listTooLong n = false := by
 unfold Builtin.List.listTooLong
 exact decide_eq_false (by omega)
end
section
variable {X : Cx}
def zph : V -> List V -> Hp -> VK -> Prop := fun x vs H Q => ∃ l xs y, x = .ref l /\ vs = [y] /\ H l = some (.lst xs) /\ xs.length < sizeLine /\ Q .non (upd H l (.lst (xs ++ [y])))
theorem ziN : MtM X "list.append" zph := by
 intro pins s σ H x vs v us Q I rx rv h
 obtain ⟨l, xs, y, rfl, rfl, hH, hz, q⟩ := h
 cases rx
 obtain ⟨u, rfl, ru⟩ := rv.one
 obtain ⟨z, its, n, r, hl, e⟩ := I.lstM hH
 refine call_meets F.slot_list_append ⟨_, e, rfl⟩ F.entry_list_append (F.args_list_append_2 _ _) (PySem.list_append l its.toArray n u (by rw [List.size_toArray]; omega)) ⟨e, ?_⟩
 refine ⟨.non, _, I.lset (its' := its ++ [u]) hH e (by simp) (r.append (.cons ru .nil)) ?_, rfl, q⟩
 rw [qi, List.length_singleton]
 omega
def zpg : V -> List V -> Hp -> VK -> Prop := fun x vs H Q => ∃ l b xs zs, x = .ref l /\ vs = [.ref b] /\ H l = some (.lst xs) /\ H b = some (.lst zs) /\ xs.length + zs.length <= sizeLine /\ Q .non (upd H l (.lst (xs ++ zs)))
theorem zlQ : MtM X "list.extend" zpg := by
 intro pins s σ H x vs v us Q I rx rv h
 obtain ⟨l, b, xs, zs, rfl, rfl, hH, hB, hz, q⟩ := h
 cases rx
 obtain ⟨u, rfl, ru⟩ := rv.one
 cases ru
 obtain ⟨z, its, n, r, hl, e⟩ := I.lstM hH
 obtain ⟨z2, its2, n2, r2, hl2, e2⟩ := I.lstM hB
 have hsz : its.toArray.size + its2.toArray.size <= sizeLine := by rw [List.size_toArray, List.size_toArray]; omega
 have hlong : ¬ (!its.toArray.isEmpty && Builtin.List.listTooLong (its.toArray.size + its2.toArray.size)) = true := by
  rw [zkg hsz, Bool.and_false]
  exact qp
 refine call_meets F.slot_list_extend ⟨_, e, rfl⟩ F.entry_list_extend (F.args_list_extend_2 _ _)
  (AutoSeq1.list_extend_list_list_0 l its.toArray n b its2.toArray n2 hlong (by rw [List.size_toArray]; omega) (by omega)) ⟨e, e2, ?_⟩
 refine ⟨.non, _, I.lset (its' := its ++ its2) hH e (by simp) (r.append r2) ?_, rfl, q⟩
 rw [qi]
 omega
def zsO : R2 := fun x y H Q => ∃ l b xs zs, x = .ref l /\ y = .ref b /\ H l = some (.lst xs) /\ H b = some (.lst zs) /\ xs.length + zs.length <= sizeLine /\ ∀ p, H p = none -> Q (.ref p) (upd H p (.lst (xs ++ zs)))
theorem zrH : OpR X (binaryOp .Add) zsO := by
 intro pins s σ H x y v u Q I rx ry h
 obtain ⟨l, b, xs, zs, rfl, rfl, hH, hB, hz, q⟩ := h
 cases rx
 cases ry
 obtain ⟨z, its, n, r, hl, e⟩ := I.lstM hH
 obtain ⟨z2, its2, n2, r2, hl2, e2⟩ := I.lstM hB
 refine PySem.P.add_list e e2 ?_ (by rw [List.size_toArray, List.size_toArray]; omega)
 have ea : its.toArray ++ its2.toArray = (its ++ its2).toArray := by simp
 rw [ea]
 exact ⟨.ref _, _, I.lnew (t' := s.toks) (r.append r2) (by rw [qi]; omega), rfl, q _ I.fresh⟩
def ztz : R2 := fun x y H Q => ∃ l k xs, x = .ref l /\ y = .int k /\ H l = some (.lst xs) /\ -(2 ^ 63) <= k /\ k < 2 ^ 63 /\ xs.length * k.toNat <= sizeLine /\
 ∀ p, H p = none -> Q (.ref p) (upd H p (.lst (List.replicate k.toNat xs).flatten))
theorem zl4 {α : Type} (xs : List α) (k : Nat) : (List.replicate k xs).flatten.length = k * xs.length := by
 induction k with
 | zero => simp
 | succ k ih => rw [List.replicate_succ, List.flatten_cons, qi, ih, Nat.succ_mul, Nat.add_comm]
theorem zrz : OpR X (binaryOp .Mult) ztz := by
 intro pins s σ H x y v u Q I rx ry h
 obtain ⟨l, k, xs, rfl, rfl, hH, h1, h2, hz, q⟩ := h
 cases rx
 obtain ⟨t, rfl⟩ := ry
 obtain ⟨z, its, n, r, hl, e⟩ := I.lstM hH
 have hlen : its.toArray.size * k.toNat <= sizeLine := by rw [List.size_toArray, ← hl]; exact hz
 have hcap : ¬ its.toArray.size * k.toNat > (2 ^ 63 - 1) / 8 := by
  have : (sizeLine : Nat) <= (2 ^ 63 - 1) / 8 := by decide
  omega
 have hfit : ¬ (!Builtin.List.listFitsIndex k) = true := by
  rw [fitsIndex_both h1 h2]
  exact qp
 have hlong : ¬ Builtin.List.listTooLong (its.toArray.size * k.toNat) = true := by
  rw [zkg hlen]
  exact qp
 have hnew : List.foldl (fun x1 x2 => x1 ++ x2) #[] (List.replicate (if its.toArray.isEmpty = true then 0 else k.toNat) its.toArray) = (List.replicate k.toNat its).flatten.toArray := by
  have f0 : ∀ m : Nat, List.foldl (fun x1 x2 => x1 ++ x2) #[] (List.replicate m its.toArray) = (List.replicate m its).flatten.toArray := fun m => by
   have := ziX its m []
   rw [List.nil_append] at this
   exact this
  rw [f0]
  cases its with
  | nil => simp
  | cons a r' => rw [if_neg (by simp)]
 refine wpAny_binaryOp_repeat_ref (T := "list") (U := "int") (by decide) ⟨_, e, rfl⟩ (fun s' => typeIs_int s' k t) noFill_list_mul F.fills_int_mul F.slot_int_rmul repeat_list F.slot_int_index.lookup
  (call_meets F.slot_int_rmul (typeIs_int s k t) F.entry_int_rmul (F.args_int_rmul_2 _ _) (int___rmul___int_list k t l its.toArray n)
   ⟨e, rfl, ⟨_, e, rfl⟩, call_meets F.slot_list_mul ⟨_, e, rfl⟩ F.entry_list_mul (F.args_list_mul_2 _ _) (AutoListH.list___mul___list_int_3 l its.toArray n k t hfit hcap hlong) ⟨e, ?_⟩⟩)
 rw [hnew]
 exact ⟨.ref _, _, I.lnew (t' := s.toks) (r.rep k.toNat) (by rw [zl4, Nat.mul_comm]; exact hz), rfl, q _ I.fresh⟩
end
section
variable {prog : Program} {w : World} {A : Around} {E : Value -> Shared -> Prop} {s : Shared}
end
section
variable {X : Cx}
end
end L2
end
section
namespace L2
open PySem PySem.Spec PyProof.Rows
section
variable {κ : Type} [DecidableEq κ]
def zj0 (kvs : List (κ × V)) (k : κ) : Option V := (kvs.find? fun kv => decide (kv.1 = k)).map (·.2)
def zgU (kvs : List (κ × V)) (k : κ) (v : V) : List (κ × V) :=
 if (kvs.any fun kv => decide (kv.1 = k)) = true then kvs.map (fun kv => if kv.1 = k then (kv.1, v) else kv) else kvs ++ [(k, v)]
theorem zfO {p : κ × V} {r : List (κ × V)} {k : κ} (e : p.1 = k) : zj0 (p :: r) k = some p.2 := by simp [zj0, List.find?_cons, e]
theorem zfP {p : κ × V} {r : List (κ × V)} {k : κ} (e : ¬ p.1 = k) : zj0 (p :: r) k = zj0 r k := by simp [zj0, List.find?_cons, e]
theorem zjZ (k : κ) : ∀ kvs : List (κ × V), (kvs.any fun kv => decide (kv.1 = k)) = (zj0 kvs k).isSome
 | [] => rfl
 | p :: r => by
  rw [List.any_cons]
  by_cases e : p.1 = k
  ·simp only [zfO e, decide_eq_true e, Bool.true_or, Option.isSome_some]
  ·rw [zfP e, decide_eq_false e, Bool.false_or]; exact zjZ k r
theorem zge (kvs : List (κ × V)) (k : κ) (v : V) : (zgU kvs k v).length <= kvs.length + 1 := by
 unfold zgU
 split
 ·rw [qe]; omega
 ·rw [qi, qh, qk]; omega
theorem zjk.isSome_eq {o : Option V} {u : Option Value} (r : zjk o u) : o.isSome = u.isSome := by
 cases o with
 | none => cases u with
  | none => rfl
  | some _ => exact (show False from r).elim
 | some _ => cases u with
  | none => exact (show False from r).elim
  | some _ => rfl
theorem KV.val {kvs : List (κ × V)} {vs : List (κ × Value)} (r : KV kvs vs) (k : κ) : zjk (zj0 kvs k) (valueAt vs k) := by
 unfold KV at r
 induction r with
 | nil => exact True.intro
 | @cons p q ps qs h t ih =>
  obtain ⟨h1, h2⟩ := h
  by_cases e : p.1 = k
  ·have e' : q.1 = k := h1.symm.trans e
   have b : valueAt (q :: qs) k = some q.2 := by simp [valueAt, List.find?_cons, e']
   rw [zfO e, b]; exact h2
  ·have e' : ¬ q.1 = k := fun z => e (h1.trans z)
   have b : valueAt (q :: qs) k = valueAt qs k := by simp [valueAt, List.find?_cons, e']
   rw [zfP e, b]; exact ih
theorem KV.any {kvs : List (κ × V)} {vs : List (κ × Value)} (r : KV kvs vs) (k : κ) : (kvs.any fun kv => decide (kv.1 = k)) = vs.any fun kv => decide (kv.1 = k) := by
 unfold KV at r
 induction r with
 | nil => rfl
 | cons h t ih => rw [List.any_cons, List.any_cons, ih, h.1]
theorem KV.repl {kvs : List (κ × V)} {vs : List (κ × Value)} (r : KV kvs vs) (k : κ) {y : V} {u : Value} (ry : zco y u) :
  KV (kvs.map fun kv => if kv.1 = k then (kv.1, y) else kv) (vs.map fun kv => if kv.1 = k then (kv.1, u) else kv) := by
 unfold KV at r ⊢
 induction r with
 | nil => exact .nil
 | @cons p q ps qs h t ih =>
  rw [ql, ql]
  refine .cons ?_ ih
  obtain ⟨h1, h2⟩ := h
  by_cases e : p.1 = k
  ·rw [if_pos e, if_pos (h1.symm.trans e)]; exact ⟨h1, ry⟩
  ·rw [if_neg e, if_neg (fun z => e (h1.trans z))]; exact ⟨h1, h2⟩
theorem KV.put {kvs : List (κ × V)} {vs : List (κ × Value)} (r : KV kvs vs) (k : κ) {y : V} {u : Value} (ry : zco y u) : KV (zgU kvs k y) (stored vs k u) := by
 unfold zgU stored
 rw [r.any k]
 by_cases e : (vs.any fun kv => decide (kv.1 = k)) = true
 ·rw [if_pos e, if_pos e]; exact r.repl k ry
 ·rw [if_neg e, if_neg e]; exact Paired.snoc r ⟨rfl, ry⟩
theorem KV.length {kvs : List (κ × V)} {vs : List (κ × Value)} (r : KV kvs vs) : kvs.length = vs.length := Paired.length r
end
theorem zk0 {P : Program} {w : World} {k : Key} {u : Value} (r : zco (kV k) u) : (za6 P w).is k u = true := by
 cases k with
 | inl i => obtain ⟨t, e⟩ := (show ∃ t, u = Value.int i t from r); subst e; exact zjC P w i t
 | inr x => obtain ⟨t, e⟩ := (show ∃ t, u = Value.str x t from r); subst e; exact zjB P w x t
theorem ziS {P : Program} {w : World} : ∀ {ks : List Key} {us : List Value}, zbX (ks.map kV) us -> ItemsAre (za6 P w) ks us
 | [], _, r => by rw [List.map_nil] at r; cases r; exact .nil
 | k :: ks, _, r => by
  rw [ql] at r
  cases r with
  | cons h t => exact .cons (zk0 h) (ziS t)
abbrev KT (H : Hp) : List (List Key × V) -> List (List Key × Addr × Value) -> Prop := Paired fun p q => p.1 = q.1 /\ H q.2.1 = some (.tup (p.1.map kV)) /\ zco p.2 q.2.2
theorem KT.val {H : Hp} {kvs : List (List Key × V)} {xs : List (List Key × Addr × Value)} (r : KT H kvs xs) (k : List Key) : zjk (zj0 kvs k) ((atKey xs k).map (·.2)) := by
 induction r with
 | nil => exact True.intro
 | @cons p q ps qs h t ih =>
  obtain ⟨h1, _, h2⟩ := h
  by_cases e : p.1 = k
  ·have e' : q.1 = k := h1.symm.trans e
   have b : atKey (q :: qs) k = some q.2 := by simp [atKey, List.find?_cons, e']
   rw [zfO e, b]; exact h2
  ·have e' : ¬ q.1 = k := fun z => e (h1.trans z)
   have b : atKey (q :: qs) k = atKey qs k := by simp [atKey, List.find?_cons, e']
   rw [zfP e, b]; exact ih
theorem KT.repl {H : Hp} {kvs : List (List Key × V)} {xs : List (List Key × Addr × Value)} (r : KT H kvs xs) (k : List Key) {y : V} {u : Value} (ry : zco y u) :
  KT H (kvs.map fun kv => if kv.1 = k then (kv.1, y) else kv) (xs.map (putAt k u)) := by
 induction r with
 | nil => exact .nil
 | @cons p q ps qs h t ih =>
  rw [ql, ql]
  refine .cons ?_ ih
  obtain ⟨h1, h2, h3⟩ := h
  unfold putAt
  by_cases e : p.1 = k
  ·rw [if_pos e, if_pos (h1.symm.trans e)]; exact ⟨h1, h2, ry⟩
  ·rw [if_neg e, if_neg (fun z => e (h1.trans z))]; exact ⟨h1, h2, h3⟩
theorem KT.put {H : Hp} {kvs : List (List Key × V)} {xs : List (List Key × Addr × Value)} (r : KT H kvs xs) (k : List Key) {b : Addr} {y : V} {u : Value} (hb : H b = some (.tup (k.map kV))) (ry : zco y u) :
  KT H (zgU kvs k y) (storedH xs k b u) := by
 have e : (kvs.any fun kv => decide (kv.1 = k)) = (atKey xs k).isSome := by
  rw [zjZ, (r.val k).isSome_eq, Option.isSome_map]
 unfold zgU storedH
 rw [e]
 by_cases q : (atKey xs k).isSome = true
 ·rw [if_pos q, if_pos q]; exact r.repl k ry
 ·rw [if_neg q, if_neg q]; exact Paired.snoc r ⟨rfl, hb, ry⟩
theorem KT.keeps {H H' : Hp} {kvs : List (List Key × V)} {xs : List (List Key × Addr × Value)} (r : KT H kvs xs) (ht : ∀ b ys, H b = some (.tup ys) -> H' b = some (.tup ys)) : KT H' kvs xs :=
 Paired.mapP r fun _ _ z => ⟨z.1, ht _ _ z.2.1, z.2.2⟩
section
variable {P : Program} {w : World} {H : Hp} {h : Heap} {a : Addr}
theorem zq5 {u : HO} (ok : HOk P w H h) (e : Rd H a u) : zcw P w H h a u := e.ok ok
theorem zn7 {kvs : List (Key × V)} (ok : HOk P w H h) (e : Rd H a (.dK kvs)) : kvs.length <= sizeLine /\ (a == sysModules) = false /\ ∃ vs, KV kvs vs /\ h.DictOf (za6 P w) a vs :=
 show zcw P w H h a (.dK kvs) from zq5 ok e
theorem zth {kvs : List (Key × V)} (ok : HOk P w H h) (e : H a = some (.dK kvs)) : kvs.length <= sizeLine /\ (a == sysModules) = false /\ ∃ vs, KV kvs vs /\ h.DictOf (za6 P w) a vs := zn7 ok (.inl e)
theorem zhj {ks : List Key} (ok : HOk P w H h) (e : H a = some (.tup (ks.map kV))) : (tupleKind (za6 P w)).is h ks a := by
 obtain ⟨_, its, r, o, h1, h2, n, h3⟩ := (show zcw P w H h a (.tup (ks.map kV)) from ok a _ e)
 exact ⟨o, its.toArray, n, h1, h2, h3, by simpa using ziS r⟩
theorem zn0 {kvs : List (List Key × V)} (ok : HOk P w H h) (e : Rd H a (.dT kvs)) : kvs.length <= sizeLine /\ (a == sysModules) = false /\
  ∃ xs, KT H kvs xs /\ h.DictOfH (tupleKind (za6 P w)) a xs := by
 obtain ⟨z, y, xs, r, o, es, ep, h1, h2, h3, h4, h5⟩ := (show zcw P w H h a (.dT kvs) from zq5 ok e)
 refine ⟨z, y, xs, r, o, es, ep, h1, h2, h3, h4, fun x hx => ?_, h5⟩
 have all : ∀ {l : List (List Key × V)} {m : List (List Key × Addr × Value)}, KT H l m -> ∀ x ∈ m, (tupleKind (za6 P w)).is h x.1 x.2.1 := by
  intro l m q
  induction q with
  | nil => intro x hx; exact nomatch hx
  | @cons p q ps qs hq t ih =>
   intro x hx
   rcases List.mem_cons.mp hx with e | hx
   ·subst e
    exact zhj ok (by rw [← hq.1]; exact hq.2.1)
   ·exact ih x hx
 exact all r x hx
theorem ztf {kvs : List (List Key × V)} (ok : HOk P w H h) (e : H a = some (.dT kvs)) : kvs.length <= sizeLine /\ (a == sysModules) = false /\
  ∃ xs, KT H kvs xs /\ h.DictOfH (tupleKind (za6 P w)) a xs := zn0 ok (.inl e)
end
def zm3 (H : Hp) (a : Addr) (y : V) (r : Option V) : Prop :=
 (∃ kvs k, Rd H a (.dK kvs) /\ y = kV k /\ r = zj0 kvs k) \/ ∃ kvs k b, Rd H a (.dT kvs) /\ y = .ref b /\ H b = some (.tup (k.map kV)) /\ r = zj0 kvs k
def zol (H : Hp) (a : Addr) (y v : V) (H' : Hp) : Prop :=
 (∃ kvs k, H a = some (.dK kvs) /\ y = kV k /\ kvs.length < sizeLine /\ H' = upd H a (.dK (zgU kvs k v))) \/
 ∃ kvs k b, H a = some (.dT kvs) /\ y = .ref b /\ H b = some (.tup (k.map kV)) /\ kvs.length < sizeLine /\ H' = upd H a (.dT (zgU kvs k v))
theorem zm3.k {H : Hp} {a : Addr} {kvs : List (Key × V)} {k : Key} (e : H a = some (.dK kvs)) : zm3 H a (kV k) (zj0 kvs k) := .inl ⟨kvs, k, .inl e, rfl, rfl⟩
theorem zm3.t {H : Hp} {a b : Addr} {kvs : List (List Key × V)} {k : List Key} (e : H a = some (.dT kvs)) (eb : H b = some (.tup (k.map kV))) : zm3 H a (.ref b) (zj0 kvs k) := .inr ⟨kvs, k, b, .inl e, rfl, eb, rfl⟩
theorem zol.k {H : Hp} {a : Addr} {kvs : List (Key × V)} {k : Key} {v : V} (e : H a = some (.dK kvs)) (hl : kvs.length < sizeLine) : zol H a (kV k) v (upd H a (.dK (zgU kvs k v))) := .inl ⟨kvs, k, e, rfl, hl, rfl⟩
theorem zol.t {H : Hp} {a b : Addr} {kvs : List (List Key × V)} {k : List Key} {v : V} (e : H a = some (.dT kvs)) (eb : H b = some (.tup (k.map kV))) (hl : kvs.length < sizeLine) :
  zol H a (.ref b) v (upd H a (.dT (zgU kvs k v))) := .inr ⟨kvs, k, b, e, rfl, eb, hl, rfl⟩
section
variable {X : Cx} {pins : List (Addr × Obj)} {σ : St} {H : Hp} {s : Shared} {a : Addr} {y v : V} {u r : Value} {o : Option V} {A : Around} {E : Value -> Shared -> Prop}
theorem Inv.big (I : Inv X pins σ H s) : sysModules < s.heap.objs.size := by
 have h : mainGlobals < s.heap.objs.size := (I.mod.glob.keeps I.bk).lt
 exact Nat.lt_trans (by decide) h
theorem zmJ {Q : Value -> Shared -> Prop} (hu : A.units + 1 < cLine) (I : Inv X pins σ H s) (g : zm3 H a y (some v)) (ry : zco y u) (h : ∀ w' s', Inv X pins σ H s' -> zco v w' -> Q w' s') :
  wpAny (model X.prog X.w) A (getItem (.ref a) u) Q E s := by
 rcases g with ⟨kvs, k, e, ey, l⟩ | ⟨kvs, k, b, e, ey, eb, l⟩
 ·subst ey
  obtain ⟨z, hd, vs, rel, dd⟩ := zn7 I.hok e
  obtain ⟨w', hw, rw'⟩ := zjk.some_of (v := v) (o := valueAt vs k) (by rw [l]; exact rel.val k)
  exact wpAny_getItem_of (zk0 ry) dd.mapOf hw (h w' _ (I.tok _) rw')
 ·subst ey
  cases (show u = Value.ref b from ry)
  obtain ⟨z, hd, xs, rel, dd⟩ := zn0 I.hok e
  obtain ⟨w', hw, rw'⟩ := zjk.some_of (v := v) (o := (atKey xs k).map (·.2)) (by rw [l]; exact rel.val k)
  obtain ⟨p, hp, hp2⟩ := oMd hw
  refine wpAny_getItem_heap (tupleKind_room_in1 hu) (zhj I.hok eb) dd hp ?_
  rw [hp2]
  exact h w' _ (I.tok _) rw'
theorem zt8 {Q : Value -> Shared -> Prop} (hu : A.units + 1 < cLine) (I : Inv X pins σ H s) (g : zm3 H a y o) (ry : zco y u) (h : ∀ s', Inv X pins σ H s' -> Q (.bool o.isSome) s') :
  wpAny (model X.prog X.w) A (compareOp .In u (.ref a)) Q E s := by
 rcases g with ⟨kvs, k, e, ey, l⟩ | ⟨kvs, k, b, e, ey, eb, l⟩
 ·subst ey
  obtain ⟨z, hd, vs, rel, dd⟩ := zn7 I.hok e
  refine wpAny_in_of (zk0 ry) hd dd.mapOf ?_
  rw [← (rel.val k).isSome_eq, ← l]
  exact h _ (I.tok _)
 ·subst ey
  cases (show u = Value.ref b from ry)
  obtain ⟨z, hd, xs, rel, dd⟩ := zn0 I.hok e
  refine wpAny_in_heap (tupleKind_room_in1 hu) (zhj I.hok eb) hd dd ?_
  have q := (rel.val k).isSome_eq
  rw [Option.isSome_map] at q
  rw [← q, ← l]
  exact h _ (I.tok _)
theorem zmH {h' : Heap} {t' : Nat} {ob : HO} (I : Inv X pins σ H s) (mu : Mut (H a)) (hs : Heap.SameBut a s.heap h') (he : ∃ q, h'.get? a = some q) (new : zcw X.prog X.w (upd H a ob) h' a ob) :
  Inv X pins σ (upd H a ob) { s with heap := h', toks := t' } :=
 I.write (x := a) (e := a) mu (.inl rfl) (fun b q hb z => (hs.2 b hb).trans z) he new
theorem zsa {P : Program} {w : World} {H' : Hp} {h' : Heap} {kvs : List (Key × V)} {vs : List (Key × Value)} (z : kvs.length <= sizeLine) (hd : (a == sysModules) = false) (rel : KV kvs vs) (dd : h'.DictOf (za6 P w) a vs) :
  zcw P w H' h' a (.dK kvs) := ⟨z, hd, vs, rel, dd⟩
theorem zmI {H' : Hp} {Q : Unit -> Shared -> Prop} (hu : A.units + 1 < cLine) (I : Inv X pins σ H s) (g : zol H a y v H') (ry : zco y u) (rv : zco v r) (h : ∀ s', Inv X pins σ H' s' -> Q () s') :
  wpAny (model X.prog X.w) A (setItem (.ref a) u r) Q E s := by
 rcases g with ⟨kvs, k, e, ey, l, eH⟩ | ⟨kvs, k, b, e, ey, eb, l, eH⟩
 ·subst ey eH
  obtain ⟨z, hd, vs, rel, dd⟩ := zth I.hok e
  have hz : vs.length <= sizeLine := by rw [← rel.length]; exact z
  have hl : (zgU kvs k v).length <= sizeLine := by have := zge kvs k v; omega
  refine wpAny_setItem_pairs (hsz := hz) (zk0 ry) dd fun h' dd' hs => h _ ?_
  have he : ∃ q, h'.get? a = some q := let ⟨q, _, _, hq, _⟩ := dd'; ⟨q, hq⟩
  exact zmH I (by rw [e]; exact True.intro) hs he (zsa hl hd (rel.put k rv) dd')
 ·subst ey eH
  cases (show u = Value.ref b from ry)
  obtain ⟨z, hd, xs, rel, dd⟩ := ztf I.hok e
  have hz : xs.length <= sizeLine := by rw [← Paired.length rel]; exact z
  have hl : (zgU kvs k v).length <= sizeLine := by have := zge kvs k v; omega
  refine wpAny_setItem_heap (hsz := hz) (tupleKind_room_in1 hu) (zhj I.hok eb) dd fun h' dd' hs => h _ ?_
  obtain ⟨q, es, ep, hq, h2, h3, h4, _, h5⟩ := dd'
  refine zmH I (by rw [e]; exact True.intro) hs ⟨q, hq⟩ ⟨hl, hd, _, (rel.put k eb rv).keeps fun c ys ec => ?_, q, es, ep, hq, h2, h3, h4, h5⟩
  rw [zaw (zpQ ec e (fun z => nomatch z))]
  exact ec
end
section
variable {X : Cx} {pins : List (Addr × Obj)} {σ : St} {H : Hp} {s : Shared} {a : Addr} {kvs : List (Key × V)} {k : Key} {u : Value} {A : Around} {E : Value -> Shared -> Prop}
end
def ztq (i : Expr) : Prop := ∀ ov iv, subscripted i false ov iv = operate [ov, iv] (getItem ov iv)
theorem zoZ {prog : Program} {w : World} {A : Around} {E : Value -> Shared -> Prop} {s : Shared} {env : Env} {value slice : Expr} {pos : Pos} {T id : String} {Q : Value -> Shared -> Prop}
  (hl : typeLookup (.type T) "__getitem__" = pure (some (.builtin id))) (hs : ztq slice)
  (h : wpAny (model prog w) A (eval value env) (fun o s₁ => wpAny (model prog w) A (eval slice env) (fun i s₂ => s₂.TypeIs o T /\ wpAny (model prog w) A (getItem o i) Q E s₂) E s₁) E s) :
  wpAny (model prog w) A (eval (.Subscript value slice pos) env) Q E s := by
 refine Subscript_ (wpAny_mono h (fun o s₁ h₁ => wpAny_mono h₁ (fun i s₂ h₂ => ?_) fun _ _ x => x) fun _ _ x => x)
 obtain ⟨hT, h₂⟩ := h₂
 unfold subscriptTail
 refine qu ?_
 rw [getitemInPython_of_ne hT.not_modules]
 refine qu (wpAny_specialOf hT hl ?_)
 have fin : wpAny (model prog w) A (subscripted slice false o i) (fun r s₃ => wpAny (model prog w) A (letTemporaryGo value o r >>= fun _ => pure r) Q E s₃) E s₂ := by
  rw [hs o i]
  exact wpAny_operating (wpAny_mono h₂ (fun r s₃ h₃ => qu (wpAny_letTemporaryGo (wpAny_pure h₃))) fun _ _ x => x)
 first
  | exact wpAny_pure (qu fin)
  | exact qu (wpAny_pure (qu fin))
  | exact qu fin
theorem zjM {X : Cx} {pins : List (Addr × Obj)} {σ : St} {H : Hp} {s : Shared} {a : Addr} {y : V} {o : Option V} (I : Inv X pins σ H s) (g : zm3 H a y o) : s.TypeIs (.ref a) "dict" := by
 rcases g with ⟨kvs, k, e, _, _⟩ | ⟨kvs, k, b, e, _, _, _⟩
 ·obtain ⟨_, _, vs, _, dd⟩ := zn7 I.hok e
  exact dd.typeIs
 ·obtain ⟨_, _, xs, _, dd⟩ := zn0 I.hok e
  exact dd.typeIs
def zsI (td ty : TE) : TE := fun σ H Q => td σ H fun x H1 => ty σ H1 fun y H2 => ∃ a v, x = .ref a /\ zm3 H2 a y (some v) /\ Q v H2
def zsN (td ty tv : TE) : TS := fun D σ H => tv σ H fun v H1 => td σ H1 fun x H2 => ty σ H2 fun y H3 => ∃ a H4, x = .ref a /\ zol H3 a y v H4 /\ D.nx σ H4
section
variable {X : Cx} {o i e value : Expr} {pos pos' tpos : Pos} {td ty tv : TE}
theorem zpA (hu : X.A.units + 1 < cLine) (ho : PE X o td) (hi : PE X i ty) (hs : ztq i) : PE X (.Subscript o i pos) (zsI td ty) := by
 intro pins s σ H Q I h
 refine zoZ PySem.F.slot_dict_getitem.lookup hs (thn (ho pins s σ H _ I h) fun u s1 ⟨x, H1, I1, rx, q1⟩ => thn (hi pins s1 σ H1 _ I1 q1) fun iv s2 ⟨y, H2, I2, ry, a, v, ex, g, q2⟩ => ?_)
 subst ex
 obtain rfl : u = Value.ref a := rx
 exact ⟨zjM I2 g, zmJ hu I2 g ry fun w' s3 I3 rw' => ⟨v, H2, I3, rw', q2⟩⟩
theorem zlz (hu : X.A.units + 1 < cLine) (ho : PE X o td) (hi : PE X i ty) (hv : PE X value tv) (hs : swapsWith value (some (.Subscript o i pos')) pos.line X.env = pure false) :
  PS X (.Assign [.Subscript o i pos'] value pos) (zsN td ty tv) := by
 intro pins s σ H D I h
 refine wpAny_Assign_Subscript (thn (hv pins s σ H _ I h) fun r s1 ⟨v, H1, I1, rv, q1⟩ => thn (ho pins s1 σ H1 _ I1 q1) fun u s2 ⟨x, H2, I2, rx, q2⟩ => thn (hi pins s2 σ H2 _ I2 q2) fun iv s3 ⟨y, H3, I3, ry, a, H4, ex, g, q3⟩ => ?_) hs
 subst ex
 obtain rfl : u = Value.ref a := rx
 exact zmI hu I3 g ry rv fun s4 I4 => ⟨σ, H4, I4, q3⟩
end
theorem zn8 {P : Program} {w : World} {H : Hp} (h : Heap) (hb : sysModules < h.objs.size) : zcw P w H (h.push { cls := .type "dict", data := .dict #[] }) h.objs.size (.dK []) :=
 ⟨Nat.zero_le _, beq_eq_false_iff_ne.mpr (Ne.symm (Nat.ne_of_lt hb)), [], .nil, Heap.DictOf.new h⟩
theorem zn1 {P : Program} {w : World} {H : Hp} (h : Heap) (hb : sysModules < h.objs.size) : zcw P w H (h.push { cls := .type "dict", data := .dict #[] }) h.objs.size (.dT []) :=
 ⟨Nat.zero_le _, beq_eq_false_iff_ne.mpr (Ne.symm (Nat.ne_of_lt hb)), [], .nil, _, #[], 0, Heap.get?_push_size _ rfl, ⟨rfl, rfl, rfl⟩, rfl, rfl, List.nodup_nil⟩
def zqY : TE := fun _ H Q => ∀ p, H p = none -> Q (.ref p) (upd H p (.dK []))
def zqX : TE := fun _ H Q => ∀ p, H p = none -> Q (.ref p) (upd H p (.dT []))
section
variable {X : Cx} {pos : Pos}
theorem znB : PE X (.Dict [] [] pos) zqY := fun pins s σ H Q I h =>
 wpAny_Dict_empty ⟨.ref s.heap.objs.size, _, I.laid (a := s.heap.objs.size) (o := .dK []) (t' := s.toks) (fun _ _ q => qq _ q) (qt _) (zn8 s.heap I.big), rfl, h _ (I.hok.fresh (qt _))⟩
theorem znA : PE X (.Dict [] [] pos) zqX := fun pins s σ H Q I h =>
 wpAny_Dict_empty ⟨.ref s.heap.objs.size, _, I.laid (a := s.heap.objs.size) (o := .dT []) (t' := s.toks) (fun _ _ q => qq _ q) (qt _) (zn1 s.heap I.big), rfl, h _ (I.hok.fresh (qt _))⟩
end
structure M1 (X : Cx) (o : Expr) (m : Str) (apos : Pos) (e : Expr) (cpos : Pos) : Prop where
 base : attributeBase o m X.env (eval o X.env) = eval o X.env
 few : ((backTo cpos (starEach [e] X.env)).all (fun x => !x.1) && (backToKw cpos (keywordEach [] X.env)).all (fun x => x.1.isSome)
  && decide (([e] : List Expr).length + ([] : List Keyword).length + (if ([] : List Keyword).isEmpty then 0 else 1) < 30)) = true
 line : (apos.endLine == cpos.line) = true
 trees : backTo cpos (starEach [e] X.env) = [(false, eval e X.env)]
structure M2 (X : Cx) (o : Expr) (m : Str) (apos : Pos) (e f : Expr) (cpos : Pos) : Prop where
 base : attributeBase o m X.env (eval o X.env) = eval o X.env
 few : ((backTo cpos (starEach [e, f] X.env)).all (fun x => !x.1) && (backToKw cpos (keywordEach [] X.env)).all (fun x => x.1.isSome)
  && decide (([e, f] : List Expr).length + ([] : List Keyword).length + (if ([] : List Keyword).isEmpty then 0 else 1) < 30)) = true
 line : (apos.endLine == cpos.line) = true
 trees : backTo cpos (starEach [e, f] X.env) = [(false, eval e X.env), (false, eval f X.env)]
section
variable {X : Cx} {pins : List (Addr × Obj)} {σ : St} {H : Hp} {s : Shared} {a : Addr} {y d : V} {u r : Value} {o : Option V} {A : Around} {E : Value -> Shared -> Prop}
end
section
variable {X : Cx} {o e f : Expr} {apos cpos : Pos} {td ty tx : TE}
end
section
variable {X : Cx} {pins : List (Addr × Obj)} {σ : St} {H : Hp} {s : Shared} {a : Addr} {kvs : List (Key × V)} {A : Around} {E : Value -> Shared -> Prop}
end
section
variable {X : Cx} {pins : List (Addr × Obj)} {σ : St} {H : Hp} {s : Shared} {a : Addr} {y : V} {u : Value} {A : Around} {E : Value -> Shared -> Prop}
end
end L2
end
section
namespace Att
open PySem PySem.W PySem.Calls PyProof.Rows
theorem zgk {P : Params} {h : Heap} : ∀ (ns : List Int) (vs : List Value), WellAll P h vs (ns.map WData.int) -> IntsAre vs ns := by
 intro ns
 induction ns with
 | nil =>
  intro vs w
  rw [List.map_nil] at w
  cases w
  exact .nil
 | cons n ns ih =>
  intro vs w
  rw [ql] at w
  cases w with
  | cons a b =>
   cases a
   exact .cons _ _ (ih _ b)
theorem ziw {l : OpenLaw} {n : Nat} (hn : l.most = some n) {P : Params} {h : Heap} {args : List WData} {vals : List Value}
  (hpre : l.row.toRowW.claim.pre args = true) (hwl : WellAll P h vals args) :
  ∃ a vs ns, vals = [Value.ref a] /\ args = [WData.list (ns.map WData.int)] /\ h.get? a = some { cls := .type "list", data := .seq vs.toArray } /\ IntsAre vs ns /\ ns.length <= n := by
 have hsh : WShape.hasAll [] args [.list .int] = true := (pre_splitW hpre).1
 have hc : l.pre.holds [] { args := args } = true := (pre_splitW hpre).2
 obtain ⟨d, r, rfl, h1, h2⟩ := hasAllW_cons hsh
 obtain rfl := hasAllW_nil h2
 obtain ⟨xs, rfl, h3⟩ := hasW_list h1
 obtain ⟨ns, rfl⟩ := items_int h3
 have hlen : ns.length <= n := by
  unfold OpenLaw.pre at hc
  have h4 : (WTm.not (.lt (.lit (.int (n : Int))) (.len (.arg 0)))).holds [] { args := [.list (ns.map .int)] } = true := by
   have h4 := (holds_andW hc).1
   rw [hn] at h4
   exact h4
  have h5 := condW_of h4 (w_not (w_lt w_lit (w_len_list (w_arg rfl))))
  rw [qe] at h5
  refine Nat.le_of_not_lt fun q => ?_
  have q' : (n : Int) < ((ns.length : Nat) : Int) := by omega
  first
   | (rw [decide_eq_true q'] at h5; exact absurd h5 (by decide))
   | (simp at h5; omega)
 cases hwl with
 | cons w1 w2 =>
  cases w2
  cases w1 with
  | list ho hall => exact ⟨_, _, ns, rfl, rfl, ho, zgk ns _ hall, hlen⟩
theorem ziG (l : OpenLaw) (args : List WData) : l.row.toRowW.claim.post args (.bool true) args = true :=
 postW_of (r := l.row.toRowW) (X := (true == true))
  (show WShape.has [] (.bool true) .bool = true by first | rfl | decide | simp [WShape.has, WShape.arms, WShape.armsAll])
  (show (WTm.eq .res (.lit (.bool true))).value [] { args := args, res := some (.bool true), after := args } = some (.bool (true == true)) from w_eq_bool (w_res rfl) w_lit) rfl
theorem ztK {l : OpenLaw} {n : Nat} {q : Program} {loose : List Str} {XP : (Str -> Option Value) -> Heap -> Prop} {YP : World -> Heap -> Prop} {d : DefRec} {x : Str}
  (hn : l.most = some n) (hdf : d.params.defaults = [])
  (hbind : ∀ pm cd doc v : Value, bindArgs (docDef d.name d.params d.body d.scope pm cd doc) ⟨[v], []⟩ = pure [(x, v)])
  (hx : d.scope.names.lookup x = some .local \/ d.scope.names.lookup x = some .cell)
  (hk : d.scope.kind = .function) (hco : d.scope.isCoroutine = false) (hgen : d.scope.isGenerator = false)
  (body : ∀ (w : World) (s₀ s₁ s : Shared) (mg mb : Str -> Option Value) (fa : Addr) (o : Obj) (pm cd doc : Value) (a : Addr) (vs : List Value) (ns : List Int),
   Ground q loose [] XP w s₀ mg mb s₁.heap -> YP w s₁.heap ->
   s₁.heap.get? fa = some o -> o.data = .func (docDef d.name d.params d.body d.scope pm cd doc) -> s₁.heap.CodeRec cd d.name -> mg d.name = some (.ref fa) ->
   s₁.heap.get? a = some { cls := .type "list", data := .seq vs.toArray } -> IntsAre vs ns -> ns.length <= n ->
   s.gens = #[] -> s.os = s₁.os ->
   Fr s₁.heap s₁.heap.objs.size s.heap (bindL (envOfC d.name d.scope s₁.heap.objs.size fa cd).kindOf [(x, .ref a)] fun _ => none) ->
   Cl s₁.heap.objs.size (cellsFrom (s₁.heap.objs.size + 1) d.scope.names []) s.heap (bindC (envOfC d.name d.scope s₁.heap.objs.size fa cd).kindOf [(x, .ref a)] fun _ => none) ->
   wpAny (model l.prog w) (callerA.deeper (envOfC d.name d.scope s₁.heap.objs.size fa cd)) (execs d.body (envOfC d.name d.scope s₁.heap.objs.size fa cd))
    (fun f s' => f = .ret (.bool true) /\ OldK s₁.heap s'.heap /\ s'.os = s₁.os /\ AllBare s'.gens) (fun _ _ => False) s) :
  WalkO q loose XP YP l.row.toRowW d [] (fun f vs => PySem.call f vs) := by
 intro w s₀ s₁ mg mb G Y fa o pm cd doc dV kV ho hd hcd hD hmg hg args vals as hpre hlay hrd hwl hlo
 obtain rfl : dV = .none := Dflts.none hD hdf
 obtain rfl : kV = .none := Dflts.noKw hD
 obtain ⟨a, vs, ns, rfl, rfl, hobj, hints, hlen⟩ := ziw hn hpre hwl
 refine enter_call ?_
 refine call_cells_ret (o := o) (by rw [depth_caller]; decide) ho (fd_plain hd) G.T.nolimit hcd (hbind pm cd doc (.ref a)) (fun y hy => ?_) (fun h₁ tk F X => ?_) hco hgen hk
 ·obtain rfl : y = (x, Value.ref a) := List.mem_singleton.mp hy
  rcases hx with e | e
  ·exact .inl e
  ·exact .inr ⟨e, cellsFrom_some _ _ _ (.inl e)⟩
 ·refine wpAny_mono (body w s₀ s₁ { s₁ with heap := h₁, toks := tk } mg mb fa o pm cd doc a vs ns G Y ho (fd_plain hd) hcd hmg hobj hints hlen hg rfl F X) (fun f s' hq => ?_) (fun _ _ hq => hq)
  obtain ⟨rfl, h2, h3, h4⟩ := hq
  exact ⟨.inl ⟨.bool true, .bool true, [], rfl, fun _ => rfl, .bool true, ziG l _, fun _ => ⟨List.Pairwise.nil, fun _ hm => (nomatch hm)⟩⟩, h2, h3, h4⟩
theorem attach_call {l : OpenLaw} {n : Nat} {q : Program} {loose : List Str} {XP : (Str -> Option Value) -> Heap -> Prop} {YP : World -> Heap -> Prop} {d : DefRec}
  (hn : l.most = some n) (hdf : d.params.defaults = [])
  (call : ∀ (w : World) (s₀ s₁ : Shared) (mg mb : Str -> Option Value) (fa : Addr) (o : Obj) (pm cd doc : Value) (a : Addr) (vs : List Value) (ns : List Int),
   Ground q loose [] XP w s₀ mg mb s₁.heap -> YP w s₁.heap ->
   s₁.heap.get? fa = some o -> o.data = .func (docDef d.name d.params d.body d.scope pm cd doc) -> s₁.heap.CodeRec cd d.name -> mg d.name = some (.ref fa) ->
   s₁.heap.get? a = some { cls := .type "list", data := .seq vs.toArray } -> IntsAre vs ns -> ns.length <= n -> s₁.gens = #[] ->
   codeAny (model l.prog w) callerA (.call (.ref fa) ⟨[.ref a], []⟩) (fun r s' => r = .ok (.ret (.bool true)) /\ OldK s₁.heap s'.heap /\ s'.os = s₁.os /\ AllBare s'.gens) s₁) :
  WalkO q loose XP YP l.row.toRowW d [] (fun f vs => PySem.call f vs) := by
 intro w s₀ s₁ mg mb G Y fa o pm cd doc dV kV ho hd hcd hD hmg hg args vals as hpre hlay hrd hwl hlo
 obtain rfl : dV = .none := Dflts.none hD hdf
 obtain rfl : kV = .none := Dflts.noKw hD
 obtain ⟨a, vs, ns, rfl, rfl, hobj, hints, hlen⟩ := ziw hn hpre hwl
 refine enter_call (codeAny_mono (call w s₀ s₁ mg mb fa o pm cd doc a vs ns G Y ho (fd_plain hd) hcd hmg hobj hints hlen hg) fun r s' hq => ?_)
 obtain ⟨rfl, h2, h3, h4⟩ := hq
 exact ⟨.inl ⟨.bool true, .bool true, [], rfl, fun _ => rfl, .bool true, ziG l _, fun _ => ⟨List.Pairwise.nil, fun _ hm => (nomatch hm)⟩⟩, h2, h3, h4⟩
section
variable {prog : Program} {w : World} {A : Around} {E : Value -> Shared -> Prop} {s : Shared} {K : Frag}
def ztG (h : Heap) (L d : Addr) : List (Addr × Obj) := (List.range h.objs.size).filterMap fun a => if a = L \/ a = d then none else (h.get? a).map fun o => (a, o)
end
end Att
namespace L2
open PySem PySem.Spec PyProof.Rows
theorem zio : ∀ {vs : List Value} {ns : List Int}, IntsAre vs ns -> zbX (ns.map V.int) vs
 | _, _, .nil => .nil
 | _, _, .cons n t h => .cons ⟨t, rfl⟩ (zio h)
def ztp (H : Hp) : Prop := ∀ b, H b = none \/ ∃ o xs, H b = some (.frz o (.lst xs))
theorem znR {P : Program} {w : World} {K : PySem.W.Frag} {mg mb : Str -> Option Value} {CX : CXT} {k : Nat} {fa a : Addr} {fd : FuncData} {x : Str} {sp : Sp} {s₁ : Shared} {vs : List Value} {ns : List Int}
  (KX : K.In s₁.heap) (hns : s₁.heap.Ns mainGlobals mg) (hb : s₁.heap.Ns builtinsNs mb) (hbb : ∀ x : Str, x ≠ "__name__" -> mb x = bootBuiltins x) (hlim : s₁.heap.NoLimit) (hg : s₁.gens = #[])
  (ha : s₁.heap.get? a = some { cls := .type "list", data := .seq vs.toArray }) (hi : IntsAre vs ns) (hl : ns.length <= sizeLine) (hr : Room k callerA)
  (F : ∀ base : Heap, K.In base -> base.Ns mainGlobals mg -> FnOk P w K mg base CX k fa fd [x] sp) (hbind : ∀ (s : Shared) (u : Value), BindsTo s fd ⟨[u], []⟩ [(x, u)])
  (hsp : ∀ H : Hp, ztp H -> SqL K H a (ns.map V.int) -> sp [.ref a] H (fun v _ => v = .bl true) fun _ _ _ => False)
  (hCX : ∀ H e s', CX [] H s₁ (fun _ _ _ => False) e s' -> False) :
  codeAny (model P w) callerA (.call (.ref fa) ⟨[.ref a], []⟩) (fun r s' => r = .ok (.ret (.bool true)) /\ OldK s₁.heap s'.heap /\ s'.os = s₁.os /\ AllBare s'.gens) s₁ := by
 have rv := zio hi
 have lenV := hi.length
 have core : ∀ H : Hp, ztp H -> SqL K H a (ns.map V.int) -> HOk P w H s₁.heap -> (∀ b, H b ≠ none -> b = a) -> (H a ≠ none -> K.lookup a = none) ->
   codeAny (model P w) callerA (.call (.ref fa) ⟨[.ref a], []⟩) (fun r s' => r = .ok (.ret (.bool true)) /\ OldK s₁.heap s'.heap /\ s'.os = s₁.os /\ AllBare s'.gens) s₁ := by
  intro H hO hS hok hA hK
  have base_of : ∀ {b : Addr} {o : Obj}, s₁.heap.get? b = some o -> H b = none -> (znX s₁.heap H).get? b = some o := fun e n => znW e n
  have noA : ∀ {b : Addr} {o : Obj} {es : Array DictEntry} {ep : Nat}, s₁.heap.get? b = some o -> o.data = .dict es ep -> H b = none := fun {b o es ep} e d => by
   cases q : H b with
   | none => rfl
   | some u =>
    have e' : b = a := hA b (by rw [q]; simp)
    subst e'
    rw [ha] at e; cases e
    have d' : Data.seq vs.toArray _ = Data.dict es ep := d
    cases d'
  have nsK : ∀ {b : Addr} {m : Str -> Option Value}, s₁.heap.Ns b m -> (znX s₁.heap H).Ns b m := fun {b m} ⟨o, es, ep, e, d, r⟩ => ⟨o, es, ep, base_of e (noA e d), d, r⟩
  have hKb : K.In (znX s₁.heap H) := fun b o e => base_of (KX b o e) (by
   cases q : H b with
   | none => rfl
   | some u =>
    have e' : b = a := hA b (by rw [q]; simp)
    subst e'
    rw [hK (by rw [q]; simp)] at e; cases e)
  have hM : Mod K mg (znX s₁.heap H) := ⟨hKb, nsK hns, ⟨mb, nsK hb, hbb⟩, let ⟨mc, h1, h2⟩ := hlim; ⟨mc, nsK h1, h2⟩⟩
  have e0 : Env0 P w K mg (znX s₁.heap H) callerA [] s₁ H := ⟨rfl, hM, fun b o e => zpJ e, Nat.le_of_eq (zmg _ _), trivial, fun b hb => absurd (show b ∈ ([] : List Addr) from hb) (by simp), hok, .of_eq hg⟩
  refine codeAny_mono ((F _ hKb (nsK hns)).run callerA [] s₁ H ⟨[.ref a], []⟩ [.ref a] [.ref a] _ _ hr e0 (hbind s₁ (.ref a)) (.cons rfl .nil) (hsp H hO hS)) fun r s' h => ?_
  cases r with
  | error e => exact (hCX H e s' h).elim
  | ok fl =>
   cases fl with
   | next => exact False.elim h
   | brk => exact False.elim h
   | cont => exact False.elim h
   | ret u =>
    obtain ⟨v, H', os, bare, un, hok', r', q⟩ := h
    have q' : v = .bl true := q
    subst q'
    obtain rfl : u = Value.bool true := r'
    refine ⟨rfl, OldK.of_keep fun b o e => ?_, os, bare⟩
    cases q : H b with
    | none => exact un.keep b o e q (by intro z; exact absurd (show b ∈ ([] : List Addr) from z) (by simp)) (by simp)
    | some u =>
     rcases hO b with z | ⟨ob, xs, z⟩
     ·rw [q] at z; cases z
     ·have z2 := un.frzs b ob _ z
      obtain ⟨e1, _⟩ := hok b _ z
      obtain ⟨e2, _⟩ := hok' b _ z2
      rw [e] at e1; cases e1
      exact e2
 cases hk : K.lookup a with
 | some o =>
  have e := KX a o hk
  rw [ha] at e
  cases e
  refine core (fun _ => none) (fun _ => .inl rfl) (.inr ⟨_, vs.toArray, _, hk, rfl, rfl, rfl, by rw [List.size_toArray, lenV]; exact hl, by simpa using rv⟩) (fun b u z => by have z' : (none : Option HO) = some u := z; cases z') (fun b z => absurd rfl z) fun z => absurd rfl z
 | none =>
  refine core (fun b => if b = a then some (.frz { cls := .type "list", data := .seq vs.toArray } (.lst (ns.map V.int))) else none) (fun b => ?_) (.inl (.inr ⟨{ cls := .type "list", data := .seq vs.toArray }, if_pos rfl⟩)) (fun b u z => ?_) (fun b z => ?_) fun _ => hk
  ·by_cases hb : b = a
   ·exact .inr ⟨_, _, if_pos hb⟩
   ·exact .inl (if_neg hb)
  ·by_cases hb : b = a
   ·have z' := (if_pos hb).symm.trans z
    cases z'
    subst hb
    exact ⟨ha, by rw [qe]; exact hl, vs, _, rv, ha⟩
   ·have z' := (if_neg hb).symm.trans z
    cases z'
  ·by_cases hb : b = a
   ·exact hb
   ·exact absurd (if_neg hb) z
end L2
namespace L2
open PySem PySem.Spec PyProof.Rows
abbrev KOf {K : PySem.W.Frag} {h : Heap} (_ : K.In h) : PySem.W.Frag := K
theorem walk_of {l : PySem.W.OpenLaw} {n k : Nat} {q : Program} {loose : List Str} {XP : (Str -> Option Value) -> Heap -> Prop} {YP : World -> Heap -> Prop} {d : DefRec} {K : Params -> PySem.W.Frag} {CX : World -> CXT} {sp : World -> Sp} {x : Str}
  (hn : l.most = some n) (hn2 : n <= sizeLine) (hdf : d.params.defaults = []) (hr : Room k callerA)
  (hY : ∀ (w : World) (h : Heap), YP w h -> (K w.params).In h)
  (F : ∀ (w : World) (mg : Str -> Option Value) (fa : Addr) (h : Heap), (K w.params).In h -> h.Ns mainGlobals mg -> mg d.name = some (.ref fa) ->
   ∃ fd : FuncData, (∀ (s : Shared) (u : Value), BindsTo s fd ⟨[u], []⟩ [(x, u)]) /\
    ∀ base : Heap, (K w.params).In base -> base.Ns mainGlobals mg -> FnOk l.prog w (K w.params) mg base (CX w) k fa fd [x] (sp w))
  (hsp : ∀ (w : World) (H : Hp) (a : Addr) (ns : List Int), ns.length <= n -> ztp H -> SqL (K w.params) H a (ns.map V.int) -> sp w [.ref a] H (fun v _ => v = .bl true) fun _ _ _ => False)
  (hCX : ∀ (w : World) (H : Hp) (s : Shared) (e : Value) (s' : Shared), CX w [] H s (fun _ _ _ => False) e s' -> False) :
  PySem.W.WalkO q loose XP YP l.row.toRowW d [] (fun f vs => PySem.call f vs) := by
 refine Att.attach_call hn hdf fun w s₀ s₁ mg mb fa o pm cd doc a vs ns G Y ho hd hcd hmg hobj hints hlen hg => ?_
 have KX := hY w _ Y
 obtain ⟨fd, hb, hF⟩ := F w mg fa _ KX G.T.g hmg
 exact znR KX G.T.g G.T.b G.T.builtins G.T.nolimit hg hobj hints (Nat.le_trans hlen hn2) hr hF hb (fun H hO hS => hsp w H a ns hlen hO hS) fun H e s' => hCX w H s₁ e s'
end L2
namespace L2
open PySem PySem.Spec PyProof.Rows
def zhS (s : Stmt) (j : Nat) : Stmt := match s with
 | .ClassDef _ _ _ body _ _ _ _ _ _ _ => body.getD j (.Pass ⟨0, 0, 0, 0⟩)
 | _ => .Pass ⟨0, 0, 0, 0⟩
def zcB (s : Stmt) : Arguments := match s with
 | .FunctionDef _ a _ _ _ _ _ _ _ _ => a
 | _ => { posonlyargs := [], args := [], vararg := none, kwonlyargs := [], kw_defaults := [], kwarg := none, defaults := [] }
def zbh (s : Stmt) : List Stmt := match s with
 | .FunctionDef _ _ b _ _ _ _ _ _ _ => b
 | _ => []
def zal (s : Stmt) : Scope := match s with
 | .FunctionDef _ _ _ _ _ _ sc _ _ _ => sc
 | _ => { kind := .function, names := [], isGenerator := false, isCoroutine := false }
abbrev CX0 : CXT := fun _ _ _ _ _ _ => False
abbrev E0 : XK := fun _ _ _ => False
theorem zlH {X : Cx} : zgF CX0 X E0 := fun _ _ _ _ _ _ _ h => h.elim
structure Fun (K : PySem.W.Frag) (x qual : Str) (st : Stmt) (f : Addr) (fd : FuncData) : Prop where
 ex : ∃ (oc : Value) (od : Option Addr) (kV doc pm : Value) (an : Option Addr) (cdv ct : Value) (osl : Array (Option Value)),
  fd = PySem.W.fnOf x qual (zcB st) (zbh st) (zal st) .none kV doc pm an cdv ct /\ K.lookup f = some ⟨oc, od, .func fd, osl⟩ /\ PySem.W.codeIn K cdv qual = true
 kp : PySem.W.keepIn K (.ref f) = true
section
variable {P : Program} {w : World} {K : PySem.W.Frag} {mg : Str -> Option Value} {base : Heap}
theorem Fun.ok {x qual : Str} {st : Stmt} {f : Addr} {fd : FuncData} {N ps : List Str} {k : Nat} {sp : Sp} (F : Fun K x qual st f fd) (S : FnScope N ps (zal st)) (len : ∀ vs H Q E, sp vs H Q E -> vs.length = ps.length)
  (hbody : ∀ (cdv : Value) (A : Around) (outer : List Env) (s : Shared) (H : Hp) (vs : List V) (Q : VK) (E : XK), Room k (A.deeper (envOfC qual (zal st) s.heap.objs.size f cdv)) -> sp vs H Q E ->
   ∃ t, PSs (zkz CX0 P w K mg base N qual (zal st) f cdv A outer s H E).nox (zbh st) t /\ t { nx := fun _ H' => Q .non H', rt := Q } (zeF N vs) H) : FnOk P w K mg base CX0 (k + 1) f fd ps sp := by
 obtain ⟨oc, od, kV, doc, pm, an, cdv, ct, osl, rfl, lk, hcd⟩ := F.ex
 refine ztd lk hcd S len fun A outer s H vs Q E hr hsp => ?_
 obtain ⟨t, h, q⟩ := hbody cdv A outer s H vs Q E hr hsp
 exact ⟨t, h.nox, q⟩
theorem Fun.binds {x qual : Str} {st : Stmt} {f : Addr} {fd : FuncData} {ps : List Str} (F : Fun K x qual st f fd)
  (h : ∀ (kV doc pm : Value) (an : Option Addr) (cdv ct : Value) (us : List Value), us.length = ps.length -> bindArgs (PySem.W.fnOf x qual (zcB st) (zbh st) (zal st) .none kV doc pm an cdv ct) ⟨us, []⟩ = pure (ps.zip us)) : zdR K fd ps [] := by
 obtain ⟨oc, od, kV, doc, pm, an, cdv, ct, osl, rfl, lk, hcd⟩ := F.ex
 exact .all (h kV doc pm an cdv ct)
theorem zmk {x qual : Str} {st : Stmt} {f : Addr} {oc : Value} {od an : Option Addr} {osl : Array (Option Value)} {kV doc pm cdv ct : Value} (l : K.lookup f = some ⟨oc, od, .func (PySem.W.fnOf x qual (zcB st) (zbh st) (zal st) .none kV doc pm an cdv ct), osl⟩)
  (c : PySem.W.codeIn K cdv qual = true) (k : PySem.W.keepIn K (.ref f) = true) : Fun K x qual st f (PySem.W.fnOf x qual (zcB st) (zbh st) (zal st) .none kV doc pm an cdv ct) := ⟨⟨oc, od, kV, doc, pm, an, cdv, ct, osl, rfl, l, c⟩, k⟩
end
section
variable {X : Cx}
theorem pv (i : Nat) {x : Str} {pos : Pos} (hN : X.N[i]? = some x := by rfl) (hv : Vis X.env.scope x := by first | exact Or.inl rfl | exact Or.inr (Or.inl rfl) | exact Or.inr (Or.inr rfl)) (hd : (x == ("__debug__" : Str)) = false := by decide)
  (hcd : (x == ("__classdict__" : Str)) = false := by decide) : PE X (.Name x pos) (ztw i) := zd5 hN hv hd hcd
end
theorem zqM {A B : Prop} (h : B) : if false = true then A else B := by
 rw [if_neg qp]
 exact h
theorem zqL {A B : Prop} (h : A) : if true = true then A else B := by
 rw [if_pos rfl]
 exact h
def zca (H H' : Hp) : Prop := ∀ b o, H b = some o -> H' b = some o
theorem zca.refl (H : Hp) : zca H H := fun _ _ h => h
theorem zca.trans {H H1 H2 : Hp} (a : zca H H1) (b : zca H1 H2) : zca H H2 := fun c o h => b c o (a c o h)
theorem zca.free {H H' : Hp} (e : zca H H') {l : Addr} (h : H' l = Option.none) : H l = Option.none := by
 cases q : H l with
 | none => rfl
 | some o =>
  rw [e l o q] at h
  cases h
theorem zca.seq {K : PySem.W.Frag} {H H' : Hp} {a : Addr} {xs : List V} (e : zca H H') (h : SqL K H a xs) : SqL K H' a xs := by
 rcases h with (h | ⟨o, h⟩) | h
 ·exact .inl (.inl (e _ _ h))
 ·exact .inl (.inr ⟨o, e _ _ h⟩)
 ·exact .inr h
section
variable {κ : Type} [DecidableEq κ]
end
end L2
end
section
namespace L2
open PySem PySem.Spec PyProof.Rows
theorem zd0 {prog : Program} {w : World} {A : Around} {R : Result -> Shared -> Prop} {s : Shared} {elt target iter : Expr} {ifs : List Expr} {scope : Scope} {pos : Pos} {it acc : Value} {env : Env} (I : Nat -> Shared -> Prop)
  (turn : ∀ n s, I n s -> wpAny (model prog w) A (pyNext it) (fun r s₁ => match r with
   | none => R (.ok .next) s₁
   | some v => wpAny (model prog w) A (letOwnedTupleGo target it v) (fun _ s₁' => wpAny (model prog w) A (assign target env v) (fun _ s₂ =>
     wpAny (model prog w) A (forIn ifs true fun c r => if r = true then do let ok ← isTrue c env (eval c env); pure (ForInStep.yield ok) else pure (ForInStep.yield r)) (fun ok s₃ =>
      if ok = true then wpAny (model prog w) A (eval elt env) (fun x s₄ =>
       wpAny (model prog w) A (call (.builtin "list.append") [acc, x]) (fun _ s₅ => ∃ m, m < n /\ I m s₅) (fun _ _ => False) s₄) (fun _ _ => False) s₃
      else ∃ m, m < n /\ I m s₃) (fun _ _ => False) s₂) (fun _ _ => False) s₁') (fun _ _ => False) s₁) (fun _ _ => False) s)
  (n : Nat) (h : I n s) :
  codeAny (model prog w) A (.compLoop (.ListComp elt [⟨target, iter, ifs, 0⟩] scope pos) 0 it acc env) R s := by
 refine codeAny_loop rfl I (fun n s hI => ?_) n h
 show wpAny _ A ((compTurn (.ListComp elt [⟨target, iter, ifs, 0⟩] scope pos) 0 it acc env).onRaise (fun x => do noteFrame x env; theTreesLotGoes x)) _ _ s
 refine wpAny_noted ?_
 rw [compTurn_list]
 refine qu (wpAny_standAt (qu (wpAny_mono (turn n s hI) (fun r s₁ h₁ => ?_) fun _ _ h' => h'.elim)))
 cases r with
 | none => exact wpAny_pure h₁
 | some v =>
  refine qu (wpAny_mono h₁ (fun _ s₁' h₁' => ?_) fun _ _ h' => h'.elim)
  refine qu (wpAny_mono h₁' (fun _ s₂ h₂ => qu (wpAny_mono h₂ (fun ok s₃ h₃ => ?_) fun _ _ h' => h'.elim)) fun _ _ h' => h'.elim)
  cases ok with
  | false => exact wpAny_pure ⟨rfl, h₃⟩
  | true =>
   exact qu (qu (wpAny_mono h₃ (fun x s₄ h₄ => qu (wpAny_mono h₄ (fun _ s₅ h₅ => wpAny_pure (wpAny_pure ⟨rfl, h₅⟩)) fun _ _ h' => h'.elim)) fun _ _ h' => h'.elim))
def zc0 (X : Cx) (N' : List Str) (scope : Scope) (cl : List (Str × Addr)) (C : Addr) (s₀ : Shared) (H₀ : Hp) (fp : List Addr) : Cx :=
 { X with N := N', s₀ := s₀, H₀ := H₀, env := compEnvC scope cl C X.env, outer := X.stack, stack := X.stack, ex := fp, fn := fun _ => false, pn := [], xe := fun _ _ => False }
def zdx (env : Env) : List (Str × NameKind) -> List (Str × Addr) -> List (Str × Addr)
 | [], acc => acc
 | (n, k) :: r, acc => zdx env r (if k == .free then (match env.cells.lookup n with | some c => (n, c) :: acc | none => acc) else acc)
theorem zh3 {env : Env} {scope : Scope} (h : ∀ y ∈ scope.names, y.2 = .free -> ∃ c, env.cells.lookup y.1 = some c) : closureFor scope env = pure (zdx env scope.names []) := by
 have all : ∀ (l : List (Str × NameKind)) (acc : List (Str × Addr)), (∀ y ∈ l, y.2 = .free -> ∃ c, env.cells.lookup y.1 = some c) ->
   (forIn l acc fun x r => match x with
    | (name, kind) => if kind == .free then do let c ← cellOf env name; pure (ForInStep.yield ((name, c) :: r)) else pure (ForInStep.yield r) : Sem (List (Str × Addr))) = pure (zdx env l acc) := by
  intro l
  induction l with
  | nil => intro acc _; rfl
  | cons y r ih =>
   intro acc hl
   obtain ⟨n, k⟩ := y
   rw [List.forIn_cons]
   have hr : ∀ y ∈ r, y.2 = .free -> ∃ c, env.cells.lookup y.1 = some c := fun y hy => hl y (qg _ hy)
   unfold zdx
   cases hk : (k == NameKind.free) with
   | false =>
    simp only [hk, qo, if_false, pure_bind]
    exact ih acc hr
   | true =>
    obtain ⟨c, hc⟩ := hl (n, k) qf (by simpa using hk)
    have hc' : env.cells.lookup n = some c := hc
    simp only [hk, if_true, cellOf, hc', pure_bind]
    exact ih _ hr
 have e := all scope.names [] h
 exact Eq.trans (bind_pure _) e
theorem zgu {env : Env} : ∀ (l : List (Str × NameKind)) (acc : List (Str × Addr)), (∀ x c, acc.lookup x = some c -> env.cells.lookup x = some c) -> ∀ x c, (zdx env l acc).lookup x = some c -> env.cells.lookup x = some c
 | [], _, h => h
 | (n, k) :: r, acc, h => by
  unfold zdx
  refine zgu r _ ?_
  split
  ·split
   ·rename_i c hc
    intro x d hx
    rw [List.lookup_cons] at hx
    cases e : x == n with
    | true =>
     rw [e] at hx
     have e' : x = n := by simpa using e
     have e2 : c = d := Option.some.inj hx
     rw [e', ← e2]; exact hc
    | false => rw [e] at hx; exact h x d hx
   ·exact h
  ·exact h
theorem zhr {env : Env} : ∀ (l : List (Str × NameKind)) (acc : List (Str × Addr)) (x : Str), (acc.lookup x).isSome = true -> ((zdx env l acc).lookup x).isSome = true
 | [], _, _, h => h
 | (n, k) :: r, acc, x, h => by
  unfold zdx
  refine zhr r _ x ?_
  split
  ·split
   ·rw [List.lookup_cons]
    split
    ·rfl
    ·exact h
   ·exact h
  ·exact h
theorem zgv {env : Env} : ∀ (l : List (Str × NameKind)) (acc : List (Str × Addr)) (x : Str) (c : Addr), (x, NameKind.free) ∈ l -> env.cells.lookup x = some c -> ((zdx env l acc).lookup x).isSome = true
 | [], _, _, _, h, _ => nomatch h
 | (n, k) :: r, acc, x, c, h, hc => by
  unfold zdx
  rcases List.mem_cons.mp h with e | h
  ·injection e with e1 e2
   subst e1; subst e2
   refine zhr r _ _ ?_
   rw [if_pos (by rfl), hc]
   simp
  ·exact zgv r _ x c h hc
theorem zcE {env : Env} : ∀ (names : List (Str × NameKind)) (x : Str) (k' : NameKind),
  (names.map fun (n, k) => if (k == NameKind.free && env.scope.kind == .function && env.kindOf n == some .cell) then (n, NameKind.cell) else (n, k)).lookup x = some k' ->
  names.lookup x = some k' \/ (k' = .cell /\ names.lookup x = some .free)
 | [], _, _, h => by simp at h
 | (n, k) :: r, x, k', h => by
  have ih := @zcE env r x k'
  have h' : List.lookup x ((if (k == NameKind.free && env.scope.kind == .function && env.kindOf n == some .cell) = true then (n, NameKind.cell) else (n, k)) :: (r.map fun (n, k) => if (k == NameKind.free && env.scope.kind == .function && env.kindOf n == some .cell) then (n, NameKind.cell) else (n, k))) = some k' := h
  cases hx : x == n with
  | true =>
   by_cases hc : (k == NameKind.free && env.scope.kind == .function && env.kindOf n == some .cell) = true
   ·rw [if_pos hc] at h'
    simp only [List.lookup_cons, hx] at h' ⊢
    have hk : k = .free := by
     simp only [Bool.and_eq_true, beq_iff_eq] at hc
     exact hc.1.1
    right
    exact ⟨(Option.some.inj h').symm, by rw [hk]⟩
   ·rw [if_neg hc] at h'
    simp only [List.lookup_cons, hx] at h' ⊢
    exact .inl h'
  | false =>
   have h2 : List.lookup x (r.map fun (n, k) => if (k == NameKind.free && env.scope.kind == .function && env.kindOf n == some .cell) then (n, NameKind.cell) else (n, k)) = some k' := by
    by_cases hc : (k == NameKind.free && env.scope.kind == .function && env.kindOf n == some .cell) = true
    ·rw [if_pos hc] at h'
     simpa only [List.lookup_cons, hx] using h'
    ·rw [if_neg hc] at h'
     simpa only [List.lookup_cons, hx] using h'
   simp only [List.lookup_cons, hx]
   exact ih h2
structure CompScope (X : Cx) (scope : Scope) : Prop where
 kind : scope.kind = .function
 nocell : ∀ y ∈ scope.names, y.2 ≠ .cell
 names : ∀ y ∈ scope.names, y.2 = .local -> scope.names.lookup y.1 = some .local
 free : ∀ y ∈ scope.names, y.2 = .free -> X.env.kindOf y.1 = some .cell \/ X.env.kindOf y.1 = some .free
def zmj (fv : List (Option Nat)) (σ : St) : St := fv.map fun o => o.bind fun j => (σ[j]?).join
section
variable {X : Cx} {pins : List (Addr × Obj)} {σ : St} {H : Hp} {s : Shared}
theorem zfx (I : Inv X pins σ H s) {scope : Scope} (S : CompScope X scope) : closureFor scope X.env = pure (zdx X.env scope.names []) :=
 zh3 fun y hy hf => I.ok.has y.1 (S.free y hy hf)
theorem zqu (I : Inv X pins σ H s) {N' : List Str} {scope : Scope} (S : CompScope X scope) {fp : List Addr} (hf : ∀ b ∈ fp, zlb X pins H b) (hlt : ∀ b ∈ fp, b < s.heap.objs.size) {C : Addr} (hC : s.heap.objs.size <= C) :
  (zc0 X N' scope (zdx X.env scope.names []) C s H fp).Ok := by
 have sub := zgu (env := X.env) scope.names [] (fun x c h => by simp at h)
 refine ⟨I.ok.mod, S.kind, I.ok.glob, I.ok.blt, hC, fun x y c h1 h2 => I.ok.inj x y c (sub x c h1) (sub y c h2), fun x hx => ?_, fun x c h _ => by simp [zc0] at h, I.ok.hd, I.ok.frames, .inl rfl, fun b hb => ⟨?_, fun x c e => ?_⟩, I.bs, Nat.le_trans I.ok.bsz I.sz,
  fun b o e hb => ?_, fun b hb => ?_, I.stack, I.stkFree⟩
 ·have hx' : ((relabel scope X.env).names.lookup x = some .cell \/ (relabel scope X.env).names.lookup x = some .free) := hx
  have hfr : scope.names.lookup x = some .free := by
   rcases hx' with h | h
   ·rcases zcE _ _ _ h with h | ⟨_, h⟩
    ·exact absurd rfl (S.nocell _ (PySem.mem_of_lookup h))
    ·exact h
   ·rcases zcE _ _ _ h with h | ⟨h, _⟩
    ·exact h
    ·cases h
  have hm := PySem.mem_of_lookup hfr
  obtain ⟨c, hc⟩ := I.ok.has x (S.free _ hm rfl)
  exact Option.isSome_iff_exists.mp (zgv _ _ x c hm hc)
 ·exact Nat.ne_of_lt (Nat.lt_of_lt_of_le (hlt b hb) hC)
 ·exact (hf b hb).2.2.2.2.1 x c (sub x c e)
 ·rcases (hf b hb).2.2.2.1 with z | z
  ·exact I.ok.noex b o e z
  ·exact absurd (Nat.lt_of_lt_of_le (qr e) I.ok.bsz) (Nat.not_lt.mpr z)
 ·intro z
  rcases List.mem_cons.mp (I.stkSub b z) with e | e
  ·exact (hf b hb).2.1 e
  ·exact (hf b hb).2.2.1 e
theorem zk4 (I : Inv X pins σ H s) {N' : List Str} {scope : Scope} (S : CompScope X scope) {fp : List Addr} (hf : ∀ b ∈ fp, zlb X pins H b) (hlt : ∀ b ∈ fp, b < s.heap.objs.size) {C : Addr} (hC : C = s.heap.objs.size) {fv : List (Option Nat)} (hlen : fv.length = N'.length)
  (hfv : ∀ (i j : Nat) x, N'[i]? = some x -> fv[i]? = some (some j) -> X.N[j]? = some x /\ (X.env.kindOf x = some .cell \/ X.env.kindOf x = some .free) /\ scope.names.lookup x = some .free) {h' : Heap} {t' : Nat} {m : Str -> Option Value} (hn : h'.Ns C m) (hk : ∀ b o, s.heap.get? b = some o -> h'.get? b = some o) :
  Inv (zc0 X N' scope (zdx X.env scope.names []) C s H fp) [] (zmj fv σ) H { s with heap := h', toks := t' } := by
 have ok := zqu (N' := N') I S hf hlt (C := C) (Nat.le_of_eq hC.symm)
 have sub := zgu (env := X.env) scope.names [] (fun x c h => by simp at h)
 refine ⟨ok, rfl, I.bare, Un.kept hk, ⟨m, hn, fun i x v e1 e2 e3 => ?_⟩, fun x c e => ?_, ?_, fun x c e => I.freeC x c (sub x c e), fun p hp => ?_, I.hok.kept hk, ?_⟩
 ·have e1' : N'[i]? = some x := e1
  have e2' : (zmj fv σ)[i]? = some (some v) := e2
  unfold zmj at e2'
  rw [qj] at e2'
  cases q : fv[i]? with
  | none => rw [q] at e2'; cases e2'
  | some o =>
   rw [q] at e2'
   cases o with
   | none => cases e2'
   | some j =>
    have e2'' : (σ[j]?).join = some v := by simpa using e2'
    obtain ⟨hN, hkk, hfree⟩ := hfv i j x e1' q
    have hσ : σ[j]? = some (some v) := by
     cases z : σ[j]? with
     | none => rw [z] at e2''; cases e2''
     | some w => rw [z] at e2''; cases w with
      | none => cases e2''
      | some w' => simp at e2''; rw [e2'']
    obtain ⟨m0, hn0, hl⟩ := I.loc
    obtain ⟨u, r, l⟩ := hl j x v hN hσ (.inr hkk)
    refine ⟨u, r, .inr ⟨?_, ?_⟩⟩
    ·rcases e3 with z | z | z
     ·have z' : (relabel scope X.env).names.lookup x = some .local := z
      rcases zcE _ _ _ z' with y | ⟨y, _⟩
      ·rw [hfree] at y; cases y
      ·cases y
     ·exact .inl z
     ·exact .inr z
    ·rcases l with ⟨k, _⟩ | ⟨_, c, hc, hcell⟩
     ·rcases hkk with y | y
      ·rw [k] at y; cases y
      ·rw [k] at y; cases y
     ·obtain ⟨c', hc'⟩ := Option.isSome_iff_exists.mp (zgv scope.names [] x c (PySem.mem_of_lookup hfree) hc)
      have e := sub x c' hc'
      rw [hc] at e
      cases e
      obtain ⟨oc, ho, hd⟩ := hcell
      exact ⟨c, hc', oc, hk _ _ ho, hd⟩
 ·obtain ⟨v, oc, ho, hd⟩ := I.cell x c (sub x c e)
  exact ⟨v, oc, hk _ _ ho, hd⟩
 ·exact I.hok.fresh (Nat.le_of_eq hC.symm)
 ·exact absurd (show p ∈ ([] : List (Addr × Obj)) from hp) (by simp)
 ·show (zmj fv σ).length = N'.length
  unfold zmj
  rw [qe, hlen]
theorem zoc (I : Inv X pins σ H s) {N' : List Str} {scope : Scope} {cl : List (Str × Addr)} {fp : List Addr} (hf : ∀ b ∈ fp, zlb X pins H b) {C : Addr} (hC : s.heap.objs.size <= C) {σ' : St} {H' : Hp} {s' : Shared} {pl : List (Addr × Obj)}
  (J : Inv (zc0 X N' scope cl C s H fp) pl σ' H' s') {h' : Heap} (hs : Heap.SameBut C s'.heap h') : Inv X pins σ H' { s' with heap := h' } := by
 have hCn : H' C = none := J.free
 refine I.call' (ch := fp) (s' := { s' with heap := h' }) J.os ?_ ?_ J.bare fun b hb => ⟨(hf b hb).2.2.2.1, (hf b hb).2.1, (hf b hb).2.2.2.2.1, (hf b hb).2.2.2.2.2⟩
 ·have U : Un (frs X.stack) fp H H' s.heap s'.heap := J.base
  have neC : ∀ b o, s.heap.get? b = some o -> b ≠ C := fun b o e => Nat.ne_of_lt (Nat.lt_of_lt_of_le (qr e) hC)
  refine ⟨fun b o e n h1 h2 => ?_, fun b o e n h1 h2 => ?_, U.free, fun b o e h2 => ?_, U.tups, U.frzs, U.tbls⟩
  ·exact (hs.2 b (neC b o e)).trans (U.keep b o e n h1 h2)
  ·obtain ⟨sl, q⟩ := U.slot b o e n h1 h2
   exact ⟨sl, (hs.2 b (neC b o e)).trans q⟩
  ·obtain ⟨o', q⟩ := U.there b o e h2
   exact ⟨o', (hs.2 b (neC b o e)).trans q⟩
 ·intro b u e
  refine (J.hok b u e).stay (fun c v hc q => (hs.2 c ?_).trans q) (fun _ q => q) fun _ _ q => q
  rintro rfl
  rcases hc with z | z
  ·rw [← z, hCn] at e; cases e
  ·rw [hCn] at z; cases z
end
end L2
end
section
namespace L2
open PySem PySem.Spec PyProof.Rows
def PTs (X : Cx) (es : List Expr) (t : TT) : Prop :=
 ∀ (pins : List (Addr × Obj)) (s : Shared) (σ : St) (H : Hp) (Q : Bool -> Hp -> Prop), Inv X pins σ H s -> t σ H Q ->
  wpAny (model X.prog X.w) X.A (forIn es true fun c r => if r = true then do let ok ← isTrue c X.env (eval c X.env); pure (ForInStep.yield ok) else pure (ForInStep.yield r)) (TP X pins σ Q) X.xe s
def zsB : TT := fun _ H Q => Q true H
theorem zpk {X : Cx} : PTs X [] zsB := fun _ _ _ H _ I h => wpAny_tests_nil ⟨H, I, h⟩
theorem zpj {X : Cx} {c : Expr} {t : TT} (hc : PT X c t) : PTs X [c] t := fun pins s σ H Q I h => wpAny_tests_one (hc pins s σ H Q I h)
def LcW (J : It) (g : TG) (tc : TT) (te : TE) (acc : Addr) (Q : V -> Hp -> Prop) (σ0 : St) (H1 : Hp) : Prop :=
 ∃ W : Nat -> Nat -> List V -> St -> Hp -> Prop, (∃ m, W 0 m [] σ0 (upd H1 acc (.lst []))) /\ ∀ i m ys σ' H', W i m ys σ' H' -> H' acc = some (.lst ys) /\
  ((J.stop i H' /\ Q (.ref acc) H') \/ (J.go i H' /\ ∀ x H2, J.yld i H' x H2 -> g x σ' H2 fun σ2 H3 => tc σ2 H3 fun b H4 =>
   if b = true then te σ2 H4 fun v H5 => H5 acc = some (.lst ys) /\ ys.length < sizeLine /\ ∃ m', m' < m /\ W (i + 1) m' (ys ++ [v]) σ2 (upd H5 acc (.lst (ys ++ [v])))
   else ∃ m', m' < m /\ W (i + 1) m' ys σ2 H4))
def tLC (wi : TI) (g : TG) (tc : TT) (te : TE) (fv : List (Option Nat)) : TE := fun σ H Q => wi σ H fun J H1 => ∀ acc, H1 acc = none -> LcW J g tc te acc Q (zmj fv σ) H1
def PB (X : Cx) (N' : List Str) (scope : Scope) (tg : Expr) (ifs : List Expr) (elt : Expr) (g : TG) (tc : TT) (te : TE) : Prop :=
 ∀ (cl : List (Str × Addr)) (C : Addr) (s₀ : Shared) (H₀ : Hp) (fp : List Addr), PG (zc0 X N' scope cl C s₀ H₀ fp) tg g /\ PTs (zc0 X N' scope cl C s₀ H₀ fp) ifs tc /\ PE (zc0 X N' scope cl C s₀ H₀ fp) elt te
structure FvOk (X : Cx) (N' : List Str) (scope : Scope) (fv : List (Option Nat)) : Prop where
 len : fv.length = N'.length
 at' : ∀ (i j : Nat) x, N'[i]? = some x -> fv[i]? = some (some j) -> X.N[j]? = some x /\ (X.env.kindOf x = some .cell \/ X.env.kindOf x = some .free) /\ scope.names.lookup x = some .free
section
variable {X : Cx} {elt tg iter : Expr} {ifs : List Expr} {scope : Scope} {pos : Pos} {N' : List Str} {fv : List (Option Nat)} {g : TG} {tc : TT} {te : TE}
theorem zkA {pins : List (Addr × Obj)} {σ : St} {H1 : Hp} {s2 : Shared} {it : Addr} {fp : List Addr} {tn : Nat -> Heap -> Prop} {J : It} {Q : VK} {RR : Value -> Addr -> Result -> Shared -> Prop} (hc : X.calm = true) (S : CompScope X scope) (F : FvOk X N' scope fv) (hb : PB X N' scope tg ifs elt g tc te)
  (I2 : Inv X pins σ H1 s2) (T : Turn X.prog X.w X.K tg J fp it tn) (st2 : tn 0 s2.heap) (f2 : ∀ b ∈ fp, zlb X pins H1 b) (q : ∀ acc, H1 acc = none -> LcW J g tc te acc Q (zmj fv σ) H1)
  (hRR : ∀ (a C : Addr) (H' : Hp) (s' : Shared) (m : Str -> Option Value), s'.heap.Ns C m -> (∀ h', Heap.SameBut C s'.heap h' -> Inv X pins σ H' { s' with heap := h' }) -> zlb X pins H' C -> Q (.ref a) H' -> RR (.ref a) C (.ok .next) s') :
  wpAny (model X.prog X.w) X.A (newList []) (fun acc s₃ => wpAny (model X.prog X.w) X.A (newFunctionEnv scope X.env.globals (zdx X.env scope.names []) [] X.env.qual none .none (some X.env)) (fun cenv s₄ =>
   codeAny (model X.prog X.w) X.A (.compStart (.ListComp elt [⟨tg, iter, ifs, 0⟩] scope pos) 0 (.ref it) acc { cenv with scope := relabel scope X.env }) (RR acc cenv.locals) s₄) X.xe s₃) X.xe s2 := by
 refine wpAny_newObj_type ?_
 have hacc : H1 s2.heap.objs.size = none := I2.fresh
 have I3 : Inv X pins σ (upd H1 s2.heap.objs.size (.lst [])) { s2 with heap := s2.heap.push { cls := .type "list", data := .seq ([] : List Value).toArray } } := I2.lnew (t' := s2.toks) .nil (Nat.zero_le _)
 generalize hs3 : ({ s2 with heap := s2.heap.push { cls := .type "list", data := .seq ([] : List Value).toArray } } : Shared) = s3 at I3 ⊢
 have up : ∀ b o, s2.heap.get? b = some o -> s3.heap.get? b = some o := fun b o e => by rw [← hs3]; exact qq _ e
 have lt2 : ∀ b ∈ fp, b < s2.heap.objs.size := fun b hb => by
  obtain ⟨o, e, _⟩ := T.obj 0 _ st2 b hb
  exact qr e
 have sz3 : s2.heap.objs.size < s3.heap.objs.size := by rw [← hs3]; show _ < (s2.heap.push _).objs.size; rw [Heap.size_push]; exact Nat.lt_succ_self _
 have lt3 : ∀ b ∈ fp, b < s3.heap.objs.size := fun b hb => Nat.lt_trans (lt2 b hb) sz3
 have f3 : ∀ b ∈ fp, zlb X pins (upd H1 s2.heap.objs.size (.lst [])) b := fun b hb => ⟨by rw [zaw (Nat.ne_of_lt (lt2 b hb))]; exact (f2 b hb).1, (f2 b hb).2⟩
 have st3 : tn 0 s3.heap := T.keep _ _ _ st2 fun b _ o e => up b o e
 refine wpAny_newFunctionEnv S.nocell (by intro y hy; simp at hy) (fun h4 hn4 sb4 => ?_) S.kind
 have k4 : ∀ b o, s3.heap.get? b = some o -> h4.get? b = some o := fun b o e => (sb4.2 b (Nat.ne_of_lt (qr e))).trans (qq _ e)
 have st4 : tn 0 h4 := T.keep _ _ _ st3 fun b _ o e => k4 b o e
 have I4 := zk4 I3 S f3 lt3 (C := s3.heap.objs.size) rfl F.len F.at' hn4 k4 (t' := s3.toks + ([] : List (Str × Value)).length)
 generalize hX : zc0 X N' scope (zdx X.env scope.names []) s3.heap.objs.size s3 (upd H1 s2.heap.objs.size (.lst [])) fp = X' at I4
 obtain ⟨bg, bt, be⟩ := hb (zdx X.env scope.names []) s3.heap.objs.size s3 (upd H1 s2.heap.objs.size (.lst [])) fp
 rw [hX] at bg bt be
 have hprog : X'.prog = X.prog := by rw [← hX]; rfl
 have hw : X'.w = X.w := by rw [← hX]; rfl
 have hK : X'.K = X.K := by rw [← hX]; rfl
 have hA : X'.A = X.A := by rw [← hX]; rfl
 have hcalm : X'.calm = true := by rw [← hX]; exact hc
 have hxe : X'.xe = fun _ _ => False := by rw [← hX]; rfl
 have henv : X'.env = compEnvC scope (zdx X.env scope.names []) s3.heap.objs.size X.env := by rw [← hX]; rfl
 have stat : ∀ {H' : Hp}, (∀ b ∈ fp, H' b = none) -> ∀ b ∈ fp, zlb X' [] H' b := fun {H'} hn b hb => by
  have f := f3 b hb
  have ok := I4.ok
  refine ⟨hn b hb, (ok.exf b (by rw [← hX]; exact hb)).1, ok.exfs b (by rw [← hX]; exact hb), .inl (by rw [← hX]; exact hb), fun x c e => (ok.exf b (by rw [← hX]; exact hb)).2 x c e, fun p hp => ?_⟩
  rw [← hX] at hp
  exact absurd (show p ∈ ([] : List (Addr × Obj)) from hp) (by simp)
 obtain ⟨W, ⟨m0, w0⟩, turn⟩ := q s2.heap.objs.size hacc
 have loop : ∀ s5 : Shared, s5 = { s3 with heap := h4, toks := s3.toks + ([] : List (Str × Value)).length } ->
   codeAny (model X.prog X.w) X.A (.compLoop (.ListComp elt [⟨tg, iter, ifs, 0⟩] scope pos) 0 (.ref it) (.ref s2.heap.objs.size) (compEnvC scope (zdx X.env scope.names []) s3.heap.objs.size X.env))
    (RR (.ref s2.heap.objs.size) s3.heap.objs.size) s5 := by
  intro s5 hs5
  refine zd0 (fun n s' => ∃ i ys σ' H', Inv X' [] σ' H' s' /\ tn i s'.heap /\ (∀ b ∈ fp, H' b = none) /\ W i n ys σ' H') ?_ m0 ⟨0, [], zmj fv σ, _, hs5 ▸ I4, hs5 ▸ st4, fun b hb => (f3 b hb).1, w0⟩
  rintro n s6 ⟨i, ys, σ6, H6, I6, st6, fr6, w6⟩
  obtain ⟨ha6, turn6⟩ := turn i n ys σ6 H6 w6
  rw [← henv]
  rcases turn6 with ⟨stop, qn⟩ | ⟨go, step⟩
  ·have d := T.done X' hprog hw hK hcalm i [] s6 σ6 H6 (fun _ _ => False) I6 (stat fr6) st6 stop
   rw [hA] at d
   refine thn d fun r s7 ⟨hr, I7⟩ => ?_
   subst hr
   obtain ⟨m7, hn7, _⟩ := I7.loc
   have hl : X'.env.locals = s3.heap.objs.size := by rw [henv]; rfl
   refine hRR _ _ H6 s7 m7 (hl ▸ hn7) (fun h' hs' => ?_) ?_ qn
   ·rw [← hX] at I7
    exact zoc I3 f3 (qt _) I7 hs'
   ·exact I3.fpOk (qt _) (by have := I7.free; rw [hl] at this; exact this)
  ·have d := T.item X' hprog hw hK hcalm i [] s6 σ6 H6 (fun _ _ => False) I6 (stat fr6) st6 go
   rw [hA] at d
   refine thn d fun r s7 ⟨u, hr, h7⟩ => ?_
   subst hr
   refine thn h7 fun _ s8 ⟨x, H8, I8, r8, y8, st8, fr8⟩ => ?_
   have I8' := I8.pinned (stat fr8) (T.obj _ _ st8)
   have dg := bg _ s8 σ6 H8 x u _ I8' r8 (step x H8 y8)
   rw [hprog, hw, hA, hxe] at dg
   refine thn dg fun _ s9 ⟨σ9, H9, I9, q9⟩ => ?_
   have dt := bt _ s9 σ9 H9 _ I9 q9
   rw [hprog, hw, hA, hxe] at dt
   refine thn dt fun b s10 ⟨H10, I10, q10⟩ => ?_
   have again : ∀ {σ7 : St} {H7 : Hp} {s7 : Shared} {ys' : List V}, Inv X' ([] ++ ziH fp s8.heap) σ7 H7 s7 -> (∃ m', m' < n /\ W (i + 1) m' ys' σ7 H7) -> ∃ m, m < n /\ ∃ i ys σ' H', Inv X' [] σ' H' s7 /\ tn i s7.heap /\ (∀ b ∈ fp, H' b = none) /\ W i m ys σ' H' := fun {σ7 H7 s7 ys'} I7 n7 => by
    obtain ⟨m', hm, w7⟩ := n7
    refine ⟨m', hm, i + 1, ys', σ7, H7, I7.unpinned, T.keep _ _ _ st8 fun b hb o e => (I7.pin (b, o) (List.mem_append_right _ (List.mem_append_right _ (zdV hb e)))).1, fun b hb => ?_, w7⟩
    obtain ⟨o, e, _⟩ := T.obj _ _ st8 b hb
    exact (I7.pin (b, o) (List.mem_append_right _ (List.mem_append_right _ (zdV hb e)))).2.1
   cases b with
   | false =>
    rw [if_neg qp] at q10 ⊢
    exact again I10 q10
   | true =>
    rw [if_pos rfl] at q10 ⊢
    have de := be _ s10 σ9 H10 _ I10 q10
    rw [hprog, hw, hA, hxe] at de
    refine thn de fun v s11 ⟨y, H11, I11, r11, ha11, hz11, n11⟩ => ?_
    have da := ziN _ s11 σ9 H11 (.ref s2.heap.objs.size) [y] (.ref s2.heap.objs.size) [v] (fun _ H' => H' = upd H11 s2.heap.objs.size (.lst (ys ++ [y]))) I11 rfl (.cons r11 .nil) ⟨_, ys, y, rfl, rfl, ha11, hz11, rfl⟩
    rw [hprog, hw, hA, hxe] at da
    refine thn da fun _ s12 ⟨_, H12, I12, _, e12⟩ => ?_
    subst e12
    exact again I12 n11
 exact codeAny_compStart_list (loop _ rfl) (T.self _ 0 _ _ _ st4 (loop _ rfl))
theorem zsT {wi : TI} (hc : X.calm = true) (S : CompScope X scope) (F : FvOk X N' scope fv) (hi : PI X tg iter wi) (hb : PB X N' scope tg ifs elt g tc te) (hs : ∀ x, foldedSetIterable iter X.env x = pure x := by intro _; rfl) :
  PE X (.ListComp elt [⟨tg, iter, ifs, 0⟩] scope pos) (tLC wi g tc te fv) := by
 intro pins s σ H Q I h
 rw [eval_ListComp]
 refine wpAny_comprehension_free (use := none) rfl hs (zfx I S) S.kind S.names (thn (hi pins s σ H _ I h) fun x s1 h1 => thn h1 fun itv s2 h2 => ?_)
 obtain ⟨it, fp, tn, J, H1, e, I2, T, st2, f2, q⟩ := h2
 subst e
 refine zkA (RR := fun acc C => compPost (model X.prog X.w) X.A X.xe none (EP X pins σ Q) acc C) hc S F hb I2 T st2 f2 q ?_
 intro a C H' s' m hn hI hCL hq
 exact ⟨m, hn, fun h' hs' => ⟨.ref a, H', hI h' hs', rfl, hq⟩⟩
theorem zrf {wi : TI} {i : Nat} {y : Str} {py spos : Pos} (hN : X.N.Nodup) (hy : X.N[i]? = some y) (hyl : X.env.scope.names.lookup y = some .local) (hc : X.calm = true) (S : CompScope X scope) (F : FvOk X N' scope fv) (hi : PI X tg iter wi) (hb : PB X N' scope tg ifs elt g tc te)
  (hsw : swapsWith (.ListComp elt [⟨tg, iter, ifs, 0⟩] scope pos) (some (.Name y py)) spos.line X.env = pure true)
  (hs : ∀ x, foldedSetIterable iter X.env x = pure x := by intro _; rfl) :
  PS X (.Assign [.Name y py] (.ListComp elt [⟨tg, iter, ifs, 0⟩] scope pos) spos) (zsu (tLC wi g tc te fv) (zmi i)) := by
 intro pins s σ H D I h
 rw [exec_Assign_Name_used _ _ _ _ hsw]
 refine qu (wpAny_standAt (qu ?_))
 show wpAny _ _ (do let _ ← comprehension (.ListComp elt [⟨tg, iter, ifs, 0⟩] scope pos) scope X.env _ (newList []) false (eval iter X.env) (some (assign (.Name y py) X.env))) _ _ s
 refine qu (wpAny_mono (wpAny_comprehension_free (use := some (assign (.Name y py) X.env)) (Q := fun _ s' => SP X pins D .next s') rfl hs (zfx I S) S.kind S.names
  (thn (hi pins s σ H _ I h) fun x s1 h1 => thn h1 fun itv s2 h2 => ?_)) (fun _ s' hq => wpAny_pure (wpAny_pure hq)) fun _ _ e => e)
 obtain ⟨it, fp, tn, J, H1, e, I2, T, st2, f2, q⟩ := h2
 subst e
 refine zkA (RR := fun acc C => compPost (model X.prog X.w) X.A X.xe (some (assign (.Name y py) X.env)) (fun _ s' => SP X pins D .next s') acc C) hc S F hb I2 T st2 f2 q ?_
 intro a C H' s' m hn hI hCL hq
 show wpAny _ _ (assign (.Name y py) X.env (.ref a)) _ _ _
 have I' : Inv X pins σ H' s' := hI s'.heap (Heap.SameBut.refl _ _)
 refine wpAny_assign_Name ?_
 refine zis (v := .ref a) I' hN hy (.inl hyl) rfl (fun s'' I'' hch => ?_) (.inr hyl)
 obtain ⟨ad, hsb, had⟩ := hch
 obtain ⟨f0, f1, f2', f3, f4, f5⟩ := hCL
 have hne : C ≠ ad := by
  rcases had with z | z
  ·rw [z]; exact f1
  ·exact fun e => f4 y ad z e.symm
 refine ⟨m, hn.sameBut hsb hne, fun h' hs' => ?_⟩
 exact ⟨_, H', I''.turned (t' := s''.toks) (fun b o hb e => (hs'.2 b hb).trans e) f0 f1 f3 f4 f5, hq⟩
end
end L2
end
section
namespace L2
open PySem PySem.Spec PyProof.Rows
def Its (x : Str) : It := ⟨fun i _ => i < x.cps.size, fun i H v H' => H' = H /\ ∃ c, x.cps[i]? = some c /\ v = .str ⟨#[c]⟩, fun i _ => i = x.cps.size⟩
theorem zqb {M : Model} {A : Around} {E : Value -> Shared -> Prop} {s : Shared} {n : Str} {p : Pos} {it : Value} {u : Value} {Q : Unit -> Shared -> Prop} (hQ : Q () s) : wpAny M A (letOwnedTupleGo (.Name n p) it u) Q E s := wpAny_pure hQ
theorem zj2 {P : Program} {w : World} {K : PySem.W.Frag} {n : Str} {p : Pos} {ty : String} (it : Addr) (x : Str) (t : Tok)
  (W : ∀ A : Around, A.handled = none -> Walks P w A it [it] [it] x.cps.size (SignAt x) (fun i h => h.IsStrIter it ty x t i))
  (sf : ∀ (A : Around) (i : Nat) (s : Shared) (Q : Value -> Shared -> Prop) (E : Value -> Shared -> Prop), s.heap.IsStrIter it ty x t i -> Q (.ref it) s -> wpAny (model P w) A (pyIter (.ref it)) Q E s) : Turn P w K (.Name n p) (Its x) [it] it (fun i h => h.IsStrIter it ty x t i) where
 mem := by simp
 obj := fun i h st b hb => by
  have e : b = it := by simpa using hb
  subst e
  obtain ⟨o, e, c, d⟩ := st
  exact ⟨o, e, fun v z => by rw [d] at z; cases z⟩
 keep := fun i h h' st k => by
  obtain ⟨o, e, r⟩ := st
  exact ⟨o, k it (by simp) o e, r⟩
 item := by
  intro X hP hw hK hc i pins s σ H E I hf st hg
  subst hP hw hK
  obtain ⟨f0, f1, f2, f3, f4, f5⟩ := hf it (by simp)
  refine (W X.A (I.ok.hd hc)).item i s _ _ hg st fun v h' tk hv st' kk => ?_
  obtain ⟨c, u, hcc, rfl⟩ := hv
  have I1 : Inv X pins σ H { s with heap := h', toks := tk } := I.turned (fun b o hb e => kk b o (by simpa using hb) e) f0 f1 f3 f4 f5
  exact ⟨_, rfl, zqb ⟨.str ⟨#[c]⟩, H, I1, ⟨_, rfl⟩, ⟨rfl, c, hcc, rfl⟩, st', fun b hb => (hf b hb).1⟩⟩
 done := by
  intro X hP hw hK hc i pins s σ H E I hf st hg
  subst hP hw hK
  obtain ⟨f0, f1, f2, f3, f4, f5⟩ := hf it (by simp)
  have hi : i = x.cps.size := hg
  subst hi
  exact (W X.A (I.ok.hd hc)).done s _ _ st fun h' tk kk => ⟨rfl, I.turned (fun b o hb e => kk b o (by simpa using hb) e) f0 f1 f3 f4 f5⟩
 self := sf
def zt5 (te : TE) : TI := fun σ H R => te σ H fun v H1 => ∃ x, v = .str x /\ R (Its x) H1
theorem zrk {X : Cx} {e : Expr} {te : TE} {n : Str} {p : Pos} (he : PE X e te) : PI X (.Name n p) e (zt5 te) := by
 intro pins s σ H R I h
 refine thn (he pins s σ H _ I h) fun v s1 ⟨y, H1, I1, r1, q1⟩ => ?_
 obtain ⟨x, e, q⟩ := q1
 subst e
 obtain ⟨t, rfl⟩ := r1
 have fin : ∀ (ty : String) (o : Obj), (s1.heap.push o).IsStrIter s1.heap.objs.size ty x t 0 -> Turn X.prog X.w X.K (.Name n p) (Its x) [s1.heap.objs.size] s1.heap.objs.size (fun i h => h.IsStrIter s1.heap.objs.size ty x t i) ->
   PIE X pins σ (.Name n p) R (.ref s1.heap.objs.size) { s1 with heap := s1.heap.push o } := fun ty o st T => by
  refine ⟨s1.heap.objs.size, [s1.heap.objs.size], _, _, H1, rfl, I1.kept (t' := s1.toks) fun b o e => qq _ e, T, st, fun b hb => ?_, q⟩
  have e : b = s1.heap.objs.size := by simpa using hb
  subst e
  exact I1.fpOk (qt _) (I1.hok.fresh (qt _))
 cases ha : x.cps.all (· < 128)
 ·exact wpAny_pyIter_wide ha (fin _ _ ⟨_, Heap.get?_push_size _ rfl, rfl, rfl⟩ (zj2 _ x t (fun A' hA => Walks.strWide hA _ x t) fun _ _ _ _ _ st h => wpAny_pyIter_striter_wide st h))
 ·exact wpAny_pyIter_ascii ha (fin _ _ ⟨_, Heap.get?_push_size _ rfl, rfl, rfl⟩ (zj2 _ x t (fun A' hA => Walks.strAscii hA _ x t) fun _ _ _ _ _ st h => wpAny_pyIter_striter_ascii st h))
def Ite (K : PySem.W.Frag) (a : Addr) : It :=
 ⟨fun i H => ∃ xs x, SqL K H a xs /\ xs[i]? = some x, fun i H v H' => ∃ T x, v = .ref T /\ H T = none /\ H' = upd H T (.tup [.int i, x]) /\ ∀ xs, SqL K H a xs -> xs[i]? = some x, fun i H => ∃ xs, SqL K H a xs /\ xs.length <= i⟩
theorem zli {P : Program} {w : World} {K : PySem.W.Frag} {elts : List Expr} {k1 : Nat} {pos : Pos} (e it a : Addr) (hei : e ≠ it) :
  Turn P w K (.Tuple elts k1 pos) (Ite K a) [e, it] e (fun i h => (∃ old, IsEnum h e it i old) /\ h.IsListIter it a i) where
 mem := by simp
 obj := fun i h st b hb => by
  obtain ⟨⟨old, he⟩, o, ho, c, d⟩ := st
  rcases List.mem_cons.mp hb with z | z
  ·subst z
   exact ⟨_, he, fun v z => by cases z⟩
  ·have z' : b = it := by simpa using z
   subst z'
   exact ⟨o, ho, fun v z => by rw [d] at z; cases z⟩
 keep := fun i h h' st k => by
  obtain ⟨⟨old, he⟩, hi⟩ := st
  exact ⟨⟨old, k e (by simp) _ he⟩, hi.at fun o x => k it (by simp) o x⟩
 item := by
  intro X hP hw hK hc i pins s σ H E I hf st hg
  subst hP hw hK
  obtain ⟨xs, x, hq, hx⟩ := hg
  obtain ⟨its, rv, p, hz⟩ := I.list hq
  obtain ⟨u, hu, ru⟩ := rv.get hx
  obtain ⟨⟨old, he⟩, hit⟩ := st
  obtain ⟨e0, e1, e2, e3, e4, e5⟩ := hf e (by simp)
  obtain ⟨f0, f1, f2, f3, f4, f5⟩ := hf it (by simp)
  have helt : e < s.heap.objs.size := qr he
  have hilt : it < s.heap.objs.size := by obtain ⟨_, x, _⟩ := hit; exact qr x
  refine wpAny_pyNext_enum_item he hit p.isList (x := u) (by simpa using hu) hei fun h' ho hit' hT hsz hk => ?_
  refine ⟨_, rfl, wpAny_letOwnedTupleGo_enum ho fun h2 he2 hs2 => ?_⟩
  have hs2' : Heap.SameBut e h' h2 := hs2
  have kk : ∀ b o, b ≠ e -> b ≠ it -> s.heap.get? b = some o -> h2.get? b = some o := fun b o h1 h3 q => (hs2'.2 b h1).trans (hk b o h1 h3 q)
  have hT2 : h2.get? s.heap.objs.size = some { cls := .type "tuple", data := .seq #[.int i s.toks, u] } := (hs2'.2 _ (Nat.ne_of_gt helt)).trans hT
  have nH : H s.heap.objs.size = none := I.fresh
  have I1 : Inv X pins σ (upd H s.heap.objs.size (.tup [.int i, x])) { s with heap := h2, toks := s.toks + 1 } := by
   have ne : ∀ b o, H b = some o -> b ≠ e /\ b ≠ it := fun b o q => ⟨fun z => (by rw [z, e0] at q; cases q), fun z => (by rw [z, f0] at q; cases q)⟩
   refine I.step (g' := s.gens) (d' := s.drawn) (ch := [e, it]) (fun b hb => ?_) (fun b o _ _ hc q _ => kk b o (fun z => hc (by simp [z])) (fun z => hc (by simp [z])) q) (fun b o _ _ hc q _ => ⟨o.slots, kk b o (fun z => hc (by simp [z])) (fun z => hc (by simp [z])) q⟩) (fun b o _ q n => ?_)
    (fun b o hc q => ⟨o, kk b o (fun z => hc (by simp [z])) (fun z => hc (by simp [z])) q⟩) (fun b ys q => ?_) (fun b o y q => ?_) (fun b ps q => ⟨#[], ?_⟩) (fun m hm => ?_) (fun b v q => ?_) I.bare
   ·rcases List.mem_cons.mp hb with z | z
    ·subst z; exact ⟨e3, e1, e4, e5⟩
    ·have z' : b = it := by simpa using z
     subst z'; exact ⟨f3, f1, f4, f5⟩
   ·rw [zaw (Nat.ne_of_lt (qr q))]; exact n
   ·rw [zaw (zap q nH)]; exact q
   ·rw [zaw (zap q nH)]; exact q
   ·rw [zaw (zap q nH), q]; simp
   ·obtain ⟨o, es, ep, q, r⟩ := hm
    exact ⟨o, es, ep, kk _ o (Ne.symm e1) (Ne.symm f1) q, r⟩
   ·by_cases hb : b = s.heap.objs.size
    ·subst hb
     rw [zaC] at q
     cases q
     exact ⟨by show 2 <= sizeLine; decide, [.int i s.toks, u], .cons ⟨_, rfl⟩ (.cons ru .nil), ⟨_, hT2, rfl, _, rfl⟩⟩
    ·rw [zaw hb] at q
     refine (I.hok b v q).stay (fun c v hc r => ?_) (fun c r => by rw [zaw (zap r nH)]; exact r) fun c ys r => by rw [zaw (zap r nH)]; exact r
     rcases hc with z | z
     ·rw [z] at r ⊢; exact kk b v (ne b _ q).1 (ne b _ q).2 r
     ·exact kk c v (ne c _ z).1 (ne c _ z).2 r
  refine ⟨.ref s.heap.objs.size, _, I1, rfl, ⟨_, x, rfl, nH, rfl, fun ys hy => by rw [I.list_inj hy hq]; exact hx⟩, ⟨⟨_, by simpa using he2⟩, hit'.at fun o y => (hs2'.2 it hei.symm).trans y⟩, fun b hb => ?_⟩
  rcases List.mem_cons.mp hb with z | z
  ·subst z; rw [zaw (Nat.ne_of_lt helt)]; exact e0
  ·have z' : b = it := by simpa using z
   subst z'; rw [zaw (Nat.ne_of_lt hilt)]; exact f0
 done := by
  intro X hP hw hK hc i pins s σ H E I hf st hg
  subst hP hw hK
  obtain ⟨xs, hq, hx⟩ := hg
  obtain ⟨its, rv, p, hz⟩ := I.list hq
  obtain ⟨⟨old, he⟩, hit⟩ := st
  obtain ⟨f0, f1, f2, f3, f4, f5⟩ := hf it (by simp)
  have hl := rv.length
  exact wpAny_pyNext_enum_end (I.ok.hd hc) he hit p.isList (by simp; omega) fun h' eb => ⟨rfl, I.turned (t' := s.toks) (fun b o hb e => eb b o hb e) f0 f1 f3 f4 f5⟩
 self := fun A i s Q E st h => by
  obtain ⟨⟨old, he⟩, _⟩ := st
  exact wpAny_pyIter_enum he h
def zta (K : PySem.W.Frag) (ta : TA) : TI := fun σ H R => ta σ H fun vs H1 => ∃ a, vs = [.ref a] /\ (∃ xs, SqL K H1 a xs) /\ R (Ite K a) H1
theorem zpt {X : Cx} {a : Expr} {ta : TA} {p pos : Pos} {elts : List Expr} {k1 : Nat} {tpos : Pos} (hg : Gl X "enumerate") (hm : X.mg "enumerate" = none) (ha : PA X [a] ta) (hs : starEach [a] X.env = [(false, eval a X.env)] := by rfl) :
  PI X (.Tuple elts k1 tpos) (.Call (.Name "enumerate" p) [a] [] pos) (zta X.K ta) := by
 intro pins s σ H R I h
 refine Call_ (zgg I hg hm PyProof.Rows.boot_enumerate (PyProof.Rows.callWith_type1 (thn (ha pos pins s σ H _ I h) fun us s1 ⟨vs, H1, I1, r1, q1⟩ => ?_) hs rfl))
 obtain ⟨l, e, ⟨xs, hq⟩, q⟩ := q1
 subst e
 obtain ⟨u, rfl, r2⟩ := zeA r1
 cases r2
 obtain ⟨its, rv, pl, hz⟩ := I1.list hq
 refine call_enumerate_list pl.isList fun h' he hit hsz hk => ?_
 have I2 : Inv X pins σ H1 { s1 with heap := h' } := I1.kept (t' := s1.toks) hk
 refine wpAny_pyIter_enum he ?_
 refine ⟨s1.heap.objs.size + 1, [s1.heap.objs.size + 1, s1.heap.objs.size], _, _, H1, rfl, I2, zli _ _ l (Nat.succ_ne_self _), ⟨⟨_, he⟩, hit⟩, fun b hb => ?_, q⟩
 rcases List.mem_cons.mp hb with z | z
 ·subst z; exact I1.fpOk (Nat.le_succ _) (I1.hok.fresh (Nat.le_succ _))
 ·have z' : b = s1.heap.objs.size := by simpa using z
  subst z'; exact I1.fpOk (qt _) (I1.hok.fresh (qt _))
end L2
end
section
namespace L2
open PySem PySem.Spec PyProof.Rows
inductive D where
 | non | bl (b : Bool) | int (i : Int) | str (x : Str) | tup (l : List D) | lst (l : List D) | scr (ns : List Int)
 | dk (l : List (Key × D)) | dt (l : List (List Key × D)) | ins (c : Str) (fs : List (Str × D)) | ty (n : String)
structure Cn where
 cls : Str -> Option Addr
 self : Option Addr := none
mutual
inductive Rep (Γ : Cn) (K : PySem.W.Frag) (G : Hp) : V -> D -> Prop where
 | non : Rep Γ K G .non .non
 | bl (b : Bool) : Rep Γ K G (.bl b) (.bl b)
 | int (i : Int) : Rep Γ K G (.int i) (.int i)
 | str (x : Str) : Rep Γ K G (.str x) (.str x)
 | ty (n : String) : Rep Γ K G (.ty n) (.ty n)
 | tup {a : Addr} {vs : List V} {ds : List D} : G a = some (.tup vs) -> Reps Γ K G vs ds -> Rep Γ K G (.ref a) (.tup ds)
 | lst {a : Addr} {vs : List V} {ds : List D} : G a = some (.lst vs) -> Reps Γ K G vs ds -> Rep Γ K G (.ref a) (.lst ds)
 | scr {a : Addr} {ns : List Int} : SqL K G a (ns.map V.int) -> Rep Γ K G (.ref a) (.scr ns)
 | dk {a : Addr} {us : List (Key × V)} {kvs : List (Key × D)} : G a = some (.dK us) -> us.map (·.1) = kvs.map (·.1) -> Reps Γ K G (us.map (·.2)) (kvs.map (·.2)) -> Rep Γ K G (.ref a) (.dk kvs)
 | dt {a : Addr} {us : List (List Key × V)} {kvs : List (List Key × D)} : G a = some (.dT us) -> us.map (·.1) = kvs.map (·.1) -> Reps Γ K G (us.map (·.2)) (kvs.map (·.2)) -> Rep Γ K G (.ref a) (.dt kvs)
 | ins {a C dx : Addr} {c : Str} {us : List (Str × V)} {fs : List (Str × D)} : G a = some (.ins C dx us) -> Γ.cls c = some C -> us.map (·.1) = fs.map (·.1) -> Reps Γ K G (us.map (·.2)) (fs.map (·.2)) -> Rep Γ K G (.ref a) (.ins c fs)
inductive Reps (Γ : Cn) (K : PySem.W.Frag) (G : Hp) : List V -> List D -> Prop where
 | nil : Reps Γ K G [] []
 | cons {v : V} {d : D} {vs : List V} {ds : List D} : Rep Γ K G v d -> Reps Γ K G vs ds -> Reps Γ K G (v :: vs) (d :: ds)
end
section
variable {Γ : Cn} {K : PySem.W.Frag} {G G' G1 H H' H1 H2 G2 : Hp}
mutual
theorem Rep.mono : ∀ {v : V} {d : D}, Rep Γ K G v d -> zca G G' -> Rep Γ K G' v d
 | _, _, .non, _ => .non
 | _, _, .bl b, _ => .bl b
 | _, _, .int i, _ => .int i
 | _, _, .str x, _ => .str x
 | _, _, .ty x, _ => .ty x
 | _, _, .tup h r, s => .tup (s _ _ h) (r.mono s)
 | _, _, .lst h r, s => .lst (s _ _ h) (r.mono s)
 | _, _, .scr h, s => .scr (s.seq h)
 | _, _, .dk h e r, s => .dk (s _ _ h) e (r.mono s)
 | _, _, .dt h e r, s => .dt (s _ _ h) e (r.mono s)
 | _, _, .ins h c e r, s => .ins (s _ _ h) c e (r.mono s)
theorem Reps.mono : ∀ {vs : List V} {ds : List D}, Reps Γ K G vs ds -> zca G G' -> Reps Γ K G' vs ds
 | _, _, .nil, _ => .nil
 | _, _, .cons h r, s => .cons (h.mono s) (r.mono s)
end
mutual
theorem Rep.re {Γ' : Cn} (hc : Γ'.cls = Γ.cls) : ∀ {v : V} {d : D}, Rep Γ K G v d -> Rep Γ' K G v d
 | _, _, .non => .non
 | _, _, .bl b => .bl b
 | _, _, .int i => .int i
 | _, _, .str x => .str x
 | _, _, .ty x => .ty x
 | _, _, .tup h r => .tup h (r.re hc)
 | _, _, .lst h r => .lst h (r.re hc)
 | _, _, .scr h => .scr h
 | _, _, .dk h e r => .dk h e (r.re hc)
 | _, _, .dt h e r => .dt h e (r.re hc)
 | _, _, .ins h c e r => .ins h (by rw [hc]; exact c) e (r.re hc)
theorem Reps.re {Γ' : Cn} (hc : Γ'.cls = Γ.cls) : ∀ {vs : List V} {ds : List D}, Reps Γ K G vs ds -> Reps Γ' K G vs ds
 | _, _, .nil => .nil
 | _, _, .cons h r => .cons (h.re hc) (r.re hc)
end
theorem Reps.length : ∀ {vs : List V} {ds : List D}, Reps Γ K G vs ds -> vs.length = ds.length
 | _, _, .nil => rfl
 | _, _, .cons _ r => by rw [qh, qh, r.length]
theorem Reps.get : ∀ {vs : List V} {ds : List D} {i : Nat} {d : D}, Reps Γ K G vs ds -> ds[i]? = some d -> ∃ v, vs[i]? = some v /\ Rep Γ K G v d
 | _, _, _, _, .nil, e => by simp at e
 | _, _, 0, _, .cons r _, e => by simp at e; subst e; exact ⟨_, rfl, r⟩
 | _, _, i + 1, d, .cons _ t, e => by
  obtain ⟨u, h1, h2⟩ := Reps.get (i := i) (d := d) t (by simpa using e)
  exact ⟨u, by simpa using h1, h2⟩
theorem Reps.append : ∀ {vs ws : List V} {ds es : List D}, Reps Γ K G vs ds -> Reps Γ K G ws es -> Reps Γ K G (vs ++ ws) (ds ++ es)
 | _, _, _, _, .nil, s => s
 | _, _, _, _, .cons r t, s => .cons r (t.append s)
theorem Reps.take : ∀ {vs : List V} {ds : List D} (n : Nat), Reps Γ K G vs ds -> Reps Γ K G (vs.take n) (ds.take n)
 | _, _, 0, _ => .nil
 | _, _, _ + 1, .nil => .nil
 | _, _, n + 1, .cons r t => .cons r (t.take n)
theorem Reps.drop : ∀ {vs : List V} {ds : List D} (n : Nat), Reps Γ K G vs ds -> Reps Γ K G (vs.drop n) (ds.drop n)
 | _, _, 0, r => r
 | _, _, _ + 1, .nil => .nil
 | _, _, n + 1, .cons _ t => t.drop n
theorem Reps.ints : ∀ (ns : List Int), Reps Γ K G (ns.map V.int) (ns.map D.int)
 | [] => .nil
 | n :: r => .cons (.int n) (Reps.ints r)
theorem Reps.rep {vs : List V} {ds : List D} (h : Reps Γ K G vs ds) : ∀ k : Nat, Reps Γ K G (List.replicate k vs).flatten (List.replicate k ds).flatten
 | 0 => .nil
 | k + 1 => by
  rw [List.replicate_succ, List.replicate_succ, List.flatten_cons, List.flatten_cons]
  exact h.append (Reps.rep h k)
structure Step (G H G' H' : Hp) : Prop where
 hh : zca H H'
 gg : zca G G'
 gh : zca G' H'
 out : ∀ a o, H a = some o -> G' a = G a
theorem Step.refl (gh : zca G H) : Step G H G H := ⟨.refl _, .refl _, gh, fun _ _ _ => rfl⟩
theorem Step.trans (a : Step G H G1 H1) (b : Step G1 H1 G2 H2) : Step G H G2 H2 :=
 ⟨a.hh.trans b.hh, a.gg.trans b.gg, b.gh, fun c o e => (b.out c o (a.hh c o e)).trans (a.out c o e)⟩
theorem Step.new {p : Addr} {o : HO} (gh : zca G H) (hp : H p = none) : Step G H (upd G p o) (upd H p o) := by
 have gp : G p = none := gh.free hp
 refine ⟨fun b u e => ?_, fun b u e => ?_, fun b u e => ?_, fun b u e => ?_⟩
 ·rw [zaw (zap e hp)]; exact e
 ·rw [zaw (zap e gp)]; exact e
 ·by_cases hb : b = p
  ·subst hb; rw [zaC] at e ⊢; exact e
  ·rw [zaw hb] at e ⊢; exact gh b u e
 ·rw [zaw (zap e hp)]
theorem Step.newOwn {p : Addr} {o : HO} (gh : zca G H) (hp : H p = none) : Step G H G (upd H p o) := by
 refine ⟨fun b u e => ?_, .refl _, fun b u e => ?_, fun _ _ _ => rfl⟩
 ·rw [zaw (zap e hp)]; exact e
 ·rw [zaw (zap (gh b u e) hp)]; exact gh b u e
end
inductive Slot where
 | sh (d : D)
 | own (ds : List D)
 | obj (c : Str) (fs : List (Str × D))
 | objd (c : Str) (fs : List (Str × D)) (n : Str) (kvs : List (Key × D))
 | odk (kvs : List (Key × D))
 | odt (kvs : List (List Key × D))
 | tlo (ds es : List D)
 | pin (a : Addr)
abbrev zaX := List (Option Slot)
def zte : D -> Bool
 | .non => true
 | .bl _ => true
 | .int _ => true
 | .str _ => true
 | _ => false
inductive SR (Γ : Cn) (K : PySem.W.Frag) (H₀ G H : Hp) : Slot -> V -> List Addr -> Prop where
 | sh {d : D} {v : V} : Rep Γ K G v d -> SR Γ K H₀ G H (.sh d) v []
 | own {a : Addr} {vs : List V} {ds : List D} : H₀ a = none -> G a = none -> H a = some (.lst vs) -> Reps Γ K G vs ds -> SR Γ K H₀ G H (.own ds) (.ref a) [a]
 | obj {c : Str} {a C dx : Addr} {vs : List (Str × V)} {fs : List (Str × D)} : Γ.cls c = some C -> H₀ a = none -> G a = none -> H a = some (.ins C dx vs) -> vs.map (·.1) = fs.map (·.1) -> Reps Γ K G (vs.map (·.2)) (fs.map (·.2)) -> Γ.self = some a -> SR Γ K H₀ G H (.obj c fs) (.ref a) [a]
 | objd {c n : Str} {a C dx p : Addr} {vs : List (Str × V)} {fs : List (Str × D)} {us : List (Key × V)} {kvs : List (Key × D)} : Γ.cls c = some C -> H₀ a = none -> G a = none -> H a = some (.ins C dx (vs ++ [(n, .ref p)])) -> vs.map (·.1) = fs.map (·.1) -> Reps Γ K G (vs.map (·.2)) (fs.map (·.2)) ->
   H₀ p = none -> G p = none -> H p = some (.dK us) -> us.map (·.1) = kvs.map (·.1) -> Reps Γ K G (us.map (·.2)) (kvs.map (·.2)) -> Γ.self = some a -> SR Γ K H₀ G H (.objd c fs n kvs) (.ref a) [a, p]
 | odk {a : Addr} {us : List (Key × V)} {kvs : List (Key × D)} : H₀ a = none -> G a = none -> H a = some (.dK us) -> us.map (·.1) = kvs.map (·.1) -> Reps Γ K G (us.map (·.2)) (kvs.map (·.2)) -> SR Γ K H₀ G H (.odk kvs) (.ref a) [a]
 | odt {a : Addr} {us : List (List Key × V)} {kvs : List (List Key × D)} : H₀ a = none -> G a = none -> H a = some (.dT us) -> us.map (·.1) = kvs.map (·.1) -> Reps Γ K G (us.map (·.2)) (kvs.map (·.2)) -> SR Γ K H₀ G H (.odt kvs) (.ref a) [a]
 | tlo {t p : Addr} {vs ws : List V} {ds es : List D} : H₀ p = none -> G p = none -> H p = some (.lst ws) -> G t = some (.tup (vs ++ [.ref p])) -> Reps Γ K G vs ds -> Reps Γ K G ws es -> SR Γ K H₀ G H (.tlo ds es) (.ref t) [p]
 | pin (a : Addr) : SR Γ K H₀ G H (.pin a) (.ref a) []
section
variable {Γ : Cn} {K : PySem.W.Frag} {H₀ G G' H H' : Hp} {s : Slot} {v : V} {fp : List Addr}
theorem SR.fpt (r : SR Γ K H₀ G H s v fp) : ∀ b ∈ fp, H₀ b = none /\ G b = none /\ ∃ o, H b = some o := by
 cases r with
 | sh r => intro b hb; cases hb
 | own h1 h2 h3 _ => intro b hb; rw [List.mem_singleton.mp hb]; exact ⟨h1, h2, _, h3⟩
 | obj _ h1 h2 h3 _ _ _ => intro b hb; rw [List.mem_singleton.mp hb]; exact ⟨h1, h2, _, h3⟩
 | objd _ h1 h2 h3 _ _ q1 q2 q3 _ _ _ =>
  intro b hb
  rcases List.mem_cons.mp hb with rfl | hb
  ·exact ⟨h1, h2, _, h3⟩
  ·rw [List.mem_singleton.mp hb]; exact ⟨q1, q2, _, q3⟩
 | odk h1 h2 h3 _ _ => intro b hb; rw [List.mem_singleton.mp hb]; exact ⟨h1, h2, _, h3⟩
 | odt h1 h2 h3 _ _ => intro b hb; rw [List.mem_singleton.mp hb]; exact ⟨h1, h2, _, h3⟩
 | tlo h1 h2 h3 _ _ _ => intro b hb; rw [List.mem_singleton.mp hb]; exact ⟨h1, h2, _, h3⟩
 | pin a => intro b hb; cases hb
theorem SR.stay (r : SR Γ K H₀ G H s v fp) (gg : zca G G') (hg : ∀ b ∈ fp, G' b = none) (hh : ∀ b ∈ fp, H' b = H b) : SR Γ K H₀ G' H' s v fp := by
 cases r with
 | sh r => exact .sh (r.mono gg)
 | own h1 h2 h3 h4 => exact .own h1 (hg _ (List.mem_singleton.mpr rfl)) ((hh _ (List.mem_singleton.mpr rfl)).trans h3) (h4.mono gg)
 | obj c h1 h2 h3 h4 h5 hs => exact .obj c h1 (hg _ (List.mem_singleton.mpr rfl)) ((hh _ (List.mem_singleton.mpr rfl)).trans h3) h4 (h5.mono gg) hs
 | objd c h1 h2 h3 h4 h5 q1 q2 q3 q4 q5 hs =>
  exact .objd c h1 (hg _ qf) ((hh _ qf).trans h3) h4 (h5.mono gg) q1 (hg _ (qg _ qf)) ((hh _ (qg _ qf)).trans q3) q4 (q5.mono gg) hs
 | odk h1 h2 h3 h4 h5 => exact .odk h1 (hg _ (List.mem_singleton.mpr rfl)) ((hh _ (List.mem_singleton.mpr rfl)).trans h3) h4 (h5.mono gg)
 | odt h1 h2 h3 h4 h5 => exact .odt h1 (hg _ (List.mem_singleton.mpr rfl)) ((hh _ (List.mem_singleton.mpr rfl)).trans h3) h4 (h5.mono gg)
 | pin a => exact .pin a
 | tlo h1 h2 h3 h4 h5 h6 => exact .tlo h1 (hg _ (List.mem_singleton.mpr rfl)) ((hh _ (List.mem_singleton.mpr rfl)).trans h3) (gg _ _ h4) (h5.mono gg) (h6.mono gg)
theorem SR.stepS (r : SR Γ K H₀ G H s v fp) (t : Step G H G' H') : SR Γ K H₀ G' H' s v fp := r.stay t.gg (fun b hb => by
 obtain ⟨_, h2, o, h3⟩ := r.fpt b hb
 exact (t.out b o h3).trans h2) (fun b hb => by
 obtain ⟨_, _, o, h3⟩ := r.fpt b hb
 rw [h3]; exact t.hh b o h3)
end
theorem SR.uniq {Γ : Cn} {K : PySem.W.Frag} {H₀ G H : Hp} {s : Slot} {v : V} {fp fq : List Addr} (r : SR Γ K H₀ G H s v fp) (q : SR Γ K H₀ G H s v fq) : fp = fq := by
 cases r with
 | sh r => cases q; rfl
 | own h1 h2 h3 _ => cases q; rfl
 | obj _ h1 h2 h3 _ _ _ => cases q; rfl
 | objd _ h1 h2 h3 _ _ q1 q2 q3 _ _ _ =>
  cases q with
  | objd _ _ _ k3 _ _ _ _ _ _ _ _ =>
   rw [h3] at k3
   have z := (HO.ins.inj (Option.some.inj k3)).2.2
   have z2 := (List.append_inj' z rfl).2
   cases z2
   rfl
 | odk h1 h2 h3 _ _ => cases q; rfl
 | odt h1 h2 h3 _ _ => cases q; rfl
 | pin a => cases q; rfl
 | tlo _ _ _ h4 _ _ =>
  cases q with
  | tlo _ _ _ k4 _ _ =>
   rw [h4] at k4
   have z := HO.tup.inj (Option.some.inj k4)
   have z2 := (List.append_inj' z rfl).2
   cases z2
   rfl
structure EnvRel (Γ : Cn) (K : PySem.W.Frag) (H₀ G H : Hp) (ρ : zaX) (σ : St) : Prop where
 len : ρ.length = σ.length
 sl : ∃ fps : Nat -> List Addr, (∀ (i : Nat) s, ρ[i]? = some (some s) -> ∃ v, σ[i]? = some (some v) /\ SR Γ K H₀ G H s v (fps i)) /\
  ∀ (i j : Nat) s t, i ≠ j -> ρ[i]? = some (some s) -> ρ[j]? = some (some t) -> ∀ b ∈ fps i, b ∉ fps j
structure At (Γ : Cn) (K : PySem.W.Frag) (G₀ H₀ G H : Hp) (ρ : zaX) (σ : St) : Prop where
 st : Step G₀ H₀ G H
 env : EnvRel Γ K H₀ G H ρ σ
def zfj (ρ : zaX) : Prop := ∀ (i : Nat) s, ρ[i]? = some (some s) -> ∃ d, s = .sh d
section
variable {Γ : Cn} {K : PySem.W.Frag} {G₀ H₀ G G' H H' : Hp} {ρ : zaX} {σ : St}
theorem EnvRel.ofSh (len : ρ.length = σ.length) (no : zfj ρ) (sh : ∀ (i : Nat) d, ρ[i]? = some (some (.sh d)) -> ∃ v, σ[i]? = some (some v) /\ Rep Γ K G v d) : EnvRel Γ K H₀ G H ρ σ :=
 ⟨len, fun _ => [], fun i s e => by
  obtain ⟨d, rfl⟩ := no i s e
  obtain ⟨v, h1, h2⟩ := sh i d e
  exact ⟨v, h1, .sh h2⟩, fun _ _ _ _ _ _ _ b hb => by cases hb⟩
theorem EnvRel.sh (E : EnvRel Γ K H₀ G H ρ σ) (i : Nat) (d : D) (e : ρ[i]? = some (some (.sh d))) : ∃ v, σ[i]? = some (some v) /\ Rep Γ K G v d := by
 obtain ⟨fps, h, _⟩ := E.sl
 obtain ⟨v, h1, h2⟩ := h i _ e
 generalize fps i = fp at h2
 cases h2 with
 | sh r => exact ⟨v, h1, r⟩
theorem EnvRel.own (E : EnvRel Γ K H₀ G H ρ σ) (i : Nat) (ds : List D) (e : ρ[i]? = some (some (.own ds))) : ∃ a vs, σ[i]? = some (some (.ref a)) /\ H₀ a = none /\ G a = none /\ H a = some (.lst vs) /\ Reps Γ K G vs ds := by
 obtain ⟨fps, h, _⟩ := E.sl
 obtain ⟨v, h1, h2⟩ := h i _ e
 generalize fps i = fp at h2
 cases h2 with
 | own q1 q2 q3 q4 => exact ⟨_, _, h1, q1, q2, q3, q4⟩
theorem At.gh (A : At Γ K G₀ H₀ G H ρ σ) : zca G H := A.st.gh
theorem At.step (A : At Γ K G₀ H₀ G H ρ σ) (s : Step G H G' H') : At Γ K G₀ H₀ G' H' ρ σ := by
 obtain ⟨fps, h, ap⟩ := A.env.sl
 exact ⟨A.st.trans s, A.env.len, fps, fun i t e => by
  obtain ⟨v, h1, h2⟩ := h i t e
  exact ⟨v, h1, h2.stepS s⟩, ap⟩
theorem At.put (A : At Γ K G₀ H₀ G H ρ σ) {i : Nat} {s' : Slot} {v' : V} {fp fp' : List Addr}
  (hfp : fp = [] \/ ∃ s v, ρ[i]? = some (some s) /\ σ[i]? = some (some v) /\ SR Γ K H₀ G H s v fp)
  (hH : ∀ b o, H b = some o -> b ∉ fp -> H' b = some o) (hS : SR Γ K H₀ G' H' s' v' fp') (hn : ∀ b ∈ fp', b ∈ fp \/ H b = none)
  (gg : zca G G') (gh : zca G' H') (out : ∀ b o, H b = some o -> b ∉ fp -> G' b = G b) (out2 : ∀ b ∈ fp, H₀ b = none) : At Γ K G₀ H₀ G' H' (ρ.set i (some s')) (σ.set i (some v')) := by
 obtain ⟨fps, h, ap⟩ := A.env.sl
 have hl := A.env.len
 have old : ∀ b ∈ fp, ∀ j t, j ≠ i -> ρ[j]? = some (some t) -> b ∉ fps j := fun b hb j t hj e => by
  rcases hfp with rfl | ⟨s, v, h1, h2, h3⟩
  ·cases hb
  ·obtain ⟨v2, h4, h5⟩ := h i s h1
   rw [h2] at h4
   cases h4
   have efp : fp = fps i := h3.uniq h5
   subst efp
   exact ap i j s t (Ne.symm hj) h1 e b hb
 have slj : ∀ (j : Nat) t, j ≠ i -> ρ[j]? = some (some t) -> ∃ v, σ[j]? = some (some v) /\ SR Γ K H₀ G' H' t v (fps j) := fun j t hj e => by
  obtain ⟨v, h1, h2⟩ := h j t e
  refine ⟨v, h1, h2.stay gg (fun b hb => ?_) (fun b hb => ?_)⟩
  ·obtain ⟨_, q2, o, q3⟩ := h2.fpt b hb
   exact (out b o q3 fun z => old b z j t hj e hb).trans q2
  ·obtain ⟨_, _, o, q3⟩ := h2.fpt b hb
   rw [q3]; exact hH b o q3 fun z => old b z j t hj e hb
 have no2 : ∀ b o, H₀ b = some o -> b ∉ fp := fun b o e z => by rw [out2 b z] at e; cases e
 have hst : Step G₀ H₀ G' H' := ⟨fun b o e => hH b o (A.st.hh b o e) (no2 b o e), A.st.gg.trans gg, gh, fun b o e => (out b o (A.st.hh b o e) (no2 b o e)).trans (A.st.out b o e)⟩
 refine ⟨hst, by simp [hl], fun j => if j = i then fp' else fps j, fun j t e => ?_, fun j k t u hjk e1 e2 b hb => ?_⟩
 ·by_cases hj : j = i
  ·subst hj
   have hlt : j < ρ.length := by
    rcases Nat.lt_or_ge j ρ.length with q | q
    ·exact q
    ·rw [List.getElem?_eq_none (by simp; omega)] at e; cases e
   rw [List.getElem?_set_self hlt] at e
   cases e
   show ∃ v, _ /\ SR _ _ _ _ _ _ v (if j = j then fp' else fps j)
   rw [if_pos rfl]
   exact ⟨v', by rw [List.getElem?_set_self (by omega)], hS⟩
  ·rw [List.getElem?_set_ne (Ne.symm hj)] at e ⊢
   show ∃ v, _ /\ SR _ _ _ _ _ _ v (if j = i then fp' else fps j)
   rw [if_neg hj]
   exact slj j t hj e
 ·have cross : ∀ {k : Nat} {u : Slot}, k ≠ i -> ρ[k]? = some (some u) -> ∀ b ∈ fp', b ∉ fps k := fun {k u} hk e b hb hb2 => by
   rcases hn b hb with z | z
   ·exact old b z k u hk e hb2
   ·obtain ⟨v, _, q⟩ := h k u e
    obtain ⟨_, _, o, q3⟩ := q.fpt b hb2
    rw [z] at q3; cases q3
  replace hb : b ∈ (if j = i then fp' else fps j) := hb
  show b ∉ (if k = i then fp' else fps k)
  by_cases hj : j = i
  ·subst hj
   have hk : k ≠ j := Ne.symm hjk
   rw [if_pos rfl] at hb
   rw [if_neg hk]
   rw [List.getElem?_set_ne hjk] at e2
   exact cross hk e2 b hb
  ·rw [if_neg hj] at hb
   rw [List.getElem?_set_ne (Ne.symm hj)] at e1
   by_cases hk : k = i
   ·subst hk
    rw [if_pos rfl]
    exact fun z => cross hj e1 b z hb
   ·rw [if_neg hk]
    rw [List.getElem?_set_ne (Ne.symm hk)] at e2
    exact ap j k t u hjk e1 e2 b hb
theorem At.setSh (A : At Γ K G₀ H₀ G H ρ σ) {i : Nat} {v : V} {d : D} (r : Rep Γ K G v d) : At Γ K G₀ H₀ G H (ρ.set i (some (.sh d))) (σ.set i (some v)) :=
 A.put (fp := []) (fp' := []) (.inl rfl) (fun b o e _ => e) (.sh r) (fun b hb => by cases hb) (.refl _) A.gh (fun _ _ _ _ => rfl) (fun b hb => by cases hb)
theorem At.setOwn (A : At Γ K G₀ H₀ G H ρ σ) {i : Nat} {a : Addr} {vs : List V} {ds : List D} (ha : H a = none) (r : Reps Γ K G vs ds) : At Γ K G₀ H₀ G (upd H a (.lst vs)) (ρ.set i (some (.own ds))) (σ.set i (some (.ref a))) := by
 have h0 : H₀ a = none := A.st.hh.free ha
 have hg : G a = none := A.gh.free ha
 refine A.put (fp := []) (fp' := [a]) (.inl rfl) (fun b o e _ => by rw [zaw (zap e ha)]; exact e) (.own h0 hg zaC r) (fun b hb => .inr (by rw [List.mem_singleton.mp hb]; exact ha)) (.refl _) (fun b o e => ?_) (fun _ _ _ _ => rfl) (fun b hb => by cases hb)
 rw [zaw (zap e hg)]; exact A.gh b o e
theorem ziv {α : Type} {l : List α} {i : Nat} {x : α} (h : l[i]? = some x) : l.set i x = l := by
 apply List.ext_getElem?
 intro j
 by_cases hj : j = i
 ·subst hj
  rw [List.getElem?_set_self (List.getElem?_eq_some_iff.mp h).1, h]
 ·rw [List.getElem?_set_ne (Ne.symm hj)]
theorem At.ch (A : At Γ K G₀ H₀ G H ρ σ) {i : Nat} {s s' : Slot} {v : V} {fp fp' : List Addr} (hi : ρ[i]? = some (some s)) (hv : σ[i]? = some (some v)) (hs : SR Γ K H₀ G H s v fp)
  (hH : ∀ b o, H b = some o -> b ∉ fp -> H' b = some o) (hS : SR Γ K H₀ G' H' s' v fp') (hn : ∀ b ∈ fp', b ∈ fp \/ H b = none)
  (gg : zca G G') (gh : zca G' H') (out : ∀ b o, H b = some o -> b ∉ fp -> G' b = G b) : At Γ K G₀ H₀ G' H' (ρ.set i (some s')) σ := by
 have := A.put (i := i) (.inr ⟨s, v, hi, hv, hs⟩) hH hS hn gg gh out fun b hb => (hs.fpt b hb).1
 rwa [ziv hv] at this
theorem At.get (A : At Γ K G₀ H₀ G H ρ σ) {i : Nat} {s : Slot} (hi : ρ[i]? = some (some s)) : ∃ v fp, σ[i]? = some (some v) /\ SR Γ K H₀ G H s v fp := by
 obtain ⟨fps, h, _⟩ := A.env.sl
 obtain ⟨v, h1, h2⟩ := h i s hi
 exact ⟨v, _, h1, h2⟩
theorem At.chOwn (A : At Γ K G₀ H₀ G H ρ σ) {i : Nat} {a : Addr} {ds es : List D} {ws : List V} (hi : ρ[i]? = some (some (.own ds))) (ha : σ[i]? = some (some (.ref a))) (r : Reps Γ K G ws es) : At Γ K G₀ H₀ G (upd H a (.lst ws)) (ρ.set i (some (.own es))) σ := by
 obtain ⟨v, fp, h1, h2⟩ := A.get hi
 rw [ha] at h1
 cases h1
 cases h2 with
 | own q1 q2 q3 q4 =>
  refine A.ch hi ha (.own q1 q2 q3 q4) (fun b o e hb => ?_) (.own q1 q2 zaC r) (fun b hb => .inl hb) (.refl _) (fun b o e => ?_) (fun _ _ _ _ => rfl)
  ·rw [zaw (fun z => hb (List.mem_singleton.mpr z))]; exact e
  ·rw [zaw (zap e q2)]; exact A.gh b o e
theorem At.freeze (A : At Γ K G₀ H₀ G H ρ σ) {i : Nat} {ds : List D} (hi : ρ[i]? = some (some (.own ds))) : ∃ G', zca G G' /\ At Γ K G₀ H₀ G' H (ρ.set i (some (.sh (.lst ds)))) σ := by
 obtain ⟨v, fp, h1, h2⟩ := A.get hi
 cases h2 with
 | own q1 q2 q3 q4 =>
  rename_i a vs
  have sm : zca G (upd G a (.lst vs)) := fun b o e => by rw [zaw (zap e q2)]; exact e
  refine ⟨upd G a (.lst vs), sm, A.ch hi h1 (.own q1 q2 q3 q4) (fun b o e hb => e) (.sh (.lst zaC (q4.mono sm))) (fun b hb => by cases hb) sm (fun b o e => ?_) (fun b o e hb => ?_)⟩
  ·by_cases hb : b = a
   ·subst hb; rw [zaC] at e; cases e; exact q3
   ·rw [zaw hb] at e; exact A.gh b o e
  ·rw [zaw (fun z => hb (List.mem_singleton.mpr z))]
end
end L2
end
section
namespace L2
open PySem PySem.Spec PyProof.Rows
mutual
inductive NewL (H G : Hp) : V -> D -> Prop where
 | flat {v : V} {d : D} : zte d = true -> NewL H G v d
 | tup {a : Addr} {vs : List V} {ds : List D} : G a = some (.tup vs) -> NewLs H G vs ds -> NewL H G (.ref a) (.tup ds)
 | lst {a : Addr} {vs : List V} {ds : List D} : G a = some (.lst vs) -> H a = none -> NewLs H G vs ds -> NewL H G (.ref a) (.lst ds)
inductive NewLs (H G : Hp) : List V -> List D -> Prop where
 | nil : NewLs H G [] []
 | cons {v : V} {d : D} {vs : List V} {ds : List D} : NewL H G v d -> NewLs H G vs ds -> NewLs H G (v :: vs) (d :: ds)
end
section
variable {H H' G G' : Hp}
mutual
theorem NewL.mono : ∀ {v : V} {d : D}, NewL H G v d -> zca G G' -> zca H' H -> NewL H' G' v d
 | _, _, .flat h, _, _ => .flat h
 | _, _, .tup h r, s, t => .tup (s _ _ h) (r.mono s t)
 | _, _, .lst h n r, s, t => .lst (s _ _ h) (t.free n) (r.mono s t)
theorem NewLs.mono : ∀ {vs : List V} {ds : List D}, NewLs H G vs ds -> zca G G' -> zca H' H -> NewLs H' G' vs ds
 | _, _, .nil, _, _ => .nil
 | _, _, .cons h r, s, t => .cons (h.mono s t) (r.mono s t)
end
end
inductive Fl where
 | nx | bk | ct | rt (d : D) | ow (ds : List D) | nw (d : D) | od (kvs : List (Key × D))
abbrev FE := zaX -> Option D
abbrev FT := zaX -> Option Bool
abbrev FA := zaX -> Option (List D)
abbrev FS := zaX -> Option (Fl × zaX)
def TD (Γ : Cn) (K : PySem.W.Frag) (f : FE) : TE := fun σ H Q => ∃ G₀ H₀ G ρ d, At Γ K G₀ H₀ G H ρ σ /\ f ρ = some d /\ ∀ v G' H', Step G H G' H' -> Rep Γ K G' v d -> Q v H'
def TDt (Γ : Cn) (K : PySem.W.Frag) (f : FT) : TT := fun σ H Q => ∃ G₀ H₀ G ρ b, At Γ K G₀ H₀ G H ρ σ /\ f ρ = some b /\ ∀ G' H', Step G H G' H' -> Q b H'
def TDa (Γ : Cn) (K : PySem.W.Frag) (f : FA) : TA := fun σ H Q => ∃ G₀ H₀ G ρ ds, At Γ K G₀ H₀ G H ρ σ /\ f ρ = some ds /\ ∀ vs G' H', Step G H G' H' -> Reps Γ K G' vs ds -> Q vs H'
def zuf (Γ : Cn) (K : PySem.W.Frag) (E : Ends) (H₀ G' H' : Hp) (σ' : St) : Fl -> Prop
 | .nx => E.nx σ' H'
 | .bk => E.bk σ' H'
 | .ct => E.ct σ' H'
 | .rt d => ∀ v, Rep Γ K G' v d -> E.rt v H'
 | .ow ds => ∀ p vs, H₀ p = none -> G' p = none -> H' p = some (.lst vs) -> Reps Γ K G' vs ds -> E.rt (.ref p) H'
 | .nw d => ∀ v, Rep Γ K G' v d -> NewL H₀ G' v d -> E.rt v H'
 | .od kvs => ∀ p us, H₀ p = none -> G' p = none -> H' p = some (.dK us) -> us.map (·.1) = kvs.map (·.1) -> Reps Γ K G' (us.map (·.2)) (kvs.map (·.2)) -> E.rt (.ref p) H'
def TDs (Γ : Cn) (K : PySem.W.Frag) (g : FS) : TS := fun E σ H => ∃ G₀ H₀ G ρ fl ρ', At Γ K G₀ H₀ G H ρ σ /\ g ρ = some (fl, ρ') /\ ∀ σ' G' H', zca G G' -> At Γ K G₀ H₀ G' H' ρ' σ' -> zuf Γ K E H₀ G' H' σ' fl
def TDo (Γ : Cn) (K : PySem.W.Frag) (f : FA) : TE := fun σ H Q => ∃ G₀ H₀ G ρ ds, At Γ K G₀ H₀ G H ρ σ /\ f ρ = some ds /\ ∀ p vs G' H', Step G H G' H' -> H' p = none -> Reps Γ K G' vs ds -> Q (.ref p) (upd H' p (.lst vs))
structure DE (Γ : Cn) (X : Cx) (e : Expr) (f : FE) : Prop where
 out : PE X e (TD Γ X.K f)
structure DT (Γ : Cn) (X : Cx) (e : Expr) (f : FT) : Prop where
 out : PT X e (TDt Γ X.K f)
structure DW (Γ : Cn) (X : Cx) (e : Expr) (f : FT) : Prop where
 out : PW X e (TDt Γ X.K f)
structure DA (Γ : Cn) (X : Cx) (es : List Expr) (f : FA) : Prop where
 out : PA X es (TDa Γ X.K f)
structure DS (Γ : Cn) (X : Cx) (st : Stmt) (g : FS) : Prop where
 out : PS X st (TDs Γ X.K g)
structure DSs (Γ : Cn) (X : Cx) (st : List Stmt) (g : FS) : Prop where
 out : PSs X st (TDs Γ X.K g)
structure DO (Γ : Cn) (X : Cx) (e : Expr) (f : FA) : Prop where
 out : PE X e (TDo Γ X.K f)
section
variable {Γ : Cn} {X : Cx} {a b c e : Expr} {es : List Expr} {fa fb fc f : FE} {pos : Pos}
theorem PE.imp {t t' : TE} (h : PE X e t) (i : ∀ σ H Q, t' σ H Q -> t σ H Q) : PE X e t' := fun pins s σ H Q I q => h pins s σ H Q I (i _ _ _ q)
theorem PT.imp {t t' : TT} (h : PT X e t) (i : ∀ σ H Q, t' σ H Q -> t σ H Q) : PT X e t' := fun pins s σ H Q I q => h pins s σ H Q I (i _ _ _ q)
theorem PW.imp {t t' : TT} (h : PW X e t) (i : ∀ σ H Q, t' σ H Q -> t σ H Q) : PW X e t' := fun wh pins s σ H Q I q => h wh pins s σ H Q I (i _ _ _ q)
theorem PA.imp {t t' : TA} (h : PA X es t) (i : ∀ σ H Q, t' σ H Q -> t σ H Q) : PA X es t' := fun p pins s σ H Q I q => h p pins s σ H Q I (i _ _ _ q)
theorem PS.imp {st : Stmt} {t t' : TS} (h : PS X st t) (i : ∀ E σ H, t' E σ H -> t E σ H) : PS X st t' := fun pins s σ H E I q => h pins s σ H E I (i _ _ _ q)
theorem PSs.imp {st : List Stmt} {t t' : TS} (h : PSs X st t) (i : ∀ E σ H, t' E σ H -> t E σ H) : PSs X st t' := fun pins s σ H E I q => h pins s σ H E I (i _ _ _ q)
def vSh (i : Nat) : FE := fun ρ => match ρ[i]? with
 | some (some (.sh d)) => some d
 | _ => none
theorem zm9 {i : Nat} {ρ : zaX} {d : D} (h : vSh i ρ = some d) : ρ[i]? = some (some (.sh d)) := by
 unfold vSh at h
 split at h
 ·rename_i e; cases h; exact e
 ·cases h
theorem zac (i : Nat) {x : Str} (hN : X.N[i]? = some x := by rfl) (hv : Vis X.env.scope x := by first | exact Or.inl rfl | exact Or.inr (Or.inl rfl) | exact Or.inr (Or.inr rfl)) (hd : (x == ("__debug__" : Str)) = false := by decide)
  (hcd : (x == ("__classdict__" : Str)) = false := by decide) : DE Γ X (.Name x pos) (vSh i) := ⟨(zd5 hN hv hd hcd).imp fun σ H Q ⟨G₀, H₀, G, ρ, d, A, h, k⟩ => by
 obtain ⟨v, h1, h2⟩ := A.env.sh i d (zm9 h)
 exact ⟨v, h1, k v G H (.refl A.gh) h2⟩⟩
def vC (d : D) : FE := fun _ => some d
theorem TD.const {d : D} {v : V} (r : ∀ G, Rep Γ X.K G v d) (h : PE X e (tC v)) : DE Γ X e (vC d) := ⟨h.imp fun σ H Q ⟨G₀, H₀, G, ρ, d', A, h, k⟩ => by
 cases h
 exact k v G H (.refl A.gh) (r G)⟩
theorem zad {i j} : DE Γ X (.Constant (.int i) j pos) (vC (.int i)) := TD.const (fun _ => .int i) zrt
theorem zc9 {i j} : DE Γ X (.Constant (.bool i) j pos) (vC (.bl i)) := TD.const (fun _ => .bl i) zsV
theorem zkx {j} : DE Γ X (.Constant .none j pos) (vC .non) := TD.const (fun _ => .non) zrr
theorem zcZ {i j} : DE Γ X (.Constant (.str i) j pos) (vC (.str i)) := TD.const (fun _ => .str i) zro
theorem zce {x : Str} {i : Int} {t : Tok} (hg : Gl X x) (hm : X.mg x = some (.int i t)) (hd : (x == ("__debug__" : Str)) = false := by decide) : DE Γ X (.Name x pos) (vC (.int i)) := TD.const (fun _ => .int i) (zpz hg hm ⟨t, rfl⟩ hd)
def b2 (g : D -> D -> Option D) (fa fb : FE) : FE := fun ρ => (fa ρ).bind fun x => (fb ρ).bind fun y => g x y
def b1 (g : D -> Option D) (fa : FE) : FE := fun ρ => (fa ρ).bind g
def zjX (Γ : Cn) (K : PySem.W.Frag) (g : D -> D -> Option D) (r : R2) : Prop :=
 ∀ {G H v u x y z}, zca G H -> Rep Γ K G v x -> Rep Γ K G u y -> g x y = some z -> ∀ Q : VK, (∀ w G' H', Step G H G' H' -> Rep Γ K G' w z -> Q w H') -> r v u H Q
theorem TD.two {g : D -> D -> Option D} {r : R2} (hr : zjX Γ X.K g r) : ∀ σ H Q, TD Γ X.K (b2 g fa fb) σ H Q -> tOp r (TD Γ X.K fa) (TD Γ X.K fb) σ H Q := by
 rintro σ H Q ⟨G₀, H₀, G, ρ, d, A, h, k⟩
 unfold b2 at h
 cases ha : fa ρ with
 | none => rw [ha] at h; cases h
 | some x =>
  cases hb : fb ρ with
  | none => rw [ha] at h; simp only [qa, hb, Option.bind_none] at h; cases h
  | some y =>
   simp only [ha, hb, qa] at h
   refine ⟨G₀, H₀, G, ρ, x, A, ha, fun v G1 H1 s1 r1 => ⟨G₀, H₀, G1, ρ, y, A.step s1, hb, fun u G2 H2 s2 r2 => ?_⟩⟩
   exact hr s2.gh (r1.mono s2.gg) r2 h Q fun w G' H' s r => k w G' H' ((s1.trans s2).trans s) r
theorem zk3 {op : Operator} {g : D -> D -> Option D} {r : R2} (ho : OpR X (binaryOp op) r) (hr : zjX Γ X.K g r) (ha : DE Γ X a fa) (hb : DE Γ X b fb) : DE Γ X (.BinOp a op b pos) (b2 g fa fb) := ⟨(zsS ho ha.1 hb.1).imp (TD.two hr)⟩
def zbf : D -> D -> Option D
 | .int i, .int j => some (.int (i + j))
 | .str x, .str y => if x.length + y.length <= sizeLine then some (.str (x ++ y)) else none
 | .lst x, .lst y => if x.length + y.length <= sizeLine then some (.lst (x ++ y)) else none
 | _, _ => none
def zon : D -> D -> Option D
 | .int i, .int j => some (.int (i - j))
 | _, _ => none
def zm4 (x : Str) (n : Nat) : Str := ⟨(List.replicate n x.cps.toList).flatten.toArray⟩
def zd6 : D -> D -> Option D
 | .int i, .int j => if (-(2 ^ 64) < i /\ i < 2 ^ 64) \/ (-(2 ^ 64) < j /\ j < 2 ^ 64) then some (.int (i * j)) else none
 | .lst x, .int j => if -(2 ^ 63) <= j /\ j < 2 ^ 63 /\ x.length * j.toNat <= sizeLine then some (.lst (List.replicate j.toNat x).flatten) else none
 | .str x, .int j => if 0 <= j /\ j < 1000 /\ x.length < 1000 then some (.str (zm4 x j.toNat)) else none
 | _, _ => none
def zet : D -> D -> Option D
 | .int i, .int j => if 0 < j /\ j < 1073741824 then some (.int (i / j)) else none
 | _, _ => none
def zcn : D -> D -> Option D
 | .int i, .int j => if 0 < j then some (.int (i % j)) else none
 | _, _ => none
def zpp : D -> D -> Option D
 | .int i, .int j => if 0 <= j /\ j <= 1000000 /\ i.natAbs < 2 ^ 64 then some (.int (i ^ j.toNat)) else none
 | _, _ => none
theorem Rep.int_inv {K : PySem.W.Frag} {G : Hp} {v : V} {i : Int} (r : Rep Γ K G v (.int i)) : v = .int i := by cases r; rfl
theorem Rep.str_inv {K : PySem.W.Frag} {G : Hp} {v : V} {i : Str} (r : Rep Γ K G v (.str i)) : v = .str i := by cases r; rfl
theorem Rep.bl_inv {K : PySem.W.Frag} {G : Hp} {v : V} {i : Bool} (r : Rep Γ K G v (.bl i)) : v = .bl i := by cases r; rfl
theorem Rep.lst_inv {K : PySem.W.Frag} {G : Hp} {v : V} {ds : List D} (r : Rep Γ K G v (.lst ds)) : ∃ a vs, v = .ref a /\ G a = some (.lst vs) /\ Reps Γ K G vs ds := by cases r; exact ⟨_, _, rfl, by assumption, by assumption⟩
theorem Rep.tup_inv {K : PySem.W.Frag} {G : Hp} {v : V} {ds : List D} (r : Rep Γ K G v (.tup ds)) : ∃ a vs, v = .ref a /\ G a = some (.tup vs) /\ Reps Γ K G vs ds := by cases r; exact ⟨_, _, rfl, by assumption, by assumption⟩
theorem Rep.scr_inv {K : PySem.W.Frag} {G : Hp} {v : V} {ns : List Int} (r : Rep Γ K G v (.scr ns)) : ∃ a, v = .ref a /\ SqL K G a (ns.map V.int) := by cases r; exact ⟨_, rfl, by assumption⟩
theorem zf8 {K : PySem.W.Frag} {G H : Hp} {vs : List V} {ds : List D} {Q : VK} (gh : zca G H) (r : Reps Γ K G vs ds) (k : ∀ w G' H', Step G H G' H' -> Rep Γ K G' w (.lst ds) -> Q w H') : ∀ p, H p = none -> Q (.ref p) (upd H p (.lst vs)) := fun p hp => by
 have s := Step.new (o := .lst vs) gh hp
 exact k _ _ _ s (.lst zaC (r.mono s.gg))
theorem zjx {K : PySem.W.Frag} {G H : Hp} {vs : List V} {ds : List D} {Q : VK} (gh : zca G H) (r : Reps Γ K G vs ds) (k : ∀ w G' H', Step G H G' H' -> Rep Γ K G' w (.tup ds) -> Q w H') : ∀ p, H p = none -> Q (.ref p) (upd H p (.tup vs)) := fun p hp => by
 have s := Step.new (o := .tup vs) gh hp
 exact k _ _ _ s (.tup zaC (r.mono s.gg))
theorem zn6 {K : PySem.W.Frag} : zjX Γ K zbf (fun x y H Q => (rI0 (fun i j => V.int (i + j)) x y H Q \/ (∃ i j, x = .str i /\ y = .str j /\ i.length + j.length <= sizeLine /\ Q (.str (i ++ j)) H)) \/ zsO x y H Q) := by
 intro G H v u x y z gh r1 r2 h Q k
 unfold zbf at h
 split at h
 ·cases h
  cases r1.int_inv; cases r2.int_inv
  exact .inl (.inl ⟨_, _, rfl, rfl, k _ G H (.refl gh) (.int _)⟩)
 ·split at h
  ·cases h
   cases r1.str_inv; cases r2.str_inv
   exact .inl (.inr ⟨_, _, rfl, rfl, by assumption, k _ G H (.refl gh) (.str _)⟩)
  ·cases h
 ·split at h
  ·rename_i hz
   cases h
   obtain ⟨a, vs, rfl, ha, ra⟩ := r1.lst_inv
   obtain ⟨b, us, rfl, hb, rb⟩ := r2.lst_inv
   exact .inr ⟨a, b, vs, us, rfl, rfl, gh _ _ ha, gh _ _ hb, by rw [ra.length, rb.length]; exact hz, zf8 gh (ra.append rb) k⟩
  ·cases h
 ·cases h
theorem zpI : OpR X (binaryOp .Add) (fun x y H Q => (rI0 (fun i j => V.int (i + j)) x y H Q \/ (∃ i j, x = .str i /\ y = .str j /\ i.length + j.length <= sizeLine /\ Q (.str (i ++ j)) H)) \/ zsO x y H Q) := (zrI.or zkR).or zrH
theorem za2 (ha : DE Γ X a fa) (hb : DE Γ X b fb) : DE Γ X (.BinOp a .Add b pos) (b2 zbf fa fb) := zk3 zpI zn6 ha hb
theorem zmu {K : PySem.W.Frag} {g : D -> D -> Option D} {o : Int -> Int -> Int} (hg : ∀ x y z, g x y = some z -> ∃ i j, x = .int i /\ y = .int j /\ z = .int (o i j)) : zjX Γ K g (rI0 fun i j => V.int (o i j)) := by
 intro G H v u x y z gh r1 r2 h Q k
 obtain ⟨i, j, rfl, rfl, rfl⟩ := hg x y z h
 cases r1.int_inv; cases r2.int_inv
 exact ⟨_, _, rfl, rfl, k _ G H (.refl gh) (.int _)⟩
theorem zgr {K : PySem.W.Frag} {g : D -> D -> Option D} {C : Int -> Int -> Prop} {o : Int -> Int -> Int} (hg : ∀ x y z, g x y = some z -> ∃ i j, x = .int i /\ y = .int j /\ C i j /\ z = .int (o i j)) : zjX Γ K g (rI C fun i j => V.int (o i j)) := by
 intro G H v u x y z gh r1 r2 h Q k
 obtain ⟨i, j, rfl, rfl, hc, rfl⟩ := hg x y z h
 cases r1.int_inv; cases r2.int_inv
 exact ⟨_, _, rfl, rfl, hc, k _ G H (.refl gh) (.int _)⟩
theorem zoM (ha : DE Γ X a fa) (hb : DE Γ X b fb) : DE Γ X (.BinOp a .Sub b pos) (b2 zon fa fb) := zk3 zry (zmu fun x y z h => by
 unfold zon at h; split at h <;> cases h; exact ⟨_, _, rfl, rfl, rfl⟩) ha hb
theorem zff (ha : DE Γ X a fa) (hb : DE Γ X b fb) : DE Γ X (.BinOp a .FloorDiv b pos) (b2 zet fa fb) := zk3 zpH (zgr fun x y z h => by
 unfold zet at h; split at h
 ·split at h <;> cases h; exact ⟨_, _, rfl, rfl, by assumption, rfl⟩
 ·cases h) ha hb
theorem zbQ (ha : DE Γ X a fa) (hb : DE Γ X b fb) : DE Γ X (.BinOp a .Mod b pos) (b2 zcn fa fb) := zk3 zrD (zgr fun x y z h => by
 unfold zcn at h; split at h
 ·split at h <;> cases h; exact ⟨_, _, rfl, rfl, by assumption, rfl⟩
 ·cases h) ha hb
theorem zsd (ha : DE Γ X a fa) (hb : DE Γ X b fb) : DE Γ X (.BinOp a .Pow b pos) (b2 zpp fa fb) := zk3 zrA (zgr fun x y z h => by
 unfold zpp at h; split at h
 ·split at h <;> cases h; exact ⟨_, _, rfl, rfl, by assumption, rfl⟩
 ·cases h) ha hb
theorem zks (a : Array Nat) : ∀ (k : Nat) (acc : List Nat), (List.replicate k a).foldl (· ++ ·) acc.toArray = (acc ++ (List.replicate k a.toList).flatten).toArray
 | 0, acc => by simp
 | k + 1, acc => by
  rw [List.replicate_succ, List.foldl_cons, List.replicate_succ, List.flatten_cons, ← List.append_assoc, ← zks a k (acc ++ a.toList)]
  congr 1
  simp
def zq6 : R2 := fun x y H Q => ∃ z n, x = .str z /\ y = .int n /\ 0 <= n /\ n < 1000 /\ z.length < 1000 /\ Q (.str (zm4 z n.toNat)) H
theorem zpG : OpR X (binaryOp .Mult) zq6 := by
 intro pins s σ H x y v u Q I rx ry h
 obtain ⟨z, n, rfl, rfl, h0, h1, h2, q⟩ := h
 obtain ⟨t, rfl⟩ := rx
 obtain ⟨t', rfl⟩ := ry
 have hl : z.length * n.toNat <= 1000000 := Nat.le_trans (Nat.mul_le_mul (Nat.le_of_lt h2) (show n.toNat <= 1000 by omega)) (by decide)
 have e0 : (List.replicate n.toNat z.cps).foldl (· ++ ·) #[] = (zm4 z n.toNat).cps := by
  have := zks z.cps n.toNat []
  simpa [zm4] using this
 refine PySem.P.mul_str ?_ (fun h _ => ?_) (fun _ _ => ?_) ?_
 ·rw [decide_eq_false (by omega), decide_eq_false (by omega)]; rfl
 ·have e : (z.length : Int) * n = ((z.length * n.toNat : Nat) : Int) := by rw [Int.natCast_mul]; congr 1; omega
  have : (z.length : Int) <= (2 ^ 63 - 1 : Int) / n := Int.le_ediv_of_mul_le (by omega) (by rw [e]; omega)
  omega
 ·unfold Builtin.Str.tooLong
  exact decide_eq_false (by have := sizeLine_eq; omega)
 ·split
  ·have : n = 0 := by omega
   subst this
   exact ⟨by decide, ⟨.str _, H, I.tok _, ⟨_, rfl⟩, by simpa [zm4, Str.empty] using q⟩⟩
  ·split
   ·rename_i hc
    have ez : zm4 z n.toNat = z := by
     rcases Bool.or_eq_true _ _ ▸ hc with e | e
     ·have : n = 1 := by simpa using e
      subst this
      simp [zm4]
     ·have hz : z.cps = #[] := by
       have : z.cps.size = 0 := by simpa [Str.length] using e
       exact Array.eq_empty_of_size_eq_zero this
      cases z
      simp only at hz
      subst hz
      simp [zm4]
    exact ⟨.str _, H, I, ⟨_, rfl⟩, by rw [← ez]; exact q⟩
   ·rw [e0]
    refine ⟨?_, ⟨.str _, H, I.tok _, ⟨_, rfl⟩, q⟩⟩
    have e1 : (zm4 z n.toNat).length = n.toNat * z.length := by
     show (List.replicate n.toNat z.cps.toList).flatten.toArray.size = _
     rw [List.size_toArray, zl4]
     simp [Str.length]
    show (zm4 z n.toNat).length <= sizeLine
    rw [e1, Nat.mul_comm]
    have := sizeLine_eq
    omega
theorem zn5 {K : PySem.W.Frag} : zjX Γ K zd6 (fun x y H Q => (rI zsA (fun i j => V.int (i * j)) x y H Q \/ ztz x y H Q) \/ zq6 x y H Q) := by
 intro G H v u x y z gh r1 r2 h Q k
 unfold zd6 at h
 split at h
 ·split at h
  ·cases h
   cases r1.int_inv; cases r2.int_inv
   exact .inl (.inl ⟨_, _, rfl, rfl, by assumption, k _ G H (.refl gh) (.int _)⟩)
  ·cases h
 ·split at h
  ·rename_i hz
   cases h
   obtain ⟨a, vs, rfl, ha, ra⟩ := r1.lst_inv
   cases r2.int_inv
   exact .inl (.inr ⟨a, _, vs, rfl, rfl, gh _ _ ha, hz.1, hz.2.1, by rw [ra.length]; exact hz.2.2, zf8 gh (ra.rep _) k⟩)
  ·cases h
 ·split at h
  ·rename_i hz
   cases h
   cases r1.str_inv
   cases r2.int_inv
   exact .inr ⟨_, _, rfl, rfl, hz.1, hz.2.1, hz.2.2, k _ G H (.refl gh) (.str _)⟩
  ·cases h
 ·cases h
theorem zd9 (ha : DE Γ X a fa) (hb : DE Γ X b fb) : DE Γ X (.BinOp a .Mult b pos) (b2 zd6 fa fb) := zk3 ((zrC.or zrz).or zpG) zn5 ha hb
end
end L2
end
section
namespace L2
open PySem PySem.Spec PyProof.Rows
section
variable {Γ : Cn} {X : Cx} {a b c e : Expr} {es : List Expr} {fa fb fc f : FE} {pos : Pos}
theorem Rep.non_inv {K : PySem.W.Frag} {G : Hp} {v : V} (r : Rep Γ K G v .non) : v = .non := by cases r; rfl
def ltS (x y : Str) : Bool := decide (x.cps.toList < y.cps.toList)
def ltD : D -> D -> Option D
 | .int i, .int j => some (.bl (decide (i < j)))
 | .str x, .str y => some (.bl (ltS x y))
 | _, _ => none
def leD : D -> D -> Option D
 | .int i, .int j => some (.bl (decide (i <= j)))
 | .str x, .str y => some (.bl (!ltS y x))
 | _, _ => none
def gtD : D -> D -> Option D
 | .int i, .int j => some (.bl (decide (j < i)))
 | _, _ => none
def eqS : D -> D -> Option Bool
 | .int i, .int j => some (decide (i = j))
 | .bl i, .bl j => some (decide (i = j))
 | .str i, .str j => some (decide (i = j))
 | .non, .non => some true
 | .non, .int _ => some false | .int _, .non => some false | .non, .bl _ => some false | .bl _, .non => some false | .non, .str _ => some false | .str _, .non => some false
 | .int _, .str _ => some false | .str _, .int _ => some false | .bl _, .str _ => some false | .str _, .bl _ => some false
 | _, _ => none
def eqD (x y : D) : Option D := (eqS x y).map D.bl
def neD (x y : D) : Option D := (eqS x y).map fun b => D.bl (!b)
theorem zoK {K : PySem.W.Frag} {G : Hp} {v u : V} {x y : D} {k : Bool} (r1 : Rep Γ K G v x) (r2 : Rep Γ K G u y) (h : eqS x y = some k) : zsM v u = true /\ decide (v = u) = k := by
 unfold eqS at h
 split at h <;> cases h
 ·cases r1.int_inv; cases r2.int_inv; exact ⟨rfl, by simp⟩
 ·cases r1.bl_inv; cases r2.bl_inv; exact ⟨rfl, by simp⟩
 ·cases r1.str_inv; cases r2.str_inv; exact ⟨rfl, by simp⟩
 ·cases r1.non_inv; cases r2.non_inv; exact ⟨rfl, by simp⟩
 ·cases r1.non_inv; cases r2.int_inv; exact ⟨rfl, by simp⟩
 ·cases r1.int_inv; cases r2.non_inv; exact ⟨rfl, by simp⟩
 ·cases r1.non_inv; cases r2.bl_inv; exact ⟨rfl, by simp⟩
 ·cases r1.bl_inv; cases r2.non_inv; exact ⟨rfl, by simp⟩
 ·cases r1.non_inv; cases r2.str_inv; exact ⟨rfl, by simp⟩
 ·cases r1.str_inv; cases r2.non_inv; exact ⟨rfl, by simp⟩
 ·cases r1.int_inv; cases r2.str_inv; exact ⟨rfl, by simp⟩
 ·cases r1.str_inv; cases r2.int_inv; exact ⟨rfl, by simp⟩
 ·cases r1.bl_inv; cases r2.str_inv; exact ⟨rfl, by simp⟩
 ·cases r1.str_inv; cases r2.bl_inv; exact ⟨rfl, by simp⟩
theorem zqn {K : PySem.W.Frag} : zjX Γ K eqD rEq := by
 intro G H v u x y z gh r1 r2 h Q k
 unfold eqD at h
 cases e : eqS x y with
 | none => rw [e] at h; cases h
 | some b =>
  rw [e] at h
  cases h
  obtain ⟨h1, h2⟩ := zoK r1 r2 e
  exact ⟨h1, by rw [h2]; exact k _ G H (.refl gh) (.bl _)⟩
theorem zqj {K : PySem.W.Frag} : zjX Γ K neD rNe := by
 intro G H v u x y z gh r1 r2 h Q k
 unfold neD at h
 cases e : eqS x y with
 | none => rw [e] at h; cases h
 | some b =>
  rw [e] at h
  cases h
  obtain ⟨h1, h2⟩ := zoK r1 r2 e
  exact ⟨h1, by rw [h2]; exact k _ G H (.refl gh) (.bl _)⟩
theorem zmt {K : PySem.W.Frag} {g : D -> D -> Option D} {o : Int -> Int -> Bool} (hg : ∀ x y z, g x y = some z -> ∃ i j, x = .int i /\ y = .int j /\ z = .bl (o i j)) : zjX Γ K g (rI0 fun i j => V.bl (o i j)) := by
 intro G H v u x y z gh r1 r2 h Q k
 obtain ⟨i, j, rfl, rfl, rfl⟩ := hg x y z h
 cases r1.int_inv; cases r2.int_inv
 exact ⟨_, _, rfl, rfl, k _ G H (.refl gh) (.bl _)⟩
theorem zlL : OpR X (compareOp .LtE) (fun x y H Q => ∃ i j, x = .str i /\ y = .str j /\ Q (.bl (!ltS j i)) H) := by
 intro pins s σ H x y v u Q I rx ry h
 obtain ⟨i, j, rfl, rfl, q⟩ := h
 obtain ⟨t, rfl⟩ := rx
 obtain ⟨t', rfl⟩ := ry
 exact PySem.P.le_str (zbb I q (by simp [ltS]))
theorem zqk {K : PySem.W.Frag} : zjX Γ K ltD (fun x y H Q => rI0 (fun i j => V.bl (decide (i < j))) x y H Q \/ ∃ i j, x = .str i /\ y = .str j /\ Q (.bl (decide (i.cps.toList < j.cps.toList))) H) := by
 intro G H v u x y z gh r1 r2 h Q k
 unfold ltD at h
 split at h <;> cases h
 ·cases r1.int_inv; cases r2.int_inv; exact .inl ⟨_, _, rfl, rfl, k _ G H (.refl gh) (.bl _)⟩
 ·cases r1.str_inv; cases r2.str_inv; exact .inr ⟨_, _, rfl, rfl, k _ G H (.refl gh) (.bl _)⟩
theorem zql {K : PySem.W.Frag} : zjX Γ K leD (fun x y H Q => rI0 (fun i j => V.bl (decide (i <= j))) x y H Q \/ ∃ i j, x = .str i /\ y = .str j /\ Q (.bl (!ltS j i)) H) := by
 intro G H v u x y z gh r1 r2 h Q k
 unfold leD at h
 split at h <;> cases h
 ·cases r1.int_inv; cases r2.int_inv; exact .inl ⟨_, _, rfl, rfl, k _ G H (.refl gh) (.bl _)⟩
 ·cases r1.str_inv; cases r2.str_inv; exact .inr ⟨_, _, rfl, rfl, k _ G H (.refl gh) (.bl _)⟩
structure CmpD (Γ : Cn) (X : Cx) (op : CmpOp) (g : D -> D -> Option D) : Prop where
 ex : ∃ r, OpR X (compareOp op) r /\ zjX Γ X.K g r
theorem zoe : CmpD Γ X .Lt ltD := ⟨_, zsZ.or zlK, zqk⟩
theorem zh5 : CmpD Γ X .LtE leD := ⟨_, zs0.or zlL, zql⟩
theorem ztl : CmpD Γ X .Gt gtD := ⟨_, zs1, zmt fun x y z h => by unfold gtD at h; split at h <;> cases h; exact ⟨_, _, rfl, rfl, rfl⟩⟩
theorem zgw : CmpD Γ X .Eq eqD := ⟨_, zs2, zqn⟩
theorem ztk : CmpD Γ X .NotEq neD := ⟨_, zsY, zqj⟩
theorem zeP {op : CmpOp} {g : D -> D -> Option D} (h : CmpD Γ X op g) (ha : DE Γ X a fa) (hb : DE Γ X b fb) (hm : behindInMarks op b = false) : DE Γ X (.Compare a [op] [b] pos) (b2 g fa fb) := ⟨by
 obtain ⟨r, ho, hr⟩ := h.ex
 exact (zpB ho ha.1 hb.1 hm).imp (TD.two hr)⟩
def chD (g g' : D -> D -> Option D) (fa fb fc : FE) : FE := fun ρ => (fa ρ).bind fun x => (fb ρ).bind fun y => (g x y).bind fun z => match z with
 | .bl true => (fc ρ).bind fun w => g' y w
 | .bl false => some (.bl false)
 | _ => none
theorem TD.chain {g g' : D -> D -> Option D} {r r' : R2} (hr : zjX Γ X.K g r) (hr' : zjX Γ X.K g' r') : ∀ σ H Q, TD Γ X.K (chD g g' fa fb fc) σ H Q -> zll r r' (TD Γ X.K fa) (TD Γ X.K fb) (TD Γ X.K fc) σ H Q := by
 rintro σ H Q ⟨G₀, H₀, G, ρ, d, A, h, k⟩
 unfold chD at h
 obtain ⟨x, ha, h⟩ := oBd h
 obtain ⟨y, hb, h⟩ := oBd h
 obtain ⟨z, hz, h⟩ := oBd h
 refine ⟨G₀, H₀, G, ρ, x, A, ha, fun v G1 H1 s1 r1 => ⟨G₀, H₀, G1, ρ, y, A.step s1, hb, fun u G2 H2 s2 r2 => ?_⟩⟩
 refine hr s2.gh (r1.mono s2.gg) r2 hz _ fun w G3 H3 s3 r3 => ?_
 split at h
 ·cases r3.bl_inv
  obtain ⟨w, hc, h⟩ := oBd h
  refine ⟨true, rfl, zqL ⟨G₀, H₀, G3, ρ, w, ((A.step s1).step s2).step s3, hc, fun q G4 H4 s4 r4 => ?_⟩⟩
  exact hr' s4.gh ((r2.mono s3.gg).mono s4.gg) r4 h Q fun w' G' H' s r => k w' G' H' ((((s1.trans s2).trans s3).trans s4).trans s) r
 ·cases r3.bl_inv
  cases h
  exact ⟨false, rfl, zqM (k _ G3 H3 ((s1.trans s2).trans s3) (.bl _))⟩
 ·cases h
theorem zh1 {op op' : CmpOp} {g g' : D -> D -> Option D} (h : CmpD Γ X op g) (h' : CmpD Γ X op' g') (ha : DE Γ X a fa) (hb : DE Γ X b fb) (hc : DE Γ X c fc) (hm : lastMarks [op, op'] [b, c] = false := by with_unfolding_all rfl) :
  DE Γ X (.Compare a [op, op'] [b, c] pos) (chD g g' fa fb fc) := ⟨by
 obtain ⟨r, ho, hr⟩ := h.ex
 obtain ⟨r', ho', hr'⟩ := h'.ex
 exact (znC ho ho' ha.1 hb.1 hc.1 hm).imp (TD.chain hr hr')⟩
def toB (f : FE) : FT := fun ρ => (f ρ).bind fun d => match d with
 | .bl b => some b
 | _ => none
theorem TDt.val {f : FE} : ∀ σ H Q, TDt Γ X.K (toB f) σ H Q -> TD Γ X.K f σ H fun x H' => ∃ k, x = .bl k /\ Q k H' := by
 rintro σ H Q ⟨G₀, H₀, G, ρ, b, A, h, k⟩
 unfold toB at h
 obtain ⟨d, hd, h⟩ := oBd h
 split at h <;> cases h
 exact ⟨G₀, H₀, G, ρ, _, A, hd, fun v G' H' s r => ⟨b, r.bl_inv, k G' H' s⟩⟩
theorem zbN {op : CmpOp} {g : D -> D -> Option D} (h : CmpD Γ X op g) (ha : DE Γ X a fa) (hb : DE Γ X b fb) (hm : behindInMarks op b = false) : DT Γ X (.Compare a [op] [b] pos) (toB (b2 g fa fb)) := ⟨by
 obtain ⟨r, ho, hr⟩ := h.ex
 exact (zpm ho ha.1 hb.1 hm).imp fun σ H Q q => TD.two hr σ H _ (TDt.val σ H Q q)⟩
theorem zn2 {op op' : CmpOp} {g g' : D -> D -> Option D} (h : CmpD Γ X op g) (h' : CmpD Γ X op' g') (ha : DE Γ X a fa) (hb : DE Γ X b fb) (hc : DE Γ X c fc) (hm : lastMarks [op, op'] [b, c] = false := by with_unfolding_all rfl) :
  DT Γ X (.Compare a [op, op'] [b, c] pos) (toB (chD g g' fa fb fc)) := ⟨by
 obtain ⟨r, ho, hr⟩ := h.ex
 obtain ⟨r', ho', hr'⟩ := h'.ex
 exact (znr ho ho' ha.1 hb.1 hc.1 hm).imp fun σ H Q q => TD.chain hr hr' σ H _ (TDt.val σ H Q q)⟩
theorem zaJ (h : DE Γ X e f) (he : ∀ whole, isTrue e X.env whole = (do let v ← whole; standAt e.pos; holding [v] (truthy v)) := by intro _; rfl) : DT Γ X e (toB f) := ⟨(zrc h.1 he).imp TDt.val⟩
def zb6 (f : FT) : FT := fun ρ => (f ρ).map (!·)
def zfz (f g : FT) : FT := fun ρ => (f ρ).bind fun b => if b = true then g ρ else some false
def orT (f g : FT) : FT := fun ρ => (f ρ).bind fun b => if b = true then some true else g ρ
variable {ft gt : FT} {zcY : List Expr}
theorem DW.dt {e : Expr} (h : DW Γ X e ft) : DT Γ X e ft := ⟨h.1.pt⟩
theorem zaL (h : DT Γ X a ft) : DT Γ X (.UnaryOp .Not a pos) (zb6 ft) := ⟨(zrd h.1).imp fun σ H Q => by
 rintro ⟨G₀, H₀, G, ρ, b, A, h, k⟩
 unfold zb6 at h
 obtain ⟨c, hc, h⟩ := oMd h
 exact ⟨G₀, H₀, G, ρ, c, A, hc, fun G' H' s => by show Q (!c) H'; rw [h]; exact k G' H' s⟩⟩
theorem zgo (h : DT Γ X a ft) : DW Γ X (.BoolOp .And [a] pos) ft := ⟨zpi h.1⟩
theorem zck (h : DT Γ X a ft) : DW Γ X (.BoolOp .Or [a] pos) ft := ⟨zq9 h.1⟩
theorem zgp (h : DT Γ X a ft) (h' : DW Γ X (.BoolOp .And (b :: zcY) pos) gt) : DW Γ X (.BoolOp .And (a :: b :: zcY) pos) (zfz ft gt) := ⟨(zra h.1 h'.1).imp fun σ H Q => by
 rintro ⟨G₀, H₀, G, ρ, r, A, h, k⟩
 unfold zfz at h
 obtain ⟨c, hc, h⟩ := oBd h
 refine ⟨G₀, H₀, G, ρ, c, A, hc, fun G1 H1 s1 => ?_⟩
 cases c with
 | true => exact zqL ⟨G₀, H₀, G1, ρ, r, A.step s1, by simpa using h, fun G' H' s => k G' H' (s1.trans s)⟩
 | false =>
  rw [if_neg qp] at h
  cases h
  exact zqM (k _ _ s1)⟩
theorem zcM (h : DT Γ X a ft) (h' : DW Γ X (.BoolOp .Or (b :: zcY) pos) gt) : DW Γ X (.BoolOp .Or (a :: b :: zcY) pos) (orT ft gt) := ⟨(zsP h.1 h'.1).imp fun σ H Q => by
 rintro ⟨G₀, H₀, G, ρ, r, A, h, k⟩
 unfold orT at h
 obtain ⟨c, hc, h⟩ := oBd h
 refine ⟨G₀, H₀, G, ρ, c, A, hc, fun G1 H1 s1 => ?_⟩
 cases c with
 | false => exact zqM ⟨G₀, H₀, G1, ρ, r, A.step s1, by simpa using h, fun G' H' s => k G' H' (s1.trans s)⟩
 | true =>
  rw [if_pos rfl] at h
  cases h
  exact zqL (k _ _ s1)⟩
def zec (fa fb : FE) : FE := fun ρ => (fa ρ).bind fun d => match d with
 | .bl true => fb ρ
 | .bl false => some (.bl false)
 | _ => none
def zsv (fa : FE) : FE := fun ρ => (fa ρ).bind fun d => match d with
 | .bl b => some (.bl (!b))
 | _ => none
theorem zdf {op} (h : DE Γ X a fa) : DE Γ X (.BoolOp op [a] pos) fa := ⟨zrp h.1⟩
theorem zcH (ha : DE Γ X a fa) (hb : DE Γ X (.BoolOp .And (b :: zcY) pos) fb) : DE Γ X (.BoolOp .And (a :: b :: zcY) pos) (zec fa fb) := ⟨(zru ha.1 hb.1).imp fun σ H Q => by
 rintro ⟨G₀, H₀, G, ρ, d, A, h, k⟩
 unfold zec at h
 obtain ⟨x, hx, h⟩ := oBd h
 refine ⟨G₀, H₀, G, ρ, x, A, hx, fun v G1 H1 s1 r1 => ?_⟩
 split at h
 ·cases r1.bl_inv
  exact ⟨true, rfl, zqL ⟨G₀, H₀, G1, ρ, d, A.step s1, h, fun w G' H' s r => k w G' H' (s1.trans s) r⟩⟩
 ·cases r1.bl_inv
  cases h
  exact ⟨false, rfl, zqM (k _ G1 H1 s1 (.bl _))⟩
 ·cases h⟩
theorem zse (ha : DE Γ X a fa) : DE Γ X (.UnaryOp .Not a pos) (zsv fa) := ⟨(zrq ha.1).imp fun σ H Q => by
 rintro ⟨G₀, H₀, G, ρ, d, A, h, k⟩
 unfold zsv at h
 obtain ⟨x, hx, h⟩ := oBd h
 refine ⟨G₀, H₀, G, ρ, x, A, hx, fun v G1 H1 s1 r1 => ?_⟩
 split at h
 ·cases r1.bl_inv
  cases h
  exact ⟨_, rfl, k _ G1 H1 s1 (.bl _)⟩
 ·cases h⟩
def zai : FA := fun _ => some []
def zaa (fa : FE) (fr : FA) : FA := fun ρ => (fa ρ).bind fun x => (fr ρ).map (x :: ·)
variable {fr : FA}
theorem zae : DA Γ X [] zai := ⟨zfu.imp fun σ H Q => by
 rintro ⟨G₀, H₀, G, ρ, d, A, h, k⟩
 cases h
 exact k _ G H (.refl A.gh) .nil⟩
theorem zab (ha : DE Γ X e fa) (hr : DA Γ X es fr) (hs : starEach (e :: es) X.env = (false, eval e X.env) :: starEach es X.env := by rfl) : DA Γ X (e :: es) (zaa fa fr) := ⟨(zdH ha.1 hr.1 hs).imp fun σ H Q => by
 rintro ⟨G₀, H₀, G, ρ, d, A, h, k⟩
 unfold zaa at h
 obtain ⟨x, hx, h⟩ := oBd h
 obtain ⟨xs, hxs, h⟩ := oMd h
 subst h
 exact ⟨G₀, H₀, G, ρ, x, A, hx, fun v G1 H1 s1 r1 => ⟨G₀, H₀, G1, ρ, xs, A.step s1, hxs, fun vs G2 H2 s2 r2 => k _ G2 H2 (s1.trans s2) (.cons (r1.mono s2.gg) r2)⟩⟩⟩
def szF (fr : FA) : FA := fun ρ => (fr ρ).bind fun l => if l.length <= sizeLine then some l else none
def zaS (fr : FA) : FE := fun ρ => (fr ρ).map D.lst
def zbu (fr : FA) : FE := fun ρ => (fr ρ).map D.tup
theorem DO.de (h : DO Γ X e fr) : DE Γ X e (zaS fr) := ⟨h.1.imp fun σ H Q => by
 rintro ⟨G₀, H₀, G, ρ, d, A, h, k⟩
 unfold zaS at h
 obtain ⟨ds, hd, rfl⟩ := oMd h
 exact ⟨G₀, H₀, G, ρ, ds, A, hd, fun p vs G' H' s hp r => zf8 s.gh r (fun w G2 H2 s2 r2 => k w G2 H2 (s.trans s2) r2) p hp⟩⟩
theorem zbw (h : DA Γ X es fr) : DO Γ X (.List es pos) (szF fr) := ⟨(zrs h.1).imp fun σ H Q => by
 rintro ⟨G₀, H₀, G, ρ, d, A, h, k⟩
 unfold szF at h
 obtain ⟨ds, hd, h⟩ := oBd h
 split at h
 ·rename_i hz
  cases h
  exact ⟨G₀, H₀, G, ρ, d, A, hd, fun vs G' H' s r => ⟨by rw [r.length]; exact hz, fun p hp => k p vs G' H' s hp r⟩⟩
 ·cases h⟩
theorem zbx {x1} (h : DA Γ X es fr) : DE Γ X (.Tuple es x1 pos) (zbu (szF fr)) := ⟨(zrn h.1).imp fun σ H Q => by
 rintro ⟨G₀, H₀, G, ρ, d, A, h, k⟩
 unfold zbu szF at h
 obtain ⟨ds', hd', rfl⟩ := oMd h
 obtain ⟨ds, hd, h⟩ := oBd hd'
 split at h
 ·rename_i hz
  cases h
  exact ⟨G₀, H₀, G, ρ, ds', A, hd, fun vs G' H' s r => ⟨by rw [r.length]; exact hz, zjx s.gh r fun w G2 H2 s2 r2 => k w G2 H2 (s.trans s2) r2⟩⟩
 ·cases h⟩
def zqF (Γ : Cn) (K : PySem.W.Frag) (g : List D -> Option D) (r : List V -> Hp -> VK -> Prop) : Prop :=
 ∀ {G H vs ds z}, zca G H -> Reps Γ K G vs ds -> g ds = some z -> ∀ Q : VK, (∀ w G' H', Step G H G' H' -> Rep Γ K G' w z -> Q w H') -> r vs H Q
def cF (g : List D -> Option D) (fr : FA) : FE := fun ρ => (fr ρ).bind g
theorem TD.call {g : List D -> Option D} {r : List V -> Hp -> VK -> Prop} (hr : zqF Γ X.K g r) : ∀ σ H Q, TD Γ X.K (cF g fr) σ H Q -> tCB r (TDa Γ X.K fr) σ H Q := by
 rintro σ H Q ⟨G₀, H₀, G, ρ, d, A, h, k⟩
 unfold cF at h
 obtain ⟨ds, hd, h⟩ := oBd h
 exact ⟨G₀, H₀, G, ρ, ds, A, hd, fun vs G1 H1 s1 r1 => hr s1.gh r1 h Q fun w G' H' s r => k w G' H' (s1.trans s) r⟩
structure BltD (Γ : Cn) (X : Cx) (id : String) (g : List D -> Option D) : Prop where
 ex : ∃ r, zez X (.builtin id) r /\ zqF Γ X.K g r
structure TyD (Γ : Cn) (X : Cx) (id : String) (g : List D -> Option D) : Prop where
 ex : ∃ r, zez X (.type id) r /\ zqF Γ X.K g r
variable {x : Str} {p : Pos}
theorem zaz {id : String} {g : List D -> Option D} (hc : BltD Γ X id g) (hg : Gl X x) (hm : X.mg x = none) (hv : bootBuiltins x = some (.builtin id)) (ha : DA Γ X (e :: es) fr) (hn : x ≠ "__name__" := by decide) (hdb : (x == ("__debug__" : Str)) = false := by decide)
  (he : starEach (e :: es) X.env = (false, eval e X.env) :: starEach es X.env := by rfl) (hpl : (backTo pos (starEach es X.env)).any (·.1) = false := by rfl) : DE Γ X (.Call (.Name x p) (e :: es) [] pos) (cF g fr) := ⟨by
 obtain ⟨r, h1, h2⟩ := hc.ex
 exact (zkc h1 hg hm hv ha.1 hn hdb he hpl).imp (TD.call h2)⟩
theorem zdg {id : String} {g : List D -> Option D} (hc : TyD Γ X id g) (hg : Gl X x) (hm : X.mg x = none) (hv : bootBuiltins x = some (.type id)) (ha : DA Γ X (e :: es) fr) (hn : x ≠ "__name__" := by decide) (hdb : (x == ("__debug__" : Str)) = false := by decide)
  (he : starEach (e :: es) X.env = (false, eval e X.env) :: starEach es X.env := by rfl) (hpl : (backTo pos (starEach es X.env)).any (·.1) = false := by rfl) : DE Γ X (.Call (.Name x p) (e :: es) [] pos) (cF g fr) := ⟨by
 obtain ⟨r, h1, h2⟩ := hc.ex
 exact (zf5 h1 hg hm hv ha.1 hn hdb he hpl).imp (TD.call h2)⟩
theorem zgX {n : String} (hg : Gl X x) (hm : X.mg x = none) (hv : bootBuiltins x = some (.type n)) (hn : x ≠ "__name__" := by decide) (hd : (x == ("__debug__" : Str)) = false := by decide) : DE Γ X (.Name x pos) (vC (.ty n)) := TD.const (fun _ => .ty n) (zpD hg hm hv rfl hn hd)
theorem Reps.one {K : PySem.W.Frag} {G : Hp} {vs : List V} {d : D} (r : Reps Γ K G vs [d]) : ∃ v, vs = [v] /\ Rep Γ K G v d := by
 cases r with
 | cons h t => cases t; exact ⟨_, rfl, h⟩
theorem Reps.two {K : PySem.W.Frag} {G : Hp} {vs : List V} {d d' : D} (r : Reps Γ K G vs [d, d']) : ∃ v u, vs = [v, u] /\ Rep Γ K G v d /\ Rep Γ K G u d' := by
 cases r with
 | cons h t => cases t with
  | cons h2 t2 => cases t2; exact ⟨_, _, rfl, h, h2⟩
def zsz : List D -> Option D
 | [.int i] => some (.int (if i < 0 then -i else i))
 | _ => none
theorem zsp : BltD Γ X "abs" zsz := ⟨_, zoh, fun {G H vs ds z} gh r h Q k => by
 unfold zsz at h
 split at h <;> cases h
 obtain ⟨v, rfl, r1⟩ := r.one
 cases r1.int_inv
 exact ⟨_, rfl, k _ G H (.refl gh) (.int _)⟩⟩
def zqK : List D -> Option D
 | [.int i, .int j] => some (.int (if j > i then j else i))
 | _ => none
theorem zso (hc : X.calm = true) : BltD Γ X "max" zqK := ⟨_, zmO hc, fun {G H vs ds z} gh r h Q k => by
 unfold zqK at h
 split at h <;> cases h
 obtain ⟨v, u, rfl, r1, r2⟩ := r.two
 cases r1.int_inv; cases r2.int_inv
 exact ⟨_, _, rfl, k _ G H (.refl gh) (.int _)⟩⟩
def zlT : List D -> Option D
 | [.int i, .int j] => some (.int (if j < i then j else i))
 | _ => none
theorem zmW (hc : X.calm = true) : BltD Γ X "min" zlT := ⟨_, zmM hc, fun {G H vs ds z} gh r h Q k => by
 unfold zlT at h
 split at h <;> cases h
 obtain ⟨v, u, rfl, r1, r2⟩ := r.two
 cases r1.int_inv; cases r2.int_inv
 exact ⟨_, _, rfl, k _ G H (.refl gh) (.int _)⟩⟩
def zcT : List D -> Option D
 | [.str x] => if x.length <= sizeLine then some (.int (x.length : Nat)) else none
 | [.lst l] => some (.int (l.length : Nat))
 | [.tup l] => some (.int (l.length : Nat))
 | [.scr l] => some (.int (l.length : Nat))
 | _ => none
theorem zcW : BltD Γ X "len" zcT := ⟨_, zog, fun {G H vs ds z} gh r h Q k => by
 unfold zcT at h
 split at h
 ·split at h
  ·cases h
   obtain ⟨v, rfl, r1⟩ := r.one
   cases r1.str_inv
   exact ⟨_, _, rfl, ⟨by assumption, rfl⟩, k _ G H (.refl gh) (.int _)⟩
  ·cases h
 ·cases h
  obtain ⟨v, rfl, r1⟩ := r.one
  obtain ⟨a, vs, rfl, ha, rv⟩ := r1.lst_inv
  exact ⟨_, _, rfl, .inl ⟨vs, .inl (.inl (gh _ _ ha)), rfl⟩, k _ G H (.refl gh) (by rw [rv.length]; exact .int _)⟩
 ·cases h
  obtain ⟨v, rfl, r1⟩ := r.one
  obtain ⟨a, vs, rfl, ha, rv⟩ := r1.tup_inv
  exact ⟨_, _, rfl, .inr ⟨vs, .inl (.inl (gh _ _ ha)), rfl⟩, k _ G H (.refl gh) (by rw [rv.length]; exact .int _)⟩
 ·cases h
  obtain ⟨v, rfl, r1⟩ := r.one
  obtain ⟨a, rfl, ha⟩ := r1.scr_inv
  exact ⟨_, _, rfl, .inl ⟨_, gh.seq ha, rfl⟩, k _ G H (.refl gh) (by rw [qe]; exact .int _)⟩
 ·cases h⟩
def tyD : D -> Option String
 | .non => some "NoneType"
 | .bl _ => some "bool"
 | .int _ => some "int"
 | .str _ => some "str"
 | .lst _ => some "list"
 | .tup _ => some "tuple"
 | .dk _ => some "dict"
 | .dt _ => some "dict"
 | _ => none
def zji (t c : String) : Option Bool := if (Value.type t == Value.type c) = true then some true else if PySem.W.kitMeta c = true then Option.map (fun x => x.contains (Value.type c)) (PySem.fastBuiltinMro t) else none
def zd7 : List D -> Option D
 | [d, .ty c] => (tyD d).bind fun t => (zji t c).map D.bl
 | _ => none
theorem zoW {K : PySem.W.Frag} {G H : Hp} {v : V} {d : D} {t : String} (gh : zca G H) (r : Rep Γ K G v d) (h : tyD d = some t) : TyOf K H v (.type t) := by
 unfold tyD at h
 split at h <;> cases h
 ·cases r.non_inv; exact .non
 ·cases r.bl_inv; exact .bl _
 ·cases r.int_inv; exact .int _
 ·cases r.str_inv; exact .str _
 ·obtain ⟨a, vs, rfl, ha, _⟩ := r.lst_inv; exact .lst (gh _ _ ha)
 ·obtain ⟨a, vs, rfl, ha, _⟩ := r.tup_inv; exact .tup (gh _ _ ha)
 ·cases r with
  | dk h _ _ => exact .dK (gh _ _ h)
 ·cases r with
  | dt h _ _ => exact .dT (gh _ _ h)
theorem zeb : BltD Γ X "isinstance" zd7 := by
 refine ⟨fun vs H Q => ∃ v t c b, vs = [v, .ty c] /\ TyOf X.K H v (.type t) /\ PySem.W.kitOne X.K (.type t) (.type c) = some b /\ Q (.bl b) H, ?_, ?_⟩
 ·intro pins s σ H xs us Q I r h
  obtain ⟨v, t, c, b, rfl, ty, hk, q⟩ := h
  obtain ⟨u, w', rfl, r1, r2⟩ := zoV r
  cases r2
  exact zmc I r1 ty hk fun tk => ⟨.bl b, H, I.tok tk, rfl, q⟩
 ·intro G H vs ds z gh r h Q k
  unfold zd7 at h
  split at h
  ·obtain ⟨t, ht, h⟩ := oBd h
   obtain ⟨b, hb, rfl⟩ := oMd h
   obtain ⟨v, u, rfl, r1, r2⟩ := r.two
   cases r2
   exact ⟨v, t, _, b, rfl, zoW gh r1 ht, hb, k _ G H (.refl gh) (.bl _)⟩
  ·cases h
end
end L2
end
section
namespace L2
open PySem PySem.Spec PyProof.Rows
section
variable {Γ : Cn} {X : Cx} {a b c e : Expr} {es : List Expr} {fa fb fc f : FE} {fr : FA} {pos p2 : Pos}
theorem Reps.atI {K : PySem.W.Frag} {G : Hp} {vs : List V} {ds : List D} {i : Int} {d : D} (r : Reps Γ K G vs ds) (h : L2.atI ds i = some d) : ∃ v, L2.atI vs i = some v /\ Rep Γ K G v d := by
 unfold L2.atI at h ⊢
 rw [r.length]
 cases e : ixN ds.length i with
 | none => rw [e] at h; cases h
 | some j =>
  rw [e] at h
  obtain ⟨v, h1, h2⟩ := r.get (i := j) (d := d) h
  exact ⟨v, h1, h2⟩
theorem zqC {α β : Type} (g : α -> β) (xs : List α) (i : Int) : L2.atI (xs.map g) i = (L2.atI xs i).map g := by
 unfold L2.atI
 rw [qe]
 cases ixN xs.length i with
 | none => rfl
 | some j => simp
def ixD : D -> D -> Option D
 | .lst l, .int i => atI l i
 | .tup l, .int i => atI l i
 | .scr l, .int i => (atI l i).map D.int
 | .str x, .int i => if x.length <= sizeLine then (atI x.cps.toList i).map fun c => D.str ⟨#[c]⟩ else none
 | _, _ => none
theorem zqm {K : PySem.W.Frag} : zjX Γ K ixD (rIx K) := by
 intro G H v u x y z gh r1 r2 h Q k
 unfold ixD at h
 split at h
 ·obtain ⟨a, vs, rfl, ha, rv⟩ := r1.lst_inv
  cases r2.int_inv
  obtain ⟨w, hw, rw'⟩ := rv.atI h
  exact .inl ⟨a, vs, _, w, rfl, rfl, .inl (.inl (gh _ _ ha)), hw, k w G H (.refl gh) rw'⟩
 ·obtain ⟨a, vs, rfl, ha, rv⟩ := r1.tup_inv
  cases r2.int_inv
  obtain ⟨w, hw, rw'⟩ := rv.atI h
  exact .inr (.inl ⟨a, vs, _, w, rfl, rfl, .inl (.inl (gh _ _ ha)), hw, k w G H (.refl gh) rw'⟩)
 ·obtain ⟨a, rfl, ha⟩ := r1.scr_inv
  cases r2.int_inv
  obtain ⟨n, hn, rfl⟩ := oMd h
  exact .inl ⟨a, _, _, .int n, rfl, rfl, gh.seq ha, by rw [zqC, hn]; rfl, k _ G H (.refl gh) (.int _)⟩
 ·split at h
  ·cases r1.str_inv
   cases r2.int_inv
   obtain ⟨n, hn, rfl⟩ := oMd h
   exact .inr (.inr ⟨_, _, n, rfl, rfl, by assumption, hn, k _ G H (.refl gh) (.str _)⟩)
  ·cases h
 ·cases h
theorem zar (ha : DE Γ X a fa) (hb : DE Γ X b fb) (hs : zm2 b := by intro _ _; rfl) : DE Γ X (.Subscript a b pos) (b2 ixD fa fb) := ⟨(zsU zrV ha.1 hb.1 hs).imp (TD.two zqm)⟩
def zhq {α : Type} (xs : List α) (lo hi : Option Int) : List α := (xs.drop (HT.sIx xs.length 0 lo)).take (HT.sIx xs.length xs.length hi - HT.sIx xs.length 0 lo)
theorem zob {α β : Type} (g : α -> β) (xs : List α) (lo hi : Option Int) : zhq (xs.map g) lo hi = (zhq xs lo hi).map g := by
 unfold zhq
 simp
theorem Reps.cut {K : PySem.W.Frag} {G : Hp} {vs : List V} {ds : List D} (r : Reps Γ K G vs ds) (lo hi : Option Int) : Reps Γ K G (zoN vs lo hi) (zhq ds lo hi) := by
 unfold zoN zhq
 rw [r.length]
 exact (r.drop _).take _
def zqO (x : Str) (lo hi : Option Int) : Str := ⟨(zhq x.cps.toList lo hi).toArray⟩
theorem zir (lo hi : Option Int) (n : Nat) : Builtin.Str.strSliceIndices lo hi 1 n = (List.range (HT.sIx n n hi - HT.sIx n 0 lo)).map (HT.sIx n 0 lo + ·) := by
 rw [← sliceRange_one]
 unfold Builtin.Str.strSliceIndices
 have h1 : ∀ (o : Option Int) (d : Nat), d <= n -> (match o with | none => (d : Int) | some i => if (1 : Int) > 0 then max 0 (min (if i < 0 then i + (n : Int) else i) n) else max (-1) (min (if i < 0 then i + (n : Int) else i) ((n : Int) - 1))) = ((HT.sIx n d o : Nat) : Int) := fun o d hd => by
  cases o with
  | none => simp [HT.sIx]
  | some i =>
   simp only [HT.sIx, show (1 : Int) > 0 by decide, if_true]
   by_cases h : i < 0
   ·simp only [h, if_true]; omega
   ·simp only [h, if_false]; omega
 have e0 := h1 lo 0 (Nat.zero_le _)
 have e1 := h1 hi n (qt _)
 rw [← e0, ← e1]
 rfl
theorem zj8 (x : Str) (lo hi : Option Int) : Txt.slice x lo hi = zqO x lo hi := by
 have key : (Builtin.Str.strSliceIndices lo hi 1 x.length).filterMap (x.cps[·]?) = zhq x.cps.toList lo hi := by
  rw [zir, pick_run]
  unfold zhq
  rw [show x.cps.toList.length = x.length by simp [Str.length]]
 unfold Txt.slice zqO
 split
 ·rename_i h
  rw [← key]
  have hl : (Builtin.Str.strSliceIndices lo hi 1 x.length).length = x.length := by simpa using h
  rw [zir] at hl ⊢
  rw [pick_run]
  rw [qe, List.length_range] at hl
  have hb : HT.sIx x.length x.length hi <= x.length := by
   cases hi with
   | none => simp [HT.sIx]
   | some i => simp only [HT.sIx]; split <;> omega
  have h0 : HT.sIx x.length 0 lo = 0 \/ x.length = 0 := by omega
  have hx : x.cps.toList.length = x.length := by simp [Str.length]
  have e : (x.cps.toList.drop (HT.sIx x.length 0 lo)).take (HT.sIx x.length x.length hi - HT.sIx x.length 0 lo) = x.cps.toList := by
   rcases h0 with h0 | h0
   ·rw [h0, List.drop_zero]
    rw [h0] at hl
    exact List.take_of_length_le (by omega)
   ·have : x.cps.toList = [] := List.length_eq_zero_iff.mp (by omega)
    rw [this]; simp
  rw [e]
 ·rw [key]
def pN : zaX -> Option (Option Int) := fun _ => some none
def pS (f : FE) : zaX -> Option (Option Int) := fun ρ => (f ρ).bind fun d => match d with
 | .int i => some (some i)
 | _ => none
def TDp (Γ : Cn) (K : PySem.W.Frag) (f : zaX -> Option (Option Int)) : TO := fun σ H Q => ∃ G₀ H₀ G ρ o, At Γ K G₀ H₀ G H ρ σ /\ f ρ = some o /\ ∀ G' H', Step G H G' H' -> Q o H'
structure DP (Γ : Cn) (X : Cx) (e : Option Expr) (f : zaX -> Option (Option Int)) : Prop where
 out : PO X e (TDp Γ X.K f)
theorem zb9 : DP Γ X none pN := ⟨fun pins s σ H Q I ⟨G₀, H₀, G, ρ, o, A, h, k⟩ => by
 cases h
 exact zpr pins s σ H Q I (k G H (.refl A.gh))⟩
theorem zbM (h : DE Γ X e f) : DP Γ X (some e) (pS f) := ⟨fun pins s σ H Q I ⟨G₀, H₀, G, ρ, o, A, q, k⟩ => by
 unfold pS at q
 obtain ⟨d, hd, q⟩ := oBd q
 split at q <;> cases q
 exact zpq h.1 pins s σ H Q I ⟨G₀, H₀, G, ρ, _, A, hd, fun v G' H' s r => ⟨_, r.int_inv, k G' H' s⟩⟩⟩
theorem zq2 : SlR X (fun x lo hi H Q => ∃ z, x = .str z /\ z.length <= sizeLine /\ Q (.str (zqO z lo hi)) H) := by
 intro pins s σ H x v vl vu lo hi sl Q I rx hs pl pu h
 obtain ⟨z, rfl, hz, q⟩ := h
 obtain ⟨t, rfl⟩ := rx
 refine ⟨"str", _, PySem.F.slot_str_getitem.lookup, typeIs_str _ _ _, ?_⟩
 obtain ⟨l, rfl, el⟩ : ∃ l : Option (Int × Tok), vl = partValue l /\ l.map (·.1) = lo := by
  cases pl with
  | none => exact ⟨none, rfl, rfl⟩
  | int i t => exact ⟨some (i, t), rfl, rfl⟩
 obtain ⟨u, rfl, eu⟩ : ∃ l : Option (Int × Tok), vu = partValue l /\ l.map (·.1) = hi := by
  cases pu with
  | none => exact ⟨none, rfl, rfl⟩
  | int i t => exact ⟨some (i, t), rfl, rfl⟩
 refine wpAny_getItem_str_slice (l := l) (u := u) (st := none) hs rfl ?_
 have e : (if ((Option.map (fun x => x.fst) (none : Option (Int × Tok))).getD 1 == 1 && (slicePicked z l u none).length == z.length) = true then z else { cps := (List.filterMap (fun x => z.cps[x]?) (slicePicked z l u none)).toArray }) = zqO z lo hi := by
  have e0 : Txt.slice z (l.map (·.1)) (u.map (·.1)) = zqO z lo hi := by
   rw [el, eu]
   exact zj8 z lo hi
  exact e0
 refine post_val_or_str ⟨?_, fun t' k => ?_⟩
 ·rw [e, ← zj8]
  exact Nat.le_trans (Txt.slice_le z _ _) hz
 ·rw [e]
  exact ⟨.str _, H, I.tok k, ⟨_, rfl⟩, q⟩
def zha (lo hi : Option Int) : D -> Option D
 | .lst l => some (.lst (zhq l lo hi))
 | .scr l => some (.lst ((zhq l lo hi).map D.int))
 | .tup l => if HT.sIx l.length 0 lo = 0 /\ HT.sIx l.length l.length hi = l.length then none else some (.tup (zhq l lo hi))
 | .str x => if x.length <= sizeLine then some (.str (zqO x lo hi)) else none
 | _ => none
def slF (f : FE) (fl fh : zaX -> Option (Option Int)) : FE := fun ρ => (f ρ).bind fun d => (fl ρ).bind fun l => (fh ρ).bind fun h => zha l h d
variable {fl fh : zaX -> Option (Option Int)} {lo hi : Option Expr}
theorem zbl (he : DE Γ X e f) (hl : DP Γ X lo fl) (hh : DP Γ X hi fh) : DE Γ X (.Subscript e (.Slice lo hi none p2) pos) (slF f fl fh) := ⟨(zny (zo5.or (zq1.or zq2)) he.1 hl.1 hh.1).imp fun σ H Q => by
 rintro ⟨G₀, H₀, G, ρ, d, A, h, k⟩
 unfold slF at h
 obtain ⟨x, hx, h⟩ := oBd h
 obtain ⟨l, hl, h⟩ := oBd h
 obtain ⟨u, hu, h⟩ := oBd h
 refine ⟨G₀, H₀, G, ρ, x, A, hx, fun v G1 H1 s1 r1 => ⟨G₀, H₀, G1, ρ, l, A.step s1, hl, fun G2 H2 s2 => ⟨G₀, H₀, G2, ρ, u, (A.step s1).step s2, hu, fun G3 H3 s3 => ?_⟩⟩⟩
 have s := (s1.trans s2).trans s3
 have r := r1.mono (s2.gg.trans s3.gg)
 have gh := s3.gh
 unfold zha at h
 split at h
 ·cases h
  obtain ⟨a, vs, rfl, ha, rv⟩ := r.lst_inv
  exact .inl ⟨a, vs, rfl, .inl (.inl (gh _ _ ha)), zf8 gh (rv.cut l u) fun w G4 H4 s4 r4 => k w G4 H4 (s.trans s4) r4⟩
 ·cases h
  obtain ⟨a, rfl, ha⟩ := r.scr_inv
  refine .inl ⟨a, _, rfl, gh.seq ha, zf8 gh ?_ fun w G4 H4 s4 r4 => k w G4 H4 (s.trans s4) r4⟩
  show Reps Γ X.K G3 (zhq _ l u) _
  rw [zob]
  exact Reps.ints _
 ·split at h
  ·cases h
  ·rename_i hw
   cases h
   obtain ⟨a, vs, rfl, ha, rv⟩ := r.tup_inv
   exact .inr (.inl ⟨a, vs, rfl, .inl (.inl (gh _ _ ha)), by rw [rv.length]; exact hw, zjx gh (rv.cut l u) fun w G4 H4 s4 r4 => k w G4 H4 (s.trans s4) r4⟩)
 ·split at h
  ·cases h
   cases r.str_inv
   exact .inr (.inr ⟨_, rfl, by assumption, k _ _ _ s (.str _)⟩)
  ·cases h
 ·cases h⟩
structure MtD (Γ : Cn) (X : Cx) (T id : String) (g : D -> List D -> Option D) : Prop where
 ex : ∃ r, MtR X id r /\ ∀ {G H v x vs ds z}, zca G H -> Rep Γ X.K G v x -> Reps Γ X.K G vs ds -> g x ds = some z -> ∀ Q : VK, (∀ w G' H', Step G H G' H' -> Rep Γ X.K G' w z -> Q w H') -> r v vs H Q
 ty : ∀ {G H v x ds z}, zca G H -> Rep Γ X.K G v x -> g x ds = some z -> tyV X.K T v H
def mF (g : D -> List D -> Option D) (f : FE) (fr : FA) : FE := fun ρ => (f ρ).bind fun d => (fr ρ).bind fun ds => g d ds
variable {name : Str} {apos cpos : Pos} {o : Expr} {fo : FE}
theorem zsf {T id : String} {g : D -> List D -> Option D} (pa : PlainAttrs T) (slot : PySem.Slot T name id) (hty : typeOf (.builtin id) = pure (.type "method_descriptor")) (hm : MtD Γ X T id g) (ho : DE Γ X o fo) (ha : DA Γ X (e :: es) fr)
  (hbase : attributeBase o name X.env (eval o X.env) = eval o X.env := by rfl)
  (hfew : ((backTo cpos (starEach (e :: es) X.env)).all (fun x => !x.1) && (backToKw cpos (keywordEach [] X.env)).all (fun x => x.1.isSome)
   && decide ((e :: es).length + ([] : List Keyword).length + (if ([] : List Keyword).isEmpty then 0 else 1) < 30)) = true := by rfl)
  (hline : (apos.endLine == cpos.line) = true := by rfl) (hs : starEach (e :: es) X.env = (false, eval e X.env) :: starEach es X.env := by rfl) (hplain : (backTo cpos (starEach es X.env)).any (·.1) = false := by rfl) :
  DE Γ X (.Call (.Attribute o name apos) (e :: es) [] cpos) (mF g fo fr) := ⟨by
 obtain ⟨r, h1, h2⟩ := hm.ex
 refine (zpC pa slot hty h1 ho.1 ha.1 hbase hfew hline hs hplain).imp fun σ H Q => ?_
 rintro ⟨G₀, H₀, G, ρ, d, A, h, k⟩
 unfold mF at h
 obtain ⟨x, hx, h⟩ := oBd h
 obtain ⟨ds, hd, h⟩ := oBd h
 exact ⟨G₀, H₀, G, ρ, x, A, hx, fun v G1 H1 s1 r1 => ⟨hm.ty s1.gh r1 h, G₀, H₀, G1, ρ, ds, A.step s1, hd, fun vs G2 H2 s2 r2 => h2 s2.gh (r1.mono s2.gg) r2 h Q fun w G3 H3 s3 r3 => k w G3 H3 ((s1.trans s2).trans s3) r3⟩⟩⟩
def ziq : List D -> Option (List Str)
 | [] => some []
 | .str x :: r => (ziq r).map (x :: ·)
 | _ :: _ => none
def zt4 : D -> List D -> Option D
 | .str sep, [.lst l] => (ziq l).bind fun ys => if (ys.map (·.length)).sum + ys.length * sep.length <= 16777216 then some (.str (Txt.join sep ys)) else none
 | _, _ => none
theorem zj6 {K : PySem.W.Frag} {G : Hp} : ∀ {vs : List V} {ds : List D} {ys : List Str}, Reps Γ K G vs ds -> ziq ds = some ys -> vs = ys.map V.str
 | _, [], ys, r, h => by cases r; cases h; rfl
 | _, d :: ds, ys, .cons h1 h2, h => by
  cases d with
  | str x =>
   obtain ⟨zs, hz, rfl⟩ := oMd (show (ziq ds).map (x :: ·) = some ys from h)
   rw [h1.str_inv, zj6 h2 hz]; rfl
  | _ => cases h
def zqP : List D -> Option (List Bool)
 | [] => some []
 | .bl x :: r => (zqP r).map (x :: ·)
 | _ :: _ => none
theorem zmV {K : PySem.W.Frag} {G : Hp} : ∀ {vs : List V} {ds : List D} {ys : List Bool}, Reps Γ K G vs ds -> zqP ds = some ys -> vs = ys.map V.bl
 | _, [], ys, r, h => by cases r; cases h; rfl
 | _, d :: ds, ys, .cons h1 h2, h => by
  cases d with
  | bl x =>
   obtain ⟨zs, hz, rfl⟩ := oMd (show (zqP ds).map (x :: ·) = some ys from h)
   rw [h1.bl_inv, zmV h2 hz]; rfl
  | _ => cases h
def zjg : List D -> Option D
 | [.lst l] => (zqP l).map fun bs => D.bl (bs.all id)
 | _ => none
theorem zlg : ∀ {bs : List Bool} {us : List Value}, zbX (bs.map V.bl) us -> us = bs.map Value.bool
 | [], _, r => by rw [List.map_nil] at r; cases r; rfl
 | y :: ys, _, r => by
  rw [ql] at r
  cases r with
  | cons r1 r2 => cases r1; rw [zlg r2]; rfl
theorem zmZ (bs : List Bool) : (List.range bs.length).all (fun i => bs.getD i false) = bs.all id := by
 rw [Bool.eq_iff_iff, List.all_eq_true, List.all_eq_true]
 constructor
 ·intro h x hx
  obtain ⟨i, hi, e⟩ := List.mem_iff_getElem.mp hx
  have := h i (List.mem_range.mpr hi)
  simp [List.getD, hi] at this
  rw [← e]; exact this
 ·intro h i hi
  have hi' := List.mem_range.mp hi
  have := h (bs[i]) (List.getElem_mem hi')
  simp [List.getD, hi']
  exact this
theorem zna {prog : Program} {w : World} {A : Around} {bs : List Bool} : TruthOf prog w A (fun i v => (bs.map Value.bool).toArray[i]? = some v) (fun i => bs.getD i false) := fun i v s Q E hP hQ => by
 have hP' : (bs.map Value.bool)[i]? = some v := by simpa using hP
 rw [qj] at hP'
 obtain ⟨b, hb, rfl⟩ := oMd hP'
 have : bs.getD i false = b := by simp [List.getD, hb]
 have hQ' : Q (bs.getD i false) s := hQ
 rw [this] at hQ'
 exact wpAny_truthy_bool hQ'
theorem zdu (hc : X.calm = true) : BltD Γ X "all" zjg := by
 refine ⟨fun vs H Q => ∃ (a : Addr) (bs : List Bool), vs = [.ref a] /\ H a = some (.lst (bs.map V.bl)) /\ Q (.bl (bs.all id)) H, ?_, ?_⟩
 ·intro pins s σ H xs us Q I r h
  obtain ⟨a, bs, rfl, ha, q⟩ := h
  obtain ⟨u, rfl, ru⟩ := zeA r
  cases ru
  obtain ⟨its, rv, pl, _⟩ := I.list (.inl (.inl ha))
  have e := zlg rv
  subst e
  refine call_all_walk (wpAny_pyIter_list pl.isList ?_)
  have ne : a ≠ s.heap.objs.size := by obtain ⟨o, _, h1, _⟩ := pl; exact Nat.ne_of_lt (qr h1)
  refine ⟨s.heap.objs.size, _, _, _, _, _, fun i => bs.getD i false, rfl, Walks.list (A := X.A.in1) (show X.A.in1.handled = none from I.ok.hd hc) s.heap.objs.size a ne (bs.map Value.bool).toArray, ⟨⟨_, Heap.get?_push_size _ rfl, rfl, rfl⟩, pl.isList.at fun o q => qq _ q⟩, zna, fun h' tk hk => ?_⟩
  have e2 : (bs.map Value.bool).toArray.size = bs.length := by simp
  rw [e2, zmZ]
  refine ⟨.bl _, H, I.kept fun b o z => hk b o ?_ (qq _ z), rfl, q⟩
  intro z'
  have : b = s.heap.objs.size := by simpa using z'
  exact absurd (qr z) (by rw [this]; exact Nat.lt_irrefl _)
 ·intro G H vs ds z gh r h Q k
  unfold zjg at h
  split at h
  ·obtain ⟨bs, hb, rfl⟩ := oMd h
   obtain ⟨v, rfl, r1⟩ := r.one
   obtain ⟨a, ws, rfl, ha, rw'⟩ := r1.lst_inv
   refine ⟨a, bs, rfl, ?_, k _ G H (.refl gh) (.bl _)⟩
   rw [← zmV rw' hb]
   exact gh _ _ ha
  ·cases h
end
end L2
end
section
namespace L2
open PySem PySem.Spec PyProof.Rows
structure Yd (Γ : Cn) (K : PySem.W.Frag) (J : It) (G : Hp) (ds : List D) : Prop where
 go : ∀ (i : Nat) d G2 H2, ds[i]? = some d -> zca G G2 -> zca G2 H2 -> J.go i H2 /\ ∀ x H3, J.yld i H2 x H3 -> ∃ G3, Step G2 H2 G3 H3 /\ Rep Γ K G3 x d
 stop : ∀ G2 H2, zca G G2 -> zca G2 H2 -> J.stop ds.length H2
def TDi (Γ : Cn) (K : PySem.W.Frag) (f : FA) : TI := fun σ H R => ∃ G₀ H₀ G ρ ds, At Γ K G₀ H₀ G H ρ σ /\ f ρ = some ds /\ ∀ J G' H', Step G H G' H' -> Yd Γ K J G' ds -> R J H'
structure DI (Γ : Cn) (X : Cx) (tg e : Expr) (f : FA) : Prop where
 out : PI X tg e (TDi Γ X.K f)
theorem PI.imp {X : Cx} {tg e : Expr} {t t' : TI} (h : PI X tg e t) (i : ∀ σ H R, t' σ H R -> t σ H R) : PI X tg e t' := fun pins s σ H R I q => h pins s σ H R I (i _ _ _ q)
section
variable {Γ : Cn} {X : Cx} {a b c e tg iter : Expr} {es : List Expr} {fa fb fc f : FE} {fr fi : FA} {pos p2 p : Pos}
theorem zqQ {K : PySem.W.Frag} {G : Hp} {a : Addr} {vs : List V} {ds : List D} (h : G a = some (.tup vs)) (r : Reps Γ K G vs ds) : Yd Γ K (Itt K a) G ds := by
 refine ⟨fun i d G2 H2 hd g1 g2 => ?_, fun G2 H2 g1 g2 => ⟨vs, .inl (.inl (g2 _ _ (g1 _ _ h))), by rw [r.length]; exact qt _⟩⟩
 obtain ⟨v, hv, rv⟩ := r.get hd
 refine ⟨⟨vs, v, .inl (.inl (g2 _ _ (g1 _ _ h))), hv⟩, fun x H3 ⟨e1, e2⟩ => ?_⟩
 subst e1
 have := e2 vs (.inl (.inl (g2 _ _ (g1 _ _ h))))
 rw [hv] at this
 cases this
 exact ⟨G2, .refl g2, rv.mono g1⟩
theorem zle {K : PySem.W.Frag} {G : Hp} {a : Addr} {vs : List V} {ds : List D} (h : SqL K G a vs) (r : Reps Γ K G vs ds) : Yd Γ K (Ite K a) G (ds.mapIdx fun i d => D.tup [.int i, d]) := by
 refine ⟨fun i d G2 H2 hd g1 g2 => ?_, fun G2 H2 g1 g2 => ⟨vs, g2.seq (g1.seq h), by rw [List.length_mapIdx, r.length]; exact qt _⟩⟩
 rw [List.getElem?_mapIdx] at hd
 obtain ⟨d', hd', rfl⟩ := oMd hd
 obtain ⟨v, hv, rv⟩ := r.get hd'
 refine ⟨⟨vs, v, g2.seq (g1.seq h), hv⟩, fun x H3 ⟨T, y, e0, hT, e1, e2⟩ => ?_⟩
 subst e0
 have := e2 vs (g2.seq (g1.seq h))
 rw [hv] at this
 cases this
 subst e1
 have s := Step.new (o := .tup [.int i, v]) g2 hT
 exact ⟨_, s, .tup zaC (.cons (.int _) (.cons ((rv.mono g1).mono s.gg) .nil))⟩
def zgi : D -> Option (List D)
 | .lst l => some l
 | .tup l => some l
 | .scr l => some (l.map D.int)
 | _ => none
def itF (f : FE) : FA := fun ρ => (f ρ).bind zgi
theorem zrl {l : Expr} {tl : TE} (hl : PE X l tl) : PI X tg l (fun σ H R => tl σ H fun x H1 => (∃ a, x = .ref a /\ (∃ xs, SqL X.K H1 a xs) /\ R (Itl X.K a) H1) \/ (∃ a, x = .ref a /\ (∃ xs, SqT X.K H1 a xs) /\ R (Itt X.K a) H1)) := by
 intro pins s σ H R I h
 refine thn (hl pins s σ H _ I h) fun v s1 ⟨x, H1, I1, r1, q1⟩ => ?_
 rcases q1 with ⟨a, e, ⟨xs, hq⟩, q⟩ | ⟨a, e, ⟨xs, hq⟩, q⟩
 ·subst e
  cases r1
  obtain ⟨its, rv, p, hz⟩ := I1.list hq
  refine wpAny_pyIter_list p.isList ?_
  refine ⟨s1.heap.objs.size, [s1.heap.objs.size], _, _, H1, rfl, I1.kept (t' := s1.toks) fun b o e => qq _ e, zlh a _, ⟨_, Heap.get?_push_size _ rfl, rfl, rfl⟩, fun b hb => ?_, q⟩
  have e : b = s1.heap.objs.size := by simpa using hb
  subst e
  exact I1.fpOk (qt _) (I1.hok.fresh (qt _))
 ·subst e
  cases r1
  obtain ⟨its, rv, p, hz⟩ := I1.tuple hq
  refine wpAny_pyIter_tuple (show s1.heap.IsTuple a its.toArray from p) ?_
  refine ⟨s1.heap.objs.size, [s1.heap.objs.size], _, _, H1, rfl, I1.kept (t' := s1.toks) fun b o e => qq _ e, zkI a _, ⟨_, Heap.get?_push_size _ rfl, rfl, rfl⟩, fun b hb => ?_, q⟩
  have e : b = s1.heap.objs.size := by simpa using hb
  subst e
  exact I1.fpOk (qt _) (I1.hok.fresh (qt _))
theorem zaM (h : DE Γ X iter f) : DI Γ X tg iter (itF f) := ⟨(zrl h.1).imp fun σ H R => by
 rintro ⟨G₀, H₀, G, ρ, ds, A, h, k⟩
 unfold itF at h
 obtain ⟨d, hd, h⟩ := oBd h
 refine ⟨G₀, H₀, G, ρ, d, A, hd, fun v G' H' s r => ?_⟩
 unfold zgi at h
 split at h
 ·cases h
  obtain ⟨a, vs, rfl, ha, rv⟩ := r.lst_inv
  refine .inl ⟨a, rfl, ⟨vs, .inl (.inl (s.gh _ _ ha))⟩, k _ G' H' s ?_⟩
  refine ⟨fun i d G2 H2 hd g1 g2 => ?_, fun G2 H2 g1 g2 => ⟨vs, .inl (.inl (g2 _ _ (g1 _ _ ha))), by rw [rv.length]; exact qt _⟩⟩
  obtain ⟨v, hv, rv'⟩ := rv.get hd
  refine ⟨⟨vs, v, .inl (.inl (g2 _ _ (g1 _ _ ha))), hv⟩, fun x H3 ⟨e1, e2⟩ => ?_⟩
  subst e1
  have := e2 vs (.inl (.inl (g2 _ _ (g1 _ _ ha))))
  rw [hv] at this
  cases this
  exact ⟨G2, .refl g2, rv'.mono g1⟩
 ·cases h
  obtain ⟨a, vs, rfl, ha, rv⟩ := r.tup_inv
  exact .inr ⟨a, rfl, ⟨vs, .inl (.inl (s.gh _ _ ha))⟩, k _ G' H' s (zqQ ha rv)⟩
 ·rename_i l
  cases h
  obtain ⟨a, rfl, ha⟩ := r.scr_inv
  refine .inl ⟨a, rfl, ⟨_, s.gh.seq ha⟩, k _ G' H' s ?_⟩
  refine ⟨fun i d G2 H2 hd g1 g2 => ?_, fun G2 H2 g1 g2 => ⟨_, g2.seq (g1.seq ha), by simp⟩⟩
  rw [qj] at hd
  obtain ⟨n, hn, rfl⟩ := oMd hd
  have hv : (List.map V.int l)[i]? = some (V.int n) := by rw [qj, hn]; rfl
  refine ⟨⟨_, _, g2.seq (g1.seq ha), hv⟩, fun x H3 ⟨e1, e2⟩ => ?_⟩
  subst e1
  have := e2 _ (g2.seq (g1.seq ha))
  rw [hv] at this
  cases this
  exact ⟨G2, .refl g2, .int _⟩
 ·cases h⟩
def zlp : D -> Option (List D)
 | .str x => some (x.cps.toList.map fun c => D.str ⟨#[c]⟩)
 | _ => none
def itS (f : FE) : FA := fun ρ => (f ρ).bind zlp
theorem zsc {n : Str} {q : Pos} (h : DE Γ X iter f) : DI Γ X (.Name n q) iter (itS f) := ⟨(zrk h.1).imp fun σ H R => by
 rintro ⟨G₀, H₀, G, ρ, ds, A, h, k⟩
 unfold itS at h
 obtain ⟨d, hd, h⟩ := oBd h
 refine ⟨G₀, H₀, G, ρ, d, A, hd, fun v G' H' s r => ?_⟩
 unfold zlp at h
 split at h <;> cases h
 cases r.str_inv
 rename_i x
 refine ⟨x, rfl, k _ G' H' s ⟨fun i d G2 H2 hd g1 g2 => ?_, fun G2 H2 g1 g2 => ?_⟩⟩
 ·rw [qj] at hd
  obtain ⟨c, hc, rfl⟩ := oMd hd
  have hc' : x.cps[i]? = some c := by simpa using hc
  refine ⟨(Array.getElem?_eq_some_iff.mp hc').1, fun y H3 ⟨e1, c2, h2, e2⟩ => ?_⟩
  subst e1
  subst e2
  rw [hc'] at h2
  cases h2
  exact ⟨G2, .refl g2, .str _⟩
 ·show _ = x.cps.size
  simp⟩
def zr6 : D -> Option (List D)
 | .lst l => some (l.mapIdx fun i d => D.tup [.int i, d])
 | .scr l => some ((l.map D.int).mapIdx fun i d => D.tup [.int i, d])
 | _ => none
def itE (f : FE) : FA := fun ρ => (f ρ).bind zr6
theorem zdM {elts : List Expr} {k1 : Nat} {tpos : Pos} (hg : Gl X "enumerate") (hm : X.mg "enumerate" = none) (h : DE Γ X a f) (hs : starEach [a] X.env = [(false, eval a X.env)] := by rfl) (hs0 : starEach ([a] : List Expr) X.env = (false, eval a X.env) :: starEach [] X.env := by rfl) :
  DI Γ X (.Tuple elts k1 tpos) (.Call (.Name "enumerate" p) [a] [] pos) (itE f) := ⟨(zpt hg hm (zdH h.1 zfu hs0) hs).imp fun σ H R => by
 rintro ⟨G₀, H₀, G, ρ, ds, A, h, k⟩
 unfold itE at h
 obtain ⟨d, hd, h⟩ := oBd h
 refine ⟨G₀, H₀, G, ρ, d, A, hd, fun v G' H' s r => ?_⟩
 unfold zr6 at h
 split at h
 ·cases h
  obtain ⟨a, vs, rfl, ha, rv⟩ := r.lst_inv
  exact ⟨a, rfl, ⟨vs, .inl (.inl (s.gh _ _ ha))⟩, k _ G' H' s (zle (.inl (.inl ha)) rv)⟩
 ·cases h
  obtain ⟨a, rfl, ha⟩ := r.scr_inv
  exact ⟨a, rfl, ⟨_, s.gh.seq ha⟩, k _ G' H' s (zle ha (Reps.ints _))⟩
 ·cases h⟩
theorem zjY {K : PySem.W.Frag} {G : Hp} {lo : Int} {n : Nat} : Yd Γ K (Itr lo n) G ((List.range n).map fun i : Nat => D.int (lo + i)) := by
 refine ⟨fun i d G2 H2 hd g1 g2 => ?_, fun G2 H2 g1 g2 => ?_⟩
 ·rw [qj] at hd
  obtain ⟨j, hj, rfl⟩ := oMd hd
  have hi : i < n := by
   have := (List.getElem?_eq_some_iff.mp hj).1
   simpa using this
  have e : j = i := by simpa [hi] using hj.symm
  subst e
  refine ⟨hi, fun x H3 ⟨e1, e2⟩ => ?_⟩
  subst e1
  subst e2
  exact ⟨G2, .refl g2, .int _⟩
 ·show n <= _
  simp
def ziF : List D -> Option (List D)
 | [.int j] => if -(2 ^ 62) <= j /\ j < 2 ^ 62 then some ((List.range j.toNat).map fun i : Nat => D.int (0 + i)) else none
 | _ => none
def zpe : List D -> Option (List D)
 | [.int i, .int j] => if -(2 ^ 62) <= i /\ i < 2 ^ 62 /\ -(2 ^ 62) <= j /\ j < 2 ^ 62 then some ((List.range (j - i).toNat).map fun k : Nat => D.int (i + k)) else none
 | _ => none
def itR (g : List D -> Option (List D)) (fr : FA) : FA := fun ρ => (fr ρ).bind g
theorem zde (hg : Gl X "range") (hm : X.mg "range" = none) (h : DA Γ X [a] fr) (hs : starEach [a] X.env = [(false, eval a X.env)] := by rfl) : DI Γ X tg (.Call (.Name "range" p) [a] [] pos) (itR ziF fr) := ⟨(zlD hg hm h.1 hs).imp fun σ H R => by
 rintro ⟨G₀, H₀, G, ρ, ds, A, h, k⟩
 unfold itR at h
 obtain ⟨d, hd, h⟩ := oBd h
 refine ⟨G₀, H₀, G, ρ, d, A, hd, fun v G' H' s r => ?_⟩
 unfold ziF at h
 split at h
 ·split at h
  ·rename_i hz
   cases h
   obtain ⟨v, rfl, r1⟩ := r.one
   cases r1.int_inv
   exact ⟨_, rfl, hz.1, hz.2, k _ G' H' s zjY⟩
  ·cases h
 ·cases h⟩
theorem zmy (hg : Gl X "range") (hm : X.mg "range" = none) (h : DA Γ X [a, b] fr) (hs : starEach [a, b] X.env = [(false, eval a X.env), (false, eval b X.env)] := by rfl) (hs2 : starEach [b] X.env = [(false, eval b X.env)] := by rfl) : DI Γ X tg (.Call (.Name "range" p) [a, b] [] pos) (itR zpe fr) := ⟨(zlC hg hm h.1 hs hs2).imp fun σ H R => by
 rintro ⟨G₀, H₀, G, ρ, ds, A, h, k⟩
 unfold itR at h
 obtain ⟨d, hd, h⟩ := oBd h
 refine ⟨G₀, H₀, G, ρ, d, A, hd, fun v G' H' s r => ?_⟩
 unfold zpe at h
 split at h
 ·split at h
  ·rename_i hz
   cases h
   obtain ⟨v, u, rfl, r1, r2⟩ := r.two
   cases r1.int_inv
   cases r2.int_inv
   exact ⟨_, _, rfl, hz, k _ G' H' s zjY⟩
  ·cases h
 ·cases h⟩
abbrev FG := D -> zaX -> Option zaX
abbrev FGs := List D -> zaX -> Option zaX
def TDg (Γ : Cn) (K : PySem.W.Frag) (g : FG) : TG := fun v σ H Q => ∃ G₀ H₀ G ρ d ρ', At Γ K G₀ H₀ G H ρ σ /\ Rep Γ K G v d /\ g d ρ = some ρ' /\ ∀ σ', At Γ K G₀ H₀ G H ρ' σ' -> Q σ' H
def zuc (Γ : Cn) (K : PySem.W.Frag) (g : FGs) : TGs := fun vs σ H Q => ∃ G₀ H₀ G ρ ds ρ', At Γ K G₀ H₀ G H ρ σ /\ Reps Γ K G vs ds /\ g ds ρ = some ρ' /\ ∀ σ', At Γ K G₀ H₀ G H ρ' σ' -> Q σ' H
structure DG (Γ : Cn) (X : Cx) (tg : Expr) (g : FG) : Prop where
 pg : PG X tg (TDg Γ X.K g)
 no : ∀ d ρ ρ', g d ρ = some ρ' -> zfj ρ -> zfj ρ'
structure DGs (Γ : Cn) (X : Cx) (ts : List Expr) (g : FGs) : Prop where
 pg : PGs X ts (zuc Γ X.K g)
 no : ∀ d ρ ρ', g d ρ = some ρ' -> zfj ρ -> zfj ρ'
theorem PG.imp {t t' : TG} (h : PG X tg t) (i : ∀ v σ H Q, t' v σ H Q -> t v σ H Q) : PG X tg t' := fun pins s σ H v u Q I r q => h pins s σ H v u Q I r (i _ _ _ _ q)
theorem PGs.imp {ts : List Expr} {t t' : TGs} (h : PGs X ts t) (i : ∀ v σ H Q, t' v σ H Q -> t v σ H Q) : PGs X ts t' := fun pins s σ H v u Q I r q => h pins s σ H v u Q I r (i _ _ _ _ q)
def zaG (i : Nat) : FG := fun d ρ => some (ρ.set i (some (.sh d)))
theorem zlN {ρ : zaX} {i : Nat} {d : D} (h : zfj ρ) : zfj (ρ.set i (some (.sh d))) := fun j ds e => by
 by_cases hj : j = i
 ·subst hj
  rw [List.getElem?_set, if_pos rfl] at e
  split at e <;> cases e
  exact ⟨_, rfl⟩
 ·rw [List.getElem?_set_ne (Ne.symm hj)] at e
  exact h j ds e
theorem zaq (i : Nat) {x : Str} (hN : X.N.Nodup) (hi : X.N[i]? = some x := by rfl) (hx : Loc X.env.scope x := by first | exact Or.inl rfl | exact Or.inr rfl) (hf : X.fn x = true \/ X.env.scope.names.lookup x = some .local := by first | exact .inl rfl | exact .inr rfl | assumption) : DG Γ X (.Name x pos) (zaG i) := by
 refine ⟨(zpv hN hi hx hf).imp fun v σ H Q => ?_, fun d ρ ρ' e h => ?_⟩
 ·rintro ⟨G₀, H₀, G, ρ, d, ρ', A, r, h, k⟩
  cases h
  exact k _ (A.setSh r)
 ·cases e
  exact zlN h
def zcF : FGs := fun ds ρ => match ds with
 | [] => some ρ
 | _ => none
def zaI (g : FG) (gs : FGs) : FGs := fun ds ρ => match ds with
 | d :: r => (g d ρ).bind fun ρ' => gs r ρ'
 | _ => none
theorem zc8 : DGs Γ X [] zcF := by
 refine ⟨zpu.imp fun vs σ H Q => ?_, fun d ρ ρ' e h => ?_⟩
 ·rintro ⟨G₀, H₀, G, ρ, ds, ρ', A, r, h, k⟩
  unfold zcF at h
  split at h <;> cases h
  cases r
  exact ⟨rfl, k σ A⟩
 ·unfold zcF at e
  split at e <;> cases e
  exact h
theorem za4 {ts : List Expr} {g : FG} {gs : FGs} (h1 : DG Γ X e g) (h2 : DGs Γ X ts gs) (hs : (assignEach (e :: ts) X.env).map (·.2) = assign e X.env :: (assignEach ts X.env).map (·.2) := by rfl) : DGs Γ X (e :: ts) (zaI g gs) := by
 refine ⟨(znx h1.pg h2.pg hs).imp fun vs σ H Q => ?_, fun ds ρ ρ' e h => ?_⟩
 ·rintro ⟨G₀, H₀, G, ρ, ds, ρ', A, r, h, k⟩
  unfold zaI at h
  split at h
  ·obtain ⟨ρ1, h1, h⟩ := oBd h
   cases r with
   | cons r1 r2 => exact ⟨_, _, rfl, G₀, H₀, G, ρ, _, ρ1, A, r1, h1, fun σ1 A1 => ⟨G₀, H₀, G, ρ1, _, ρ', A1, r2, h, k⟩⟩
  ·cases h
 ·unfold zaI at e
  split at e
  ·obtain ⟨ρ1, e1, e⟩ := oBd e
   exact h2.no _ _ _ e (h1.no _ _ _ e1 h)
  ·cases e
def zcG (n : Nat) (gs : FGs) : FG := fun d ρ => match d with
 | .tup ds => if ds.length = n then gs ds ρ else none
 | _ => none
theorem zd8 {ts : List Expr} {k : Nat} {gs : FGs} {n : Nat} (hc : X.calm = true) (h : DGs Γ X ts gs) (hn : (assignEach ts X.env).length = n := by rfl) (hst : (assignEach ts X.env).findIdx? (·.1) = none := by rfl) : DG Γ X (.Tuple ts k pos) (zcG n gs) := by
 refine ⟨(zrm hc h.pg hn hst).imp fun v σ H Q => ?_, fun ds ρ ρ' e q => ?_⟩
 ·rintro ⟨G₀, H₀, G, ρ, d, ρ', A, r, h, k⟩
  unfold zcG at h
  split at h
  ·split at h
   ·rename_i hl
    obtain ⟨a, vs, rfl, ha, rv⟩ := r.tup_inv
    exact ⟨a, vs, rfl, .inl (.inl (A.gh _ _ ha)), by rw [rv.length]; exact hl, G₀, H₀, G, ρ, _, ρ', A, rv, h, k⟩
   ·cases h
  ·cases h
 ·unfold zcG at e
  split at e
  ·split at e
   ·exact h.no _ _ _ e q
   ·cases e
  ·cases e
def zfL (g : FG) (ft : FT) (fe : FE) : List D -> zaX -> Option (List D)
 | [], _ => some []
 | x :: xs, ρ => (g x ρ).bind fun ρ1 => (ft ρ1).bind fun b => if b = true then (fe ρ1).bind fun d => (zfL g ft fe xs ρ1).map (d :: ·) else zfL g ft fe xs ρ1
def zdZ (fv : List (Option Nat)) (ρ : zaX) : zaX := fv.map fun o => o.bind fun j => match ρ[j]? with
 | some (some (.sh d)) => some (.sh d)
 | _ => none
def zaE (fi : FA) (g : FG) (ft : FT) (fe : FE) (fv : List (Option Nat)) : FA := fun ρ => (fi ρ).bind fun xs => if xs.length <= sizeLine then zfL g ft fe xs (zdZ fv ρ) else none
structure DTs (Γ : Cn) (X : Cx) (es : List Expr) (f : FT) : Prop where
 out : PTs X es (TDt Γ X.K f)
theorem PTs.imp {t t' : TT} (h : PTs X es t) (i : ∀ σ H Q, t' σ H Q -> t σ H Q) : PTs X es t' := fun pins s σ H Q I q => h pins s σ H Q I (i _ _ _ q)
def tT : FT := fun _ => some true
theorem zaK : DTs Γ X [] tT := ⟨zpk.imp fun σ H Q => by
 rintro ⟨G₀, H₀, G, ρ, b, A, h, k⟩
 cases h
 exact k G H (.refl A.gh)⟩
theorem zhY {ft : FT} (h : DT Γ X c ft) : DTs Γ X [c] ft := ⟨zpj h.1⟩
variable {scope : Scope} {N' : List Str} {fv : List (Option Nat)} {g : FG} {ft : FT} {fe : FE} {ifs : List Expr} {elt : Expr}
structure DB (Γ : Cn) (X : Cx) (N' : List Str) (scope : Scope) (tg : Expr) (ifs : List Expr) (elt : Expr) (g : FG) (ft : FT) (fe : FE) : Prop where
 out : ∀ (cl : List (Str × Addr)) (C : Addr) (s₀ : Shared) (H₀ : Hp) (fp : List Addr), DG Γ (zc0 X N' scope cl C s₀ H₀ fp) tg g /\ DTs Γ (zc0 X N' scope cl C s₀ H₀ fp) ifs ft /\ DE Γ (zc0 X N' scope cl C s₀ H₀ fp) elt fe
theorem DB.pb (h : DB Γ X N' scope tg ifs elt g ft fe) : PB X N' scope tg ifs elt (TDg Γ X.K g) (TDt Γ X.K ft) (TD Γ X.K fe) := fun cl C s₀ H₀ fp => ⟨(h.1 cl C s₀ H₀ fp).1.pg, (h.1 cl C s₀ H₀ fp).2.1.1, (h.1 cl C s₀ H₀ fp).2.2.1⟩
theorem zr1 {K : PySem.W.Frag} {G₀ H₀ G H : Hp} {ρ : zaX} {σ : St} (A : At Γ K G₀ H₀ G H ρ σ) : At Γ K G H G H (zdZ fv ρ) (zmj fv σ) /\ zfj (zdZ fv ρ) := by
 have no : zfj (zdZ fv ρ) := fun i ds e => by
  unfold zdZ at e
  rw [qj] at e
  obtain ⟨o, ho, e⟩ := oMd e
  cases o with
  | none => cases e
  | some j =>
   simp only [qa] at e
   split at e <;> cases e
   exact ⟨_, rfl⟩
 refine ⟨⟨.refl A.gh, .ofSh (by simp [zdZ, zmj]) no fun i d e => ?_⟩, no⟩
 unfold zdZ at e
 unfold zmj
 rw [qj] at e ⊢
 obtain ⟨o, ho, e⟩ := oMd e
 rw [ho]
 cases o with
 | none => cases e
 | some j =>
  simp only [qa] at e
  split at e
  ·rename_i d' hd'
   cases e
   obtain ⟨v, h1, h2⟩ := A.env.sh j d hd'
   exact ⟨v, by simp [h1], h2⟩
  ·cases e
theorem zh2 (no : ∀ d ρ ρ', g d ρ = some ρ' -> zfj ρ -> zfj ρ') : ∀ σ H Q, TDo Γ X.K (zaE fi g ft fe fv) σ H Q -> tLC (TDi Γ X.K fi) (TDg Γ X.K g) (TDt Γ X.K ft) (TD Γ X.K fe) fv σ H Q := by
 rintro σ H Q ⟨G₀, H₀, G, ρ, ds, A, h, k⟩
 unfold zaE at h
 obtain ⟨xs, hx, h⟩ := oBd h
 split at h
 case isFalse => cases h
 rename_i hz
 refine ⟨G₀, H₀, G, ρ, xs, A, hx, fun J G1 H1 s1 Y acc hacc => ?_⟩
 have gacc : G1 acc = none := s1.gh.free hacc
 obtain ⟨A0, no0⟩ := zr1 (fv := fv) (A.step s1)
 refine ⟨fun i m ys σ' H' => m = xs.length - i /\ i <= xs.length /\ ys.length <= i /\ ∃ G' ρ' done zcY, At Γ X.K G1 H1 G' H' ρ' σ' /\ zfj ρ' /\ H' acc = some (.lst ys) /\ G' acc = none /\ Reps Γ X.K G' ys done /\ zfL g ft fe (xs.drop i) ρ' = some zcY /\ done ++ zcY = ds, ?_, ?_⟩
 ·refine ⟨xs.length, rfl, Nat.zero_le _, qt _, G1, zdZ fv ρ, [], ds, ?_, no0, zaC, gacc, .nil, by rw [List.drop_zero]; exact h, rfl⟩
  have sn := Step.newOwn (o := .lst []) s1.gh hacc
  exact ⟨sn, .ofSh A0.env.len no0 A0.env.sh⟩
 ·rintro i m ys σ' H' ⟨hm, hi, hyi, G', ρ', done, zcY, A', no', hacc', gacc', ry, hr, hd⟩
  subst hm
  refine ⟨hacc', ?_⟩
  by_cases hlt : i < xs.length
  ·right
   have hxi : xs[i]? = some xs[i] := by simp [hlt]
   obtain ⟨go, yl⟩ := Y.go i _ G' H' hxi A'.st.gg A'.gh
   refine ⟨go, fun x H2 hy => ?_⟩
   obtain ⟨G2, s2, r2⟩ := yl x H2 hy
   have A2 := A'.step s2
   have hdr : xs.drop i = xs[i] :: xs.drop (i + 1) := List.drop_eq_getElem_cons hlt
   rw [hdr] at hr
   unfold zfL at hr
   obtain ⟨ρ1, h1, hr⟩ := oBd hr
   obtain ⟨b, h2, hr⟩ := oBd hr
   refine ⟨G1, H1, G2, ρ', _, ρ1, A2, r2, h1, fun σ2 A3 => ⟨G1, H1, G2, ρ1, b, A3, h2, fun G4 H4 s4 => ?_⟩⟩
   have no1 := no _ _ _ h1 no'
   have hH4 : H4 acc = some (.lst ys) := s4.hh _ _ (s2.hh _ _ hacc')
   have hG4 : G4 acc = none := (s4.out _ _ (s2.hh _ _ hacc')).trans ((s2.out _ _ hacc').trans gacc')
   cases b with
   | false =>
    rw [if_neg qp] at hr
    refine zqM ⟨xs.length - (i + 1), by omega, rfl, hlt, by omega, G4, ρ1, done, zcY, A3.step s4, no1, hH4, hG4, (ry.mono s2.gg).mono s4.gg, hr, hd⟩
   | true =>
    rw [if_pos rfl] at hr
    obtain ⟨d, h3, hr⟩ := oBd hr
    obtain ⟨zs, h5, rfl⟩ := oMd hr
    refine zqL ⟨G1, H1, G4, ρ1, d, A3.step s4, h3, fun v G5 H5 s5 r5 => ?_⟩
    have A5 := (A3.step s4).step s5
    have hH5 : H5 acc = some (.lst ys) := s5.hh _ _ hH4
    have hG5 : G5 acc = none := (s5.out _ _ hH4).trans hG4
    refine ⟨hH5, by omega, xs.length - (i + 1), by omega, rfl, hlt, by rw [qi, List.length_singleton]; omega, G5, ρ1, done ++ [d], zs, ?_, no1, zaC, hG5, ((((ry.mono s2.gg).mono s4.gg).mono s5.gg).append (.cons r5 .nil)), h5, by rw [List.append_assoc]; exact hd⟩
    refine ⟨⟨fun b o e => ?_, A5.st.gg, fun b o e => ?_, A5.st.out⟩, .ofSh A5.env.len no1 A5.env.sh⟩
    ·rw [zaw (zap e hacc)]; exact A5.st.hh b o e
    ·rw [zaw (zap e hG5)]; exact A5.st.gh b o e
  ·left
   have e : i = xs.length := by omega
   subst e
   rw [List.drop_length] at hr
   cases hr
   rw [List.append_nil] at hd
   subst hd
   refine ⟨Y.stop G' H' A'.st.gg A'.gh, ?_⟩
   have hf : H' = upd (fun b => if b = acc then none else H' b) acc (.lst ys) := by
    funext b
    by_cases hb : b = acc
    ·subst hb; rw [zaC]; exact hacc'
    ·rw [zaw hb, if_neg hb]
   rw [hf]
   refine k acc ys G' (fun b => if b = acc then none else H' b) (s1.trans ⟨fun b o e => ?_, A'.st.gg, fun b o e => ?_, A'.st.out⟩) (if_pos rfl) ry
   ·show (if b = acc then none else H' b) = some o
    rw [if_neg (zap e hacc)]; exact A'.st.hh b o e
   ·show (if b = acc then none else H' b) = some o
    rw [if_neg (zap e gacc')]; exact A'.st.gh b o e
theorem zbP (hc : X.calm = true) (S : CompScope X scope) (F : FvOk X N' scope fv) (hi : DI Γ X tg iter fi) (hb : DB Γ X N' scope tg ifs elt g ft fe) (hs : ∀ x, foldedSetIterable iter X.env x = pure x := by intro _; rfl) :
  DO Γ X (.ListComp elt [⟨tg, iter, ifs, 0⟩] scope pos) (zaE fi g ft fe fv) := ⟨(zsT hc S F hi.1 hb.pb hs).imp (zh2 (hb.1 [] 0 X.s₀ X.H₀ []).1.no)⟩
end
end L2
end
section
namespace L2
open PySem PySem.Spec PyProof.Rows
section
variable {Γ : Cn} {X : Cx} {a b c e tg iter : Expr} {es : List Expr} {fa fb fc f : FE} {fr fi : FA} {pos p2 p : Pos} {g g' : FS} {st : Stmt} {sts : List Stmt} {ft : FT}
def zb8 : FS := fun ρ => some (.nx, ρ)
def zaA (g g' : FS) : FS := fun ρ => (g ρ).bind fun r => match r.1 with
 | .nx => g' r.2
 | fl => some (fl, r.2)
theorem zaH : DSs Γ X [] zb8 := ⟨zpo.imp fun E σ H => by
 rintro ⟨G₀, H₀, G, ρ, fl, ρ', A, h, k⟩
 cases h
 exact k σ G H (.refl _) A⟩
theorem zak (h : DS Γ X st g) : DSs Γ X [st] g := ⟨zpn h.1⟩
theorem zaf (h1 : DS Γ X st g) (h2 : DSs Γ X sts g') : DSs Γ X (st :: sts) (zaA g g') := ⟨(zns h1.1 h2.1).imp fun E σ H => by
 rintro ⟨G₀, H₀, G, ρ, fl, ρ', A, h, k⟩
 unfold zaA at h
 obtain ⟨⟨fl1, ρ1⟩, h1, h⟩ := oBd h
 refine ⟨G₀, H₀, G, ρ, fl1, ρ1, A, h1, fun σ1 G1 H1 sm A1 => ?_⟩
 cases fl1 with
 | nx => exact ⟨G₀, H₀, G1, ρ1, fl, ρ', A1, h, fun σ' G' H' sm' A' => k σ' G' H' (sm.trans sm') A'⟩
 | bk => cases h; exact k σ1 G1 H1 sm A1
 | ct => cases h; exact k σ1 G1 H1 sm A1
 | rt d => cases h; exact k σ1 G1 H1 sm A1
 | ow d => cases h; exact k σ1 G1 H1 sm A1
 | nw d => cases h; exact k σ1 G1 H1 sm A1
 | od d => cases h; exact k σ1 G1 H1 sm A1⟩
def zbc (f : FE) : FS := fun ρ => (f ρ).map fun d => (.rt d, ρ)
theorem zax (h : DE Γ X e f) : DS Γ X (.Return (some e) pos) (zbc f) := ⟨(zov h.1).imp fun E σ H => by
 rintro ⟨G₀, H₀, G, ρ, fl, ρ', A, h, k⟩
 unfold zbc at h
 obtain ⟨d, hd, h⟩ := oMd h
 cases h
 exact ⟨G₀, H₀, G, ρ, d, A, hd, fun v G' H' s r => k σ G' H' s.gg (A.step s) v r⟩⟩
def zbg (i : Nat) (f : FE) : FS := fun ρ => (f ρ).map fun d => (.nx, ρ.set i (some (.sh d)))
theorem zaQ (i : Nat) {x : Str} {pos' : Pos} (hN : X.N.Nodup) (h : DE Γ X e f) (hi : X.N[i]? = some x := by rfl) (hx : Loc X.env.scope x := by first | exact Or.inl rfl | exact Or.inr rfl) (hs : swapsWith e (some (.Name x pos')) pos.line X.env = pure false := by rfl) (hf : X.fn x = true \/ X.env.scope.names.lookup x = some .local := by first | exact .inl rfl | exact .inr rfl | assumption) :
  DS Γ X (.Assign [.Name x pos'] e pos) (zbg i f) := ⟨(zlx hN hi hx h.1 hs hf).imp fun E σ H => by
 rintro ⟨G₀, H₀, G, ρ, fl, ρ', A, h, k⟩
 unfold zbg at h
 obtain ⟨d, hd, h⟩ := oMd h
 cases h
 exact ⟨G₀, H₀, G, ρ, d, A, hd, fun v G' H' s r => k _ G' H' s.gg ((A.step s).setSh r)⟩⟩
def zeH (i : Nat) (f : FA) : FS := fun ρ => (f ρ).map fun d => (.nx, ρ.set i (some (.own d)))
theorem zoz {i : Nat} : ∀ E σ H, TDs Γ X.K (zeH i fr) E σ H -> zsu (TDo Γ X.K fr) (zmi i) E σ H := by
 rintro E σ H ⟨G₀, H₀, G, ρ, fl, ρ', A, h, k⟩
 unfold zeH at h
 obtain ⟨d, hd, h⟩ := oMd h
 cases h
 exact ⟨G₀, H₀, G, ρ, d, A, hd, fun p vs G' H' s hp r => k _ G' _ s.gg ((A.step s).setOwn hp r)⟩
theorem zcU (i : Nat) {x : Str} {pos' : Pos} (hN : X.N.Nodup) (h : DO Γ X e fr) (hi : X.N[i]? = some x := by rfl) (hx : Loc X.env.scope x := by first | exact Or.inl rfl | exact Or.inr rfl) (hs : swapsWith e (some (.Name x pos')) pos.line X.env = pure false := by rfl) (hf : X.fn x = true \/ X.env.scope.names.lookup x = some .local := by first | exact .inl rfl | exact .inr rfl | assumption) :
  DS Γ X (.Assign [.Name x pos'] e pos) (zeH i fr) := ⟨(zlx hN hi hx h.1 hs hf).imp zoz⟩
theorem zq3 {i : Nat} : ∀ E σ H, TDs Γ X.K (zbg i (zaS fr)) E σ H -> zsu (TDo Γ X.K fr) (zmi i) E σ H := by
 rintro E σ H ⟨G₀, H₀, G, ρ, fl, ρ', A, h, k⟩
 unfold zbg zaS at h
 obtain ⟨d, hd, h⟩ := oMd h
 obtain ⟨ds, hd', rfl⟩ := oMd hd
 cases h
 refine ⟨G₀, H₀, G, ρ, ds, A, hd', fun p vs G' H' s hp r => ?_⟩
 have s2 := Step.new (o := .lst vs) s.gh hp
 exact k _ _ _ (s.gg.trans s2.gg) (((A.step s).step s2).setSh (.lst zaC (r.mono s2.gg)))
variable {scope : Scope} {N' : List Str} {fv : List (Option Nat)} {gg : FG} {fe : FE} {ifs : List Expr} {elt : Expr}
theorem zms (i : Nat) {y : Str} {py spos : Pos} (hN : X.N.Nodup) (hc : X.calm = true) (S : CompScope X scope) (F : FvOk X N' scope fv) (hi : DI Γ X tg iter fi) (hb : DB Γ X N' scope tg ifs elt gg ft fe)
  (hy : X.N[i]? = some y := by rfl) (hyl : X.env.scope.names.lookup y = some .local := by rfl) (hsw : swapsWith (.ListComp elt [⟨tg, iter, ifs, 0⟩] scope pos) (some (.Name y py)) spos.line X.env = pure true := by rfl) (hs : ∀ x, foldedSetIterable iter X.env x = pure x := by intro _; rfl) :
  DS Γ X (.Assign [.Name y py] (.ListComp elt [⟨tg, iter, ifs, 0⟩] scope pos) spos) (zbg i (zaS (zaE fi gg ft fe fv))) := ⟨(zrf hN hy hyl hc S F hi.1 hb.pb hsw hs).imp fun E σ H q => zh2 (hb.1 [] 0 X.s₀ X.H₀ []).1.no σ H _ (zq3 E σ H q)⟩
theorem zn4 (i : Nat) {y : Str} {py spos : Pos} (hN : X.N.Nodup) (hc : X.calm = true) (S : CompScope X scope) (F : FvOk X N' scope fv) (hi : DI Γ X tg iter fi) (hb : DB Γ X N' scope tg ifs elt gg ft fe)
  (hy : X.N[i]? = some y := by rfl) (hyl : X.env.scope.names.lookup y = some .local := by rfl) (hsw : swapsWith (.ListComp elt [⟨tg, iter, ifs, 0⟩] scope pos) (some (.Name y py)) spos.line X.env = pure true := by rfl) (hs : ∀ x, foldedSetIterable iter X.env x = pure x := by intro _; rfl) :
  DS Γ X (.Assign [.Name y py] (.ListComp elt [⟨tg, iter, ifs, 0⟩] scope pos) spos) (zeH i (zaE fi gg ft fe fv)) := ⟨(zrf hN hy hyl hc S F hi.1 hb.pb hsw hs).imp fun E σ H q => zh2 (hb.1 [] 0 X.s₀ X.H₀ []).1.no σ H _ (zoz E σ H q)⟩
def zdp (i : Nat) (f : FE) : FS := fun ρ => match ρ[i]? with
 | some (some (.own ds)) => (f ρ).bind fun d => if ds.length < sizeLine then some (.nx, ρ.set i (some (.own (ds ++ [d])))) else none
 | _ => none
theorem zbk (i : Nat) {x : Str} {vp apos cpos : Pos} (h : DE Γ X e f) (hN : X.N[i]? = some x := by rfl) (hv : Vis X.env.scope x := by first | exact Or.inl rfl | exact Or.inr (Or.inl rfl) | exact Or.inr (Or.inr rfl)) (hd : (x == ("__debug__" : Str)) = false := by decide)
  (hcd : (x == ("__classdict__" : Str)) = false := by decide)
  (hbase : attributeBase (.Name x vp) "append" X.env (eval (.Name x vp) X.env) = eval (.Name x vp) X.env := by rfl)
  (hfew : ((backTo cpos (starEach [e] X.env)).all (fun x => !x.1) && (backToKw cpos (keywordEach [] X.env)).all (fun x => x.1.isSome)
   && decide ([e].length + ([] : List Keyword).length + (if ([] : List Keyword).isEmpty then 0 else 1) < 30)) = true := by rfl)
  (hline : (apos.endLine == cpos.line) = true := by rfl) (hs : starEach [e] X.env = (false, eval e X.env) :: starEach [] X.env := by rfl) (hplain : (backTo cpos (starEach [] X.env)).any (·.1) = false := by rfl)
  (hsw : swapsWith (.Call (.Attribute (.Name x vp) "append" apos) [e] [] cpos) none pos.line X.env = pure false := by rfl) :
  DS Γ X (.Expr (.Call (.Attribute (.Name x vp) "append" apos) [e] [] cpos) pos) (zdp i f) := ⟨(zly (zpC PySem.F.plainAttrs_list PySem.F.slot_list_append PySem.F.type_list_append ziN (zd5 hN hv hd hcd) (zdH h.1 zfu hs) hbase hfew hline hs hplain) hsw).imp fun E σ H => by
  rintro ⟨G₀, H₀, G, ρ, fl, ρ', A, h, k⟩
  unfold zdp at h
  split at h
  ·rename_i ds hi
   obtain ⟨d, hd, h⟩ := oBd h
   split at h
   ·rename_i hz
    cases h
    obtain ⟨a, vs, h1, h2, h3, h4, h5⟩ := A.env.own i ds hi
    refine ⟨.ref a, h1, .inl ⟨rfl, vs, .inl (.inl h4)⟩, G₀, H₀, G, ρ, d, A, hd, fun v G1 H1 s1 r1 => ?_⟩
    have A1 := A.step s1
    refine ⟨a, vs, v, rfl, rfl, s1.hh _ _ h4, by rw [h5.length]; exact hz, ?_⟩
    exact k σ G1 _ s1.gg (A1.chOwn hi h1 ((h5.mono s1.gg).append (.cons r1 .nil)))
   ·cases h
  ·cases h⟩
def zgT (i : Nat) (g : FS) : FS := fun ρ => match ρ[i]? with
 | some (some (.own ds)) => g (ρ.set i (some (.sh (.lst ds))))
 | _ => none
theorem TDs.frz (i : Nat) : ∀ E σ H, TDs Γ X.K (zgT i g) E σ H -> TDs Γ X.K g E σ H := by
 rintro E σ H ⟨G₀, H₀, G, ρ, fl, ρ', A, h, k⟩
 unfold zgT at h
 split at h
 ·rename_i ds hi
  obtain ⟨G', sm, A'⟩ := A.freeze hi
  exact ⟨G₀, H₀, G', _, fl, ρ', A', h, fun σ1 G1 H1 sm1 A1 => k σ1 G1 H1 (sm.trans sm1) A1⟩
 ·cases h
theorem zcA (i : Nat) (h : DSs Γ X sts g) : DSs Γ X sts (zgT i g) := ⟨h.1.imp (TDs.frz i)⟩
def sIf (ft : FT) (g g' : FS) : FS := fun ρ => (ft ρ).bind fun c => if c = true then g ρ else g' ρ
theorem zbz {sa sb : List Stmt} (hc : DT Γ X c ft) (ha : DSs Γ X sa g) (hb : DSs Γ X sb g') : DS Γ X (.If c sa sb pos) (sIf ft g g') := ⟨(zsQ hc.1 ha.1 hb.1).imp fun E σ H => by
 rintro ⟨G₀, H₀, G, ρ, fl, ρ', A, h, k⟩
 unfold sIf at h
 obtain ⟨x, hx, h⟩ := oBd h
 refine ⟨G₀, H₀, G, ρ, x, A, hx, fun G1 H1 s1 => ?_⟩
 cases x with
 | true => exact zqL ⟨G₀, H₀, G1, ρ, fl, ρ', A.step s1, by simpa using h, fun σ2 G2 H2 sm2 A2 => k σ2 G2 H2 (s1.gg.trans sm2) A2⟩
 | false => exact zqM ⟨G₀, H₀, G1, ρ, fl, ρ', A.step s1, by simpa using h, fun σ2 G2 H2 sm2 A2 => k σ2 G2 H2 (s1.gg.trans sm2) A2⟩⟩
def zho (gg : FG) (body : FS) : List D -> FS
 | [], ρ => some (.nx, ρ)
 | x :: xs, ρ => (gg x ρ).bind fun ρ1 => (body ρ1).bind fun r => match r.1 with
  | .nx => zho gg body xs r.2
  | .ct => zho gg body xs r.2
  | .bk => some (.nx, r.2)
  | .rt d => some (.rt d, r.2)
  | .ow d => some (.ow d, r.2)
  | .nw d => some (.nw d, r.2)
  | .od d => some (.od d, r.2)
def zdo (fi : FA) (gg : FG) (body : FS) : FS := fun ρ => (fi ρ).bind fun xs => zho gg body xs ρ
theorem zcc {body : List Stmt} (hp : PassesOwn (model X.prog X.w) X.A X.env X.xe) (hc : X.calm = true) (hi : DI Γ X tg iter fi) (hg : DG Γ X tg gg) (hb : DSs Γ X body g) (hs : ∀ x, foldedSetIterable iter X.env x = pure x := by intro _; rfl) :
  DS Γ X (.For tg iter body [] pos) (zdo fi gg g) := ⟨(zrg hp hc hi.1 hg.pg hb.1 hs).imp fun E σ H => by
 rintro ⟨G₀, H₀, G, ρ, fl, ρ', A, h, k⟩
 unfold zdo at h
 obtain ⟨xs, hx, h⟩ := oBd h
 refine ⟨G₀, H₀, G, ρ, xs, A, hx, fun J G1 H1 s1 Y => ?_⟩
 refine ⟨fun i m σ' H' => m = xs.length - i /\ i <= xs.length /\ ∃ G' ρ1, zca G1 G' /\ At Γ X.K G₀ H₀ G' H' ρ1 σ' /\ zho gg g (xs.drop i) ρ1 = some (fl, ρ'), ⟨xs.length, rfl, Nat.zero_le _, G1, ρ, .refl _, A.step s1, by rw [List.drop_zero]; exact h⟩, ?_⟩
 rintro i m σ' H' ⟨rfl, hi, G', ρ1, sm, A', hr⟩
 by_cases hlt : i < xs.length
 ·right
  have hxi : xs[i]? = some xs[i] := by simp [hlt]
  obtain ⟨go, yl⟩ := Y.go i _ G' H' hxi sm A'.gh
  have hdr : xs.drop i = xs[i] :: xs.drop (i + 1) := List.drop_eq_getElem_cons hlt
  rw [hdr] at hr
  unfold zho at hr
  obtain ⟨ρ2, h2, hr⟩ := oBd hr
  obtain ⟨⟨fl3, ρ3⟩, h3, hr⟩ := oBd hr
  refine ⟨go, fun σ3 H3 => (fl3 = .nx \/ fl3 = .ct) /\ ∃ G3, zca G1 G3 /\ At Γ X.K G₀ H₀ G3 H3 ρ3 σ3, fun σ3 H3 ⟨hfl, G3, sm3, A3⟩ => ?_, fun x H2 hy => ?_⟩
  ·refine ⟨xs.length - (i + 1), by omega, rfl, hlt, G3, ρ3, sm3, A3, ?_⟩
   rcases hfl with e | e <;> subst e <;> exact hr
  ·obtain ⟨G2, s2, r2⟩ := yl x H2 hy
   refine ⟨G₀, H₀, G2, ρ1, _, ρ2, A'.step s2, r2, h2, fun σ2 A2 => ⟨G₀, H₀, G2, ρ2, fl3, ρ3, A2, h3, fun σ3 G3 H3 sm3 A3 => ?_⟩⟩
   have smm : zca G1 G3 := (sm.trans s2.gg).trans sm3
   cases fl3 with
   | nx => exact ⟨.inl rfl, G3, smm, A3⟩
   | ct => exact ⟨.inr rfl, G3, smm, A3⟩
   | bk => cases hr; exact k σ3 G3 H3 (s1.gg.trans smm) A3
   | rt d => cases hr; exact k σ3 G3 H3 (s1.gg.trans smm) A3
   | ow d => cases hr; exact k σ3 G3 H3 (s1.gg.trans smm) A3
   | nw d => cases hr; exact k σ3 G3 H3 (s1.gg.trans smm) A3
   | od d => cases hr; exact k σ3 G3 H3 (s1.gg.trans smm) A3
 ·left
  have e : i = xs.length := by omega
  subst e
  rw [List.drop_length] at hr
  cases hr
  exact ⟨Y.stop G' H' sm A'.gh, k σ' G' H' (s1.gg.trans sm) A'⟩⟩
end
end L2
end
section
namespace L2
open PySem PySem.Spec PyProof.Rows
section
variable {Γ : Cn} {X : Cx} {a b c e tg iter : Expr} {es : List Expr} {fa fb fc f fk fw : FE} {fr fi : FA} {pos p2 p : Pos}
def spF (Γ : Cn) (K : PySem.W.Frag) (n : Nat) (F : List D -> Option D) : Sp := fun vs H Q _ => ∃ G ds d, zca G H /\ Reps Γ K G vs ds /\ ds.length = n /\ F ds = some d /\ ∀ v G' H', Step G H G' H' -> Rep Γ K G' v d -> Q v H'
def zbW (n : Nat) (g : FS) : List D -> Option D := fun ds => (g (ds.map (fun d => some (Slot.sh d)) ++ List.replicate n none)).bind fun r => match r.1 with
 | .rt d => some d
 | .nx => some .non
 | _ => none
theorem zit {K : PySem.W.Frag} {G H : Hp} {vs : List V} {ds : List D} {N : List Str} {m : Nat} (gh : zca G H) (r : Reps Γ K G vs ds) (hm : m = N.length - vs.length) : At Γ K G H G H (ds.map (fun d => some (Slot.sh d)) ++ List.replicate m none) (zeF N vs) := by
 have no : zfj (ds.map (fun d => some (Slot.sh d)) ++ List.replicate m none) := fun i es e => by
  by_cases hi : i < ds.length
  ·rw [qv (by simpa using hi), qj] at e
   obtain ⟨d, _, e⟩ := oMd e
   cases e
   exact ⟨_, rfl⟩
  ·rw [List.getElem?_append_right (by simpa using hi), List.getElem?_replicate] at e
   split at e <;> cases e
 refine ⟨.refl gh, .ofSh (by simp [zeF, r.length, hm]) no fun i d e => ?_⟩
 by_cases hi : i < ds.length
 ·rw [qv (by simpa using hi), qj] at e
  obtain ⟨d', hd, e⟩ := oMd e
  cases e
  obtain ⟨v, hv, rv⟩ := r.get hd
  refine ⟨v, ?_, rv⟩
  unfold zeF
  rw [qv (by rw [qe, r.length]; exact hi), qj, hv]
  rfl
 ·rw [List.getElem?_append_right (by simpa using hi), List.getElem?_replicate] at e
  split at e <;> cases e
theorem Fun.okD {P : Program} {w : World} {K : PySem.W.Frag} {mg : Str -> Option Value} {base : Heap} {x qual : Str} {st : Stmt} {f : Addr} {fd : FuncData} {N ps : List Str} {k : Nat} {g : FS} (F : Fun K x qual st f fd) (S : FnScope N ps (zal st))
  (hbody : ∀ (cdv : Value) (A : Around) (outer : List Env) (s : Shared) (H : Hp) (E : XK), Room k (A.deeper (envOfC qual (zal st) s.heap.objs.size f cdv)) ->
   DSs Γ (zkz CX0 P w K mg base N qual (zal st) f cdv A outer s H E).nox (zbh st) g) : FnOk P w K mg base CX0 (k + 1) f fd ps (spF Γ K ps.length (zbW (N.length - ps.length) g)) := by
 refine F.ok S (fun vs H Q E h => ?_) (fun cdv A outer s H vs Q E hr h => ?_)
 ·obtain ⟨G, ds, d, _, r, hl, _⟩ := h
  rw [r.length, hl]
 ·obtain ⟨G, ds, d, gh, r, hl, hd, k⟩ := h
  refine ⟨_, (hbody cdv A outer s H E hr).1, ?_⟩
  unfold zbW at hd
  obtain ⟨⟨fl, ρ'⟩, hg, hd⟩ := oBd hd
  refine ⟨G, H, G, _, fl, ρ', zit gh r (by rw [r.length, hl]), hg, fun σ' G' H' sm A' => ?_⟩
  cases fl with
  | rt d' => cases hd; exact fun v rv => k v G' H' A'.st rv
  | nx => cases hd; exact k .non G' H' A'.st .non
  | bk => cases hd
  | ct => cases hd
  | ow d => cases hd
  | nw d => cases hd
  | od d => cases hd
theorem zqs {k : Nat} {fx : Addr} {fd : FuncData} {ps : List Str} {n : Nat} {F : List D -> Option D} {x : Str} (Fo : FnOk X.prog X.w X.K X.mg X.base CX0 k fx fd ps (spF Γ X.K n F)) (hr : Room k X.A) (hg : Gl X x) (hm : X.mg x = some (.ref fx)) (hk : PySem.W.keepIn X.K (.ref fx) = true) (hb : zdR X.K fd ps [])
  (ha : DA Γ X (e :: es) fr) (hn : ∀ ρ ds, fr ρ = some ds -> ds.length = n) (hdb : (x == ("__debug__" : Str)) = false := by decide) (he : starEach (e :: es) X.env = (false, eval e X.env) :: starEach es X.env := by rfl) (hpl : (backTo pos (starEach es X.env)).any (·.1) = false := by rfl) :
  DE Γ X (.Call (.Name x p) (e :: es) [] pos) (cF F fr) := ⟨(zlF Fo hr hg hm hk hb .nil zlH ha.1 hdb he hpl).imp fun σ H Q => by
 rintro ⟨G₀, H₀, G, ρ, d, A, h, k⟩
 unfold cF at h
 obtain ⟨ds, hd, h⟩ := oBd h
 refine ⟨G₀, H₀, G, ρ, ds, A, hd, fun vs G1 H1 s1 r1 => ?_⟩
 show spF Γ X.K n F (vs ++ []) H1 Q E0
 rw [List.append_nil]
 exact ⟨G1, ds, d, s1.gh, r1, hn ρ ds hd, h, fun v G' H' s r => k v G' H' (s1.trans s) r⟩⟩
theorem zok {ρ : zaX} {ds : List D} (h : zai ρ = some ds) : ds.length = 0 := by cases h; rfl
theorem zcX {n : Nat} (hn : ∀ ρ ds, fr ρ = some ds -> ds.length = n) : ∀ ρ ds, zaa fa fr ρ = some ds -> ds.length = n + 1 := fun ρ ds h => by
 unfold zaa at h
 obtain ⟨x, hx, h⟩ := oBd h
 obtain ⟨xs, hxs, rfl⟩ := oMd h
 rw [qh, hn ρ xs hxs]
end
end L2
end
section
namespace L2
open PySem PySem.Spec PyProof.Rows
structure Cal (Γ : Cn) (P : Program) (w : World) (K : PySem.W.Frag) (mg : Str -> Option Value) (base : Heap) (x : Str) (n k : Nat) (F : List D -> Option D) : Prop where
 ex : ∃ f fd ps, FnOk P w K mg base CX0 k f fd ps (spF Γ K n F) /\ mg x = some (.ref f) /\ PySem.W.keepIn K (.ref f) = true /\ zdR K fd ps []
structure Dfn (K : PySem.W.Frag) (mg : Str -> Option Value) (x : Str) (st : Stmt) : Prop where
 ex : ∃ f fd, Fun K x x st f fd /\ mg x = some (.ref f)
section
variable {Γ : Cn} {X : Cx} {e : Expr} {es : List Expr} {fr : FA} {pos p : Pos}
theorem zmG {x : Str} {n k : Nat} {F : List D -> Option D} (C : Cal Γ X.prog X.w X.K X.mg X.base x n k F) {j : Nat} (hr : Room j X.A) (hk : k <= j) (hg : Gl X x) (ha : DA Γ X (e :: es) fr) (hn : ∀ ρ ds, fr ρ = some ds -> ds.length = n)
  (hdb : (x == ("__debug__" : Str)) = false := by decide) (he : starEach (e :: es) X.env = (false, eval e X.env) :: starEach es X.env := by rfl) (hpl : (backTo pos (starEach es X.env)).any (·.1) = false := by rfl) :
  DE Γ X (.Call (.Name x p) (e :: es) [] pos) (cF F fr) := by
 obtain ⟨f, fd, ps, h1, h2, h3, h4⟩ := C.ex
 exact zqs h1 (hr.mono hk) hg h2 h3 h4 ha hn hdb he hpl
theorem Dfn.cal {P : Program} {w : World} {K : PySem.W.Frag} {mg : Str -> Option Value} {base : Heap} {x : Str} {st : Stmt} {N ps : List Str} {k : Nat} {g : FS} (F : Dfn K mg x st) (S : FnScope N ps (zal st))
  (hb : ∀ (kV doc pm : Value) (an : Option Addr) (cdv ct : Value) (us : List Value), us.length = ps.length -> bindArgs (PySem.W.fnOf x x (zcB st) (zbh st) (zal st) .none kV doc pm an cdv ct) ⟨us, []⟩ = pure (ps.zip us))
  (hbody : ∀ (f : Addr) (cdv : Value) (A : Around) (outer : List Env) (s : Shared) (H : Hp) (E : XK), Room k (A.deeper (envOfC x (zal st) s.heap.objs.size f cdv)) ->
   DSs Γ (zkz CX0 P w K mg base N x (zal st) f cdv A outer s H E).nox (zbh st) g) : Cal Γ P w K mg base x ps.length (k + 1) (zbW (N.length - ps.length) g) := by
 obtain ⟨f, fd, h1, h2⟩ := F.ex
 exact ⟨f, fd, ps, h1.okD S (hbody f), h2, h1.kp, h1.binds hb⟩
theorem Dfn.mk' {K : PySem.W.Frag} {h : Heap} {mg : Str -> Option Value} {x : Str} {st : Stmt} {f : Addr} {oc : Value} {od an : Option Addr} {osl : Array (Option Value)} {kV doc pm cdv ct : Value} (X : K.In h) (G : h.Ns mainGlobals mg) (a : PySem.W.nsIn K mainGlobals x = some (some (.ref f)))
  (l : K.lookup f = some ⟨oc, od, .func (PySem.W.fnOf x x (zcB st) (zbh st) (zal st) .none kV doc pm an cdv ct), osl⟩) (c : PySem.W.codeIn K cdv x = true) (k : PySem.W.keepIn K (.ref f) = true) : Dfn K mg x st :=
 ⟨f, _, zmk l c k, PySem.W.mg_of X G a⟩
def zsi (names : List (Str × NameKind)) (outer : List (Str × NameKind)) : Bool :=
 names.all fun y => y.2 != .cell && (y.2 != .local || names.lookup y.1 == some .local) && (y.2 != .free || outer.lookup y.1 == some .cell || outer.lookup y.1 == some .free)
theorem CompScope.of {X : Cx} {scope : Scope} (hk : scope.kind = .function) (h : zsi scope.names X.env.scope.names = true) : CompScope X scope := by
 unfold zsi at h
 rw [List.all_eq_true] at h
 refine ⟨hk, fun y hy e => ?_, fun y hy e => ?_, fun y hy e => ?_⟩
 ·have := h y hy
  rw [e] at this
  simp at this
 ·have := h y hy
  rw [e] at this
  simpa using this
 ·have := h y hy
  rw [e] at this
  simpa [Env.kindOf] using this
def zr2 (N' : List Str) (fv : List (Option Nat)) (N : List Str) (outer names : List (Str × NameKind)) : Bool :=
 fv.length == N'.length && (N'.zip fv).all fun y => match y.2 with
  | none => true
  | some j => N[j]? == some y.1 && (outer.lookup y.1 == some .cell || outer.lookup y.1 == some .free) && names.lookup y.1 == some .free
theorem FvOk.of {X : Cx} {N' : List Str} {scope : Scope} {fv : List (Option Nat)} (h : zr2 N' fv X.N X.env.scope.names scope.names = true) : FvOk X N' scope fv := by
 unfold zr2 at h
 rw [Bool.and_eq_true, List.all_eq_true] at h
 obtain ⟨h1, h2⟩ := h
 refine ⟨by simpa using h1, fun i j x e1 e2 => ?_⟩
 have hm : (x, some j) ∈ N'.zip fv := by
  refine List.mem_iff_getElem?.mpr ⟨i, ?_⟩
  rw [List.getElem?_zip_eq_some]
  exact ⟨e1, e2⟩
 have := h2 _ hm
 simp only [Bool.and_eq_true, Bool.or_eq_true, beq_iff_eq] at this
 exact ⟨this.1.1, this.1.2, this.2⟩
end
end L2
end
section
namespace L2
open PySem PySem.Spec PyProof.Rows
mutual
def pdD : D -> Option PyData
 | .non => some .none
 | .bl b => some (.bool b)
 | .int i => some (.int i)
 | .str x => some (.str x)
 | .tup l => (zil l).map PyData.tuple
 | .lst l => (zil l).map PyData.list
 | .scr ns => some (.list (ns.map PyData.int))
 | _ => none
def zil : List D -> Option (List PyData)
 | [] => some []
 | d :: r => (pdD d).bind fun p => (zil r).map (p :: ·)
end
section
variable {Γ : Cn} {X : Cx} {pins : List (Addr × Obj)} {σ : St} {G H : Hp} {s : Shared}
theorem zhc {h : Heap} : ∀ {ns : List Int} {us : List Value}, zbX (ns.map V.int) us -> ∃ as, ReadsAll h us (ns.map PyData.int) as
 | [], _, r => by rw [List.map_nil] at r; cases r; exact ⟨_, .nil⟩
 | n :: ns, _, r => by
  rw [ql] at r
  cases r with
  | cons r1 r2 =>
   obtain ⟨t, e⟩ := r1
   subst e
   obtain ⟨as, q⟩ := zhc r2
   exact ⟨_, .cons (.int n t) q⟩
mutual
theorem Rep.reads (I : Inv X pins σ H s) (gh : zca G H) : ∀ {v : V} {d : D} {u : Value} {p : PyData}, Rep Γ X.K G v d -> zco v u -> pdD d = some p -> ∃ as, Reads s.heap u p as
 | _, _, u, p, .non, r, h => by cases r; rw [pdD] at h; cases h; exact ⟨_, .none⟩
 | _, _, u, p, .bl b, r, h => by cases r; rw [pdD] at h; cases h; exact ⟨_, .bool b⟩
 | _, _, u, p, .int i, r, h => by obtain ⟨t, rfl⟩ := r; rw [pdD] at h; cases h; exact ⟨_, .int i t⟩
 | _, _, u, p, .str x, r, h => by obtain ⟨t, rfl⟩ := r; rw [pdD] at h; cases h; exact ⟨_, .str x t⟩
 | _, _, u, p, .ty n, r, h => by rw [pdD] at h; cases h; all_goals (intros; contradiction)
 | _, _, u, p, .tup ha rs, r, h => by
  cases r
  rw [pdD] at h
  obtain ⟨ps, hp, rfl⟩ := oMd h
  obtain ⟨its, rv, ⟨o, e1, e2, n, e3⟩, _⟩ := I.tuple (.inl (.inl (gh _ _ ha)))
  obtain ⟨as, q⟩ := Reps.reads I gh rs rv hp
  exact ⟨_, .tuple e1 e2 e3 (by simpa using q)⟩
 | _, _, u, p, .lst ha rs, r, h => by
  cases r
  rw [pdD] at h
  obtain ⟨ps, hp, rfl⟩ := oMd h
  obtain ⟨its, rv, ⟨o, n, e1, e2, _, e3⟩, _⟩ := I.list (.inl (.inl (gh _ _ ha)))
  obtain ⟨as, q⟩ := Reps.reads I gh rs rv hp
  exact ⟨_, .list e1 e2 e3 (by simpa using q)⟩
 | _, _, u, p, .scr hs, r, h => by
  cases r
  rw [pdD] at h
  cases h
  obtain ⟨its, rv, ⟨o, n, e1, e2, _, e3⟩, _⟩ := I.list (gh.seq hs)
  obtain ⟨as, q⟩ := zhc (h := s.heap) rv
  exact ⟨_, .list e1 e2 e3 (by simpa using q)⟩
 | _, _, u, p, .dk ha _ _, r, h => by rw [pdD] at h; cases h; all_goals (intros; contradiction)
 | _, _, u, p, .dt ha _ _, r, h => by rw [pdD] at h; cases h; all_goals (intros; contradiction)
 | _, _, u, p, .ins ha _ _ _, r, h => by rw [pdD] at h; cases h; all_goals (intros; contradiction)
theorem Reps.reads (I : Inv X pins σ H s) (gh : zca G H) : ∀ {vs : List V} {ds : List D} {us : List Value} {ps : List PyData}, Reps Γ X.K G vs ds -> zbX vs us -> zil ds = some ps -> ∃ as, ReadsAll s.heap us ps as
 | _, _, _, _, .nil, r, h => by cases r; rw [zil] at h; cases h; exact ⟨_, .nil⟩
 | _, _, _, _, .cons r1 r2, r, h => by
  cases r with
  | cons q1 q2 =>
   rw [zil] at h
   obtain ⟨p, hp, h⟩ := oBd h
   obtain ⟨ps, hps, rfl⟩ := oMd h
   obtain ⟨as, a1⟩ := Rep.reads I gh r1 q1 hp
   obtain ⟨bs, a2⟩ := Reps.reads I gh r2 q2 hps
   exact ⟨_, .cons a1 a2⟩
end
end
section
variable {Γ : Cn} {X : Cx} {a b c e : Expr} {es : List Expr} {fa fb fc f : FE} {fr : FA} {pos : Pos}
def eqX (x y : D) : Option Bool := (pdD x).bind fun p => (pdD y).bind fun q => if SeqAt.shaped p = true /\ SeqAt.shaped q = true then some (PyData.eqv p q) else none
def zr5 (x y : D) : Option D := (eqX x y).map D.bl
def zpR (x y : D) : Option D := (eqX x y).map fun b => D.bl (!b)
def rX (Γ : Cn) (K : PySem.W.Frag) (neg : Bool) : R2 := fun x y H Q => ∃ G d e b, zca G H /\ Rep Γ K G x d /\ Rep Γ K G y e /\ eqX d e = some b /\ Q (.bl (if neg then !b else b)) H
theorem zkt {x y : D} {b : Bool} (h : eqX x y = some b) : ∃ p q, pdD x = some p /\ pdD y = some q /\ SeqAt.shaped p = true /\ SeqAt.shaped q = true /\ b = PyData.eqv p q := by
 unfold eqX at h
 obtain ⟨p, hp, h⟩ := oBd h
 obtain ⟨q, hq, h⟩ := oBd h
 split at h
 ·rename_i hz
  cases h
  exact ⟨p, q, hp, hq, hz.1, hz.2, rfl⟩
 ·cases h
theorem zrF (hu : X.A.units + 64 < cLine) : OpR X (compareOp .Eq) (rX Γ X.K false) := by
 intro pins s σ H x y v u Q I rx ry h
 obtain ⟨G, d, e, b, gh, r1, r2, hb, q⟩ := h
 obtain ⟨p, q', hp, hq, s1, s2, rfl⟩ := zkt hb
 obtain ⟨as, a1⟩ := r1.reads I gh rx hp
 obtain ⟨bs, a2⟩ := r2.reads I gh ry hq
 exact eq_dataH a1 a2 s1 s2 hu ⟨.bl _, H, I, rfl, q⟩
theorem zrB (hu : X.A.units + 64 < cLine) : OpR X (compareOp .NotEq) (rX Γ X.K true) := by
 intro pins s σ H x y v u Q I rx ry h
 obtain ⟨G, d, e, b, gh, r1, r2, hb, q⟩ := h
 obtain ⟨p, q', hp, hq, s1, s2, rfl⟩ := zkt hb
 obtain ⟨as, a1⟩ := r1.reads I gh rx hp
 obtain ⟨bs, a2⟩ := r2.reads I gh ry hq
 exact ne_dataH a1 a2 s1 s2 hu ⟨.bl _, H, I, rfl, q⟩
theorem zsk (hu : X.A.units + 64 < cLine) : CmpD Γ X .Eq zr5 := ⟨_, zrF (Γ := Γ) hu, fun {G H v u x y z} gh r1 r2 h Q k => by
 unfold zr5 at h
 obtain ⟨b, hb, rfl⟩ := oMd h
 exact ⟨G, x, y, b, gh, r1, r2, hb, k _ G H (.refl gh) (.bl _)⟩⟩
theorem zsj (hu : X.A.units + 64 < cLine) : CmpD Γ X .NotEq zpR := ⟨_, zrB (Γ := Γ) hu, fun {G H v u x y z} gh r1 r2 h Q k => by
 unfold zpR at h
 obtain ⟨b, hb, rfl⟩ := oMd h
 exact ⟨G, x, y, b, gh, r1, r2, hb, k _ G H (.refl gh) (.bl _)⟩⟩
def inX (x y : D) : Option Bool := (pdD x).bind fun p => (pdD y).bind fun q => match q with
 | .list l => if SeqAt.shaped p = true /\ PyData.canLayAll0 l = true then some (l.any fun z => PyData.eqv z p) else none
 | _ => none
def ziT (x y : D) : Option D := (inX x y).map D.bl
def zeM (x y : D) : Option D := (inX x y).map fun b => D.bl (!b)
def ztD (Γ : Cn) (K : PySem.W.Frag) (neg : Bool) : R2 := fun x y H Q => ∃ G d e b, zca G H /\ Rep Γ K G x d /\ Rep Γ K G y e /\ inX d e = some b /\ Q (.bl (if neg then !b else b)) H
theorem zkr {x y : D} {b : Bool} (h : inX x y = some b) : ∃ p l, pdD x = some p /\ pdD y = some (.list l) /\ SeqAt.shaped p = true /\ PyData.canLayAll0 l = true /\ b = l.any fun z => PyData.eqv z p := by
 unfold inX at h
 obtain ⟨p, hp, h⟩ := oBd h
 obtain ⟨q, hq, h⟩ := oBd h
 split at h
 ·split at h
  ·rename_i hz
   cases h
   exact ⟨p, _, hp, hq, hz.1, hz.2, rfl⟩
  ·cases h
 ·cases h
theorem zhb {p : PyData} (h : SeqAt.shaped p = true) : p.canLay0 = true /\ p.depth <= 64 := by
 unfold SeqAt.shaped at h
 rw [Bool.and_eq_true] at h
 exact ⟨h.1, of_decide_eq_true h.2⟩
theorem zrE (hu : X.A.units + 66 < cLine) : OpR X (compareOp .In) (ztD Γ X.K false) := by
 intro pins s σ H x y v u Q I rx ry h
 obtain ⟨G, d, e, b, gh, r1, r2, hb, q⟩ := h
 obtain ⟨p, l, hp, hq, s1, s2, rfl⟩ := zkr hb
 obtain ⟨as, a1⟩ := r1.reads I gh rx hp
 obtain ⟨bs, a2⟩ := r2.reads I gh ry hq
 obtain ⟨c1, c2⟩ := zhb s1
 have := Nat.min_le_right (PyData.depthAll l) p.depth
 exact SeqAt.in_list_reads a2 a1 s2 c1 (by omega) ⟨.bl _, H, I, rfl, q⟩
theorem zpF (hu : X.A.units + 66 < cLine) : OpR X (compareOp .NotIn) (ztD Γ X.K true) := by
 intro pins s σ H x y v u Q I rx ry h
 obtain ⟨G, d, e, b, gh, r1, r2, hb, q⟩ := h
 obtain ⟨p, l, hp, hq, s1, s2, rfl⟩ := zkr hb
 obtain ⟨as, a1⟩ := r1.reads I gh rx hp
 obtain ⟨bs, a2⟩ := r2.reads I gh ry hq
 obtain ⟨c1, c2⟩ := zhb s1
 have := Nat.min_le_right (PyData.depthAll l) p.depth
 exact SeqAt.notIn_list_reads a2 a1 s2 c1 (by omega) ⟨.bl _, H, I, rfl, q⟩
theorem zkD (hu : X.A.units + 66 < cLine) : CmpD Γ X .In ziT := ⟨_, zrE (Γ := Γ) hu, fun {G H v u x y z} gh r1 r2 h Q k => by
 unfold ziT at h
 obtain ⟨b, hb, rfl⟩ := oMd h
 exact ⟨G, x, y, b, gh, r1, r2, hb, k _ G H (.refl gh) (.bl _)⟩⟩
theorem zjO (hu : X.A.units + 66 < cLine) : CmpD Γ X .NotIn zeM := ⟨_, zpF (Γ := Γ) hu, fun {G H v u x y z} gh r1 r2 h Q k => by
 unfold zeM at h
 obtain ⟨b, hb, rfl⟩ := oMd h
 exact ⟨G, x, y, b, gh, r1, r2, hb, k _ G H (.refl gh) (.bl _)⟩⟩
theorem zjj {k : Nat} (hr : Room k X.A) : X.A.units + 66 < cLine := by have := hr.un; omega
theorem zp9 {k : Nat} (hr : Room k X.A) : X.A.units + 64 < cLine := by have := hr.un; omega
def zjI (d : D) : Bool := match d with
 | .non => true
 | _ => false
def zhl (x y : D) : Option D := match y with
 | .non => some (.bl (!zjI x))
 | _ => none
theorem zkP {K : PySem.W.Frag} {G : Hp} {v : V} {d : D} (r : Rep Γ K G v d) : decide (v = .non) = zjI d := by
 cases r <;> simp [zjI]
theorem zkC : CmpD Γ X .IsNot zhl := ⟨_, zpE, fun {G H v u x y z} gh r1 r2 h Q k => by
 unfold zhl at h
 split at h <;> cases h
 exact ⟨r2.non_inv, by rw [zkP r1]; exact k _ G H (.refl gh) (.bl _)⟩⟩
end
end L2
end
section
namespace L2
open PySem PySem.Spec PyProof.Rows
section
variable {Γ : Cn} {X : Cx} {a b c e o i : Expr} {es : List Expr} {fa fb fc f fo fk fx : FE} {fr fi : FA} {pos p apos cpos : Pos} {ft : FT} {g : FS} {x : Str}
def bwT (i : Nat) (ft : FT) : FT := fun ρ => match ρ[i]? with
 | some (some (.own ds)) => ft (ρ.set i (some (.sh (.lst ds))))
 | _ => none
theorem Step.back {G G1 G' H H' : Hp} (gh : zca G H) (s1 : zca G G1) (s : Step G1 H G' H') : Step G H G H' := ⟨s.hh, .refl _, (s1.trans s.gg).trans s.gh, fun _ _ _ => rfl⟩
theorem zmq (i : Nat) (h : DT Γ X c ft) : DT Γ X c (bwT i ft) := ⟨h.1.imp fun σ H Q => by
 rintro ⟨G₀, H₀, G, ρ, b, A, h, k⟩
 unfold bwT at h
 split at h
 ·rename_i ds hi
  obtain ⟨G1, sm, A1⟩ := A.freeze hi
  exact ⟨G₀, H₀, G1, _, b, A1, h, fun G' H' s => k G H' (s.back A.gh sm)⟩
 ·cases h⟩
def zlc (i : Nat) (f : FE) : FS := fun ρ => match ρ[i]? with
 | some (some (.own ds)) => (f ρ).bind fun d => match d with
  | .lst l => if ds.length + l.length <= sizeLine then some (.nx, ρ.set i (some (.own (ds ++ l)))) else none
  | _ => none
 | _ => none
theorem zgq (i : Nat) {vp : Pos} (h : DE Γ X e f) (hN : X.N[i]? = some x := by rfl) (hv : Vis X.env.scope x := by first | exact Or.inl rfl | exact Or.inr (Or.inl rfl) | exact Or.inr (Or.inr rfl)) (hd : (x == ("__debug__" : Str)) = false := by decide)
  (hcd : (x == ("__classdict__" : Str)) = false := by decide)
  (hbase : attributeBase (.Name x vp) "extend" X.env (eval (.Name x vp) X.env) = eval (.Name x vp) X.env := by rfl)
  (hfew : ((backTo cpos (starEach [e] X.env)).all (fun x => !x.1) && (backToKw cpos (keywordEach [] X.env)).all (fun x => x.1.isSome)
   && decide ([e].length + ([] : List Keyword).length + (if ([] : List Keyword).isEmpty then 0 else 1) < 30)) = true := by rfl)
  (hline : (apos.endLine == cpos.line) = true := by rfl) (hs : starEach [e] X.env = (false, eval e X.env) :: starEach [] X.env := by rfl) (hplain : (backTo cpos (starEach [] X.env)).any (·.1) = false := by rfl)
  (hsw : swapsWith (.Call (.Attribute (.Name x vp) "extend" apos) [e] [] cpos) none pos.line X.env = pure false := by rfl) :
  DS Γ X (.Expr (.Call (.Attribute (.Name x vp) "extend" apos) [e] [] cpos) pos) (zlc i f) := ⟨(zly (zpC PySem.F.plainAttrs_list PySem.F.slot_list_extend PySem.F.type_list_extend zlQ (zd5 hN hv hd hcd) (zdH h.1 zfu hs) hbase hfew hline hs hplain) hsw).imp fun E σ H => by
  rintro ⟨G₀, H₀, G, ρ, fl, ρ', A, h, k⟩
  unfold zlc at h
  split at h
  ·rename_i ds hi
   obtain ⟨d, hd, h⟩ := oBd h
   split at h
   ·rename_i l
    split at h
    ·rename_i hz
     cases h
     obtain ⟨a, vs, h1, h2, h3, h4, h5⟩ := A.env.own i ds hi
     refine ⟨.ref a, h1, .inl ⟨rfl, vs, .inl (.inl h4)⟩, G₀, H₀, G, ρ, _, A, hd, fun v G1 H1 s1 r1 => ?_⟩
     have A1 := A.step s1
     obtain ⟨b, us, rfl, hb, rb⟩ := r1.lst_inv
     refine ⟨a, b, vs, us, rfl, rfl, s1.hh _ _ h4, s1.gh _ _ hb, by rw [h5.length, rb.length]; exact hz, ?_⟩
     exact k σ G1 _ s1.gg (A1.chOwn hi h1 ((h5.mono s1.gg).append rb))
    ·cases h
   ·cases h
  ·cases h⟩
def znT : List D -> Option D
 | [.int i] => some (.int i)
 | [.bl k] => some (.int (if k then 1 else 0))
 | _ => none
theorem zom : TyD Γ X "int" znT := ⟨_, zmP, fun {G H vs ds z} gh r h Q k => by
 unfold znT at h
 split at h <;> cases h
 ·obtain ⟨v, rfl, r1⟩ := r.one
  cases r1.int_inv
  exact .inl ⟨_, rfl, k _ G H (.refl gh) (.int _)⟩
 ·obtain ⟨v, rfl, r1⟩ := r.one
  cases r1.bl_inv
  exact .inr ⟨_, rfl, k _ G H (.refl gh) (.int _)⟩⟩
def zlj : List D -> Option D
 | [.lst l] => some (.tup l)
 | [.tup l] => some (.tup l)
 | _ => none
theorem znb : TyD Γ X "tuple" zlj := ⟨_, zh6, fun {G H vs ds z} gh r h Q k => by
 unfold zlj at h
 split at h <;> cases h
 ·obtain ⟨v, rfl, r1⟩ := r.one
  obtain ⟨a, us, rfl, ha, ra⟩ := r1.lst_inv
  exact ⟨a, us, rfl, .inl ⟨.inl (.inl (gh _ _ ha)), zjx gh ra k⟩⟩
 ·obtain ⟨v, rfl, r1⟩ := r.one
  obtain ⟨a, us, rfl, ha, ra⟩ := r1.tup_inv
  exact ⟨a, us, rfl, .inr ⟨.inl (.inl (gh _ _ ha)), k _ G H (.refl gh) (.tup ha ra)⟩⟩⟩
def zgQ {κ α : Type} [DecidableEq κ] (kvs : List (κ × α)) (k : κ) : Option α := (kvs.find? fun kv => decide (kv.1 = k)).map (·.2)
def zhJ {κ α : Type} [DecidableEq κ] (kvs : List (κ × α)) (k : κ) (v : α) : List (κ × α) :=
 if (kvs.any fun kv => decide (kv.1 = k)) = true then kvs.map (fun kv => if kv.1 = k then (kv.1, v) else kv) else kvs ++ [(k, v)]
theorem zl6 {κ : Type} [DecidableEq κ] {K : PySem.W.Frag} {G : Hp} {k : κ} : ∀ {us : List (κ × V)} {kvs : List (κ × D)}, us.map (·.1) = kvs.map (·.1) -> Reps Γ K G (us.map (·.2)) (kvs.map (·.2)) ->
  (zgQ kvs k = none /\ zj0 us k = none) \/ ∃ d v, zgQ kvs k = some d /\ zj0 us k = some v /\ Rep Γ K G v d
 | [], [], _, _ => .inl ⟨rfl, rfl⟩
 | [], _ :: _, e, _ => by cases e
 | _ :: _, [], e, _ => by cases e
 | (k1, v) :: us, (k2, d) :: kvs, e, r => by
  have e1 : k1 = k2 := (List.cons.inj e).1
  have e2 : us.map (·.1) = kvs.map (·.1) := (List.cons.inj e).2
  subst e1
  have r : Reps Γ K G (v :: us.map (·.2)) (d :: kvs.map (·.2)) := r
  cases r with
  | cons r1 r2 =>
   by_cases h : k1 = k
   ·exact .inr ⟨d, v, by simp [zgQ, List.find?_cons, h], zfO h, r1⟩
   ·have := zl6 (k := k) e2 r2
    rw [zfP (p := (k1, v)) h]
    simpa [zgQ, List.find?_cons, h] using this
theorem zoE {κ : Type} [DecidableEq κ] {k : κ} {α β : Type} : ∀ {us : List (κ × α)} {kvs : List (κ × β)}, us.map (·.1) = kvs.map (·.1) -> (us.any fun kv => decide (kv.1 = k)) = (kvs.any fun kv => decide (kv.1 = k))
 | [], [], _ => rfl
 | [], _ :: _, e => by cases e
 | _ :: _, [], e => by cases e
 | (k1, v) :: us, (k2, d) :: kvs, e => by
  have e1 : k1 = k2 := (List.cons.inj e).1
  subst e1
  rw [List.any_cons, List.any_cons, zoE (us := us) (kvs := kvs) (List.cons.inj e).2]
theorem zoD {κ : Type} [DecidableEq κ] {K : PySem.W.Frag} {G : Hp} {k : κ} {v : V} {d : D} (rv : Rep Γ K G v d) : ∀ {us : List (κ × V)} {kvs : List (κ × D)}, us.map (·.1) = kvs.map (·.1) -> Reps Γ K G (us.map (·.2)) (kvs.map (·.2)) ->
  (us.map fun kv => if kv.1 = k then (kv.1, v) else kv).map (·.1) = (kvs.map fun kv => if kv.1 = k then (kv.1, d) else kv).map (·.1) /\ Reps Γ K G ((us.map fun kv => if kv.1 = k then (kv.1, v) else kv).map (·.2)) ((kvs.map fun kv => if kv.1 = k then (kv.1, d) else kv).map (·.2))
 | [], [], _, _ => ⟨rfl, .nil⟩
 | [], _ :: _, e, _ => by cases e
 | _ :: _, [], e, _ => by cases e
 | (k1, u) :: us, (k2, x) :: kvs, e, r => by
  have e1 : k1 = k2 := (List.cons.inj e).1
  have e2 : us.map (·.1) = kvs.map (·.1) := (List.cons.inj e).2
  subst e1
  have r : Reps Γ K G (u :: us.map (·.2)) (x :: kvs.map (·.2)) := r
  cases r with
  | cons r1 r2 =>
   obtain ⟨h1, h2⟩ := zoD (k := k) rv e2 r2
   by_cases h : k1 = k
   ·subst h
    simp only [ql, if_true]
    exact ⟨by rw [h1], .cons rv h2⟩
   ·simp only [ql, if_neg h]
    exact ⟨by rw [h1], .cons r1 h2⟩
theorem zkm {κ : Type} [DecidableEq κ] {K : PySem.W.Frag} {G : Hp} {k : κ} {v : V} {d : D} (rv : Rep Γ K G v d) {us : List (κ × V)} {kvs : List (κ × D)} (e : us.map (·.1) = kvs.map (·.1)) (r : Reps Γ K G (us.map (·.2)) (kvs.map (·.2))) :
  (zgU us k v).map (·.1) = (zhJ kvs k d).map (·.1) /\ Reps Γ K G ((zgU us k v).map (·.2)) ((zhJ kvs k d).map (·.2)) := by
 unfold zgU zhJ
 rw [zoE (k := k) e]
 split
 ·exact zoD rv e r
 ·simp only [List.map_append, ql, List.map_nil]
  exact ⟨by rw [e], r.append (.cons rv .nil)⟩
def zmv : D -> Option Key
 | .int i => some (.inl i)
 | .str x => some (.inr x)
 | _ => none
def zeO : List D -> Option (List Key)
 | [] => some []
 | d :: r => (zmv d).bind fun k => (zeO r).map (k :: ·)
theorem zgs {K : PySem.W.Frag} {G : Hp} {v : V} {d : D} {k : Key} (r : Rep Γ K G v d) (h : zmv d = some k) : v = kV k := by
 unfold zmv at h
 split at h <;> cases h
 ·exact r.int_inv
 ·exact r.str_inv
theorem zdr {K : PySem.W.Frag} {G : Hp} : ∀ {vs : List V} {ds : List D} {ks : List Key}, Reps Γ K G vs ds -> zeO ds = some ks -> vs = ks.map kV
 | _, [], ks, r, h => by cases r; cases h; rfl
 | _, d :: ds, ks, .cons h1 h2, h => by
  unfold zeO at h
  obtain ⟨k, hk, h⟩ := oBd h
  obtain ⟨zs, hz, rfl⟩ := oMd h
  rw [zgs h1 hk, zdr h2 hz]; rfl
def zl0 (d k : D) : Option (Option D) := match d, k with
 | .dk l, k => (zmv k).map (zgQ l)
 | .dt l, .tup t => (zeO t).map (zgQ l)
 | _, _ => none
theorem zmz {K : PySem.W.Frag} {G H : Hp} {v y : V} {d k : D} {r : Option D} (gh : zca G H) (rv : Rep Γ K G v d) (ry : Rep Γ K G y k) (h : zl0 d k = some r) :
  ∃ a o, v = .ref a /\ zm3 H a y o /\ ((r = none /\ o = none) \/ ∃ w z, r = some z /\ o = some w /\ Rep Γ K G w z) := by
 unfold zl0 at h
 split at h
 ·obtain ⟨kk, hk, rfl⟩ := oMd h
  cases rv with
  | dk h1 h2 h3 =>
   have ey := zgs ry hk
   subst ey
   refine ⟨_, _, rfl, zm3.k (gh _ _ h1), ?_⟩
   rcases zl6 (k := kk) h2 h3 with ⟨q1, q2⟩ | ⟨z, w, q1, q2, q3⟩
   ·exact .inl ⟨q1, q2⟩
   ·exact .inr ⟨w, z, q1, q2, q3⟩
 ·obtain ⟨kk, hk, rfl⟩ := oMd h
  cases rv with
  | dt h1 h2 h3 =>
   obtain ⟨b, ys, rfl, hb, rb⟩ := ry.tup_inv
   have ey := zdr rb hk
   subst ey
   refine ⟨_, _, rfl, zm3.t (gh _ _ h1) (gh _ _ hb), ?_⟩
   rcases zl6 (k := kk) h2 h3 with ⟨q1, q2⟩ | ⟨z, w, q1, q2, q3⟩
   ·exact .inl ⟨q1, q2⟩
   ·exact .inr ⟨w, z, q1, q2, q3⟩
 ·cases h
def zmA (d k : D) : Option D := (zl0 d k).bind id
theorem zqr (hu : X.A.units + 66 < cLine) (ho : DE Γ X o fo) (hi : DE Γ X i fi') (hs : ztq i := by intro _ _; rfl) : DE Γ X (.Subscript o i pos) (b2 zmA fo fi') := ⟨(zpA (by omega) ho.1 hi.1 hs).imp fun σ H Q => by
 rintro ⟨G₀, H₀, G, ρ, d, A, h, k⟩
 unfold b2 at h
 obtain ⟨x, hx, h⟩ := oBd h
 obtain ⟨y, hy, h⟩ := oBd h
 refine ⟨G₀, H₀, G, ρ, x, A, hx, fun v G1 H1 s1 r1 => ⟨G₀, H₀, G1, ρ, y, A.step s1, hy, fun u G2 H2 s2 r2 => ?_⟩⟩
 unfold zmA at h
 obtain ⟨r, hr, h⟩ := oBd h
 obtain ⟨a, ov, rfl, hg, hc⟩ := zmz s2.gh (r1.mono s2.gg) r2 hr
 rcases hc with ⟨rfl, _⟩ | ⟨w, z, rfl, rfl, rw'⟩
 ·cases h
 ·cases h
  exact ⟨a, w, rfl, hg, k w G2 H2 (s1.trans s2) rw'⟩⟩
def zsb (k d : D) : Option D := (zl0 d k).map fun r => .bl r.isSome
def zt1 (Γ : Cn) (K : PySem.W.Frag) (neg : Bool) : R2 := fun y x H Q => ∃ G k d r, zca G H /\ Rep Γ K G y k /\ Rep Γ K G x d /\ zl0 d k = some r /\ Q (.bl (if neg then !r.isSome else r.isSome)) H
theorem zrG (hu : X.A.units + 66 < cLine) : OpR X (compareOp .In) (zt1 Γ X.K false) := by
 intro pins s σ H x y v u Q I rx ry h
 obtain ⟨G, kd, d, r, gh, r1, r2, hr, q⟩ := h
 obtain ⟨a, ov, rfl, hg, hc⟩ := zmz gh r2 r1 hr
 cases ry
 have e : ov.isSome = r.isSome := by rcases hc with ⟨rfl, rfl⟩ | ⟨w, z, rfl, rfl, _⟩ <;> rfl
 exact zt8 (by omega) I hg rx fun s3 I3 => ⟨.bl _, H, I3, rfl, by rw [e]; exact q⟩
theorem zsm (hu : X.A.units + 66 < cLine) : CmpD Γ X .In zsb := ⟨_, zrG (Γ := Γ) hu, fun {G H v u x y z} gh r1 r2 h Q k => by
 unfold zsb at h
 obtain ⟨r, hr, rfl⟩ := oMd h
 exact ⟨G, x, y, r, gh, r1, r2, hr, k _ G H (.refl gh) (.bl _)⟩⟩
def sNo : FS := fun _ => none
theorem ztg {st : Stmt} : DS Γ X st sNo := ⟨fun pins s σ H E I q => by
 obtain ⟨G₀, H₀, G, ρ, fl, ρ', A, h, k⟩ := q
 cases h⟩
end
end L2
end
section
namespace L2
open PySem PySem.Spec PyProof.Rows
structure CF (Γ : Cn) (K : PySem.W.Frag) (c : Str) (attrs : List Str) : Prop where
 ex : ∃ C, Γ.cls c = some C /\ Cls K C /\ ∀ f ∈ attrs, zfA K C f
section
variable {Γ : Cn} {X : Cx} {a b c e o i value : Expr} {es : List Expr} {fa fb fc f fo fk fx fv : FE} {fr fi : FA} {pos pos' p apos cpos : Pos} {ft : FT} {g : FS} {x cl fl n m : Str} {attrs : List Str}
theorem zcr {K : PySem.W.Frag} {G : Hp} {k : Str} : ∀ {us : List (Str × V)} {fs : List (Str × D)}, us.map (·.1) = fs.map (·.1) -> Reps Γ K G (us.map (·.2)) (fs.map (·.2)) ->
  (fs.lookup k = none /\ us.lookup k = none) \/ ∃ d v, fs.lookup k = some d /\ us.lookup k = some v /\ Rep Γ K G v d
 | [], [], _, _ => .inl ⟨rfl, rfl⟩
 | [], _ :: _, e, _ => by cases e
 | _ :: _, [], e, _ => by cases e
 | (k1, v) :: us, (k2, d) :: fs, e, r => by
  have e1 : k1 = k2 := (List.cons.inj e).1
  have e2 : us.map (·.1) = fs.map (·.1) := (List.cons.inj e).2
  subst e1
  have r : Reps Γ K G (v :: us.map (·.2)) (d :: fs.map (·.2)) := r
  cases r with
  | cons r1 r2 =>
   by_cases h : k = k1
   ·subst h
    exact .inr ⟨d, v, by simp [List.lookup], by simp [List.lookup], r1⟩
   ·have hb : (k == k1) = false := by simpa using h
    have := zcr (k := k) e2 r2
    simpa [List.lookup, hb] using this
theorem zhK {f : Str} {v : V} : ∀ {fs : List (Str × V)}, fs.lookup f = none -> zik f v fs = fs ++ [(f, v)]
 | [], _ => rfl
 | (g, x) :: r, h => by
  by_cases e : f = g
  ·subst e; simp [List.lookup] at h
  ·have hb : (f == g) = false := by simpa using e
   rw [zik, if_neg (fun z => e z.symm), zhK (by simpa [List.lookup, hb] using h)]
   rfl
def ztI (c f : Str) : D -> Option D
 | .ins c' fs => if c' = c then fs.lookup f else none
 | _ => none
def zqg (c f : Str) (fo : FE) : FE := fun ρ => (fo ρ).bind (ztI c f)
theorem zmF (hc : CF Γ X.K cl attrs) (hf : fl ∈ attrs) (ho : DE Γ X o fo) (hb : attributeBase o fl X.env (eval o X.env) = eval o X.env := by rfl) : DE Γ X (.Attribute o fl pos) (zqg cl fl fo) := ⟨(zlE ho.1 hb).imp fun σ H Q => by
 rintro ⟨G₀, H₀, G, ρ, d, A, h, k⟩
 unfold zqg at h
 obtain ⟨x, hx, hq⟩ := oBd h
 clear h
 refine ⟨G₀, H₀, G, ρ, x, A, hx, fun v G1 H1 s1 r1 => ?_⟩
 unfold ztI at hq
 split at hq
 ·split at hq
  ·rename_i ec
   subst ec
   obtain ⟨C, q1, q2, q3⟩ := hc.ex
   cases r1 with
   | ins h1 h2 h3 h4 =>
    rw [q1] at h2
    cases h2
    rcases zcr (k := fl) h3 h4 with ⟨z1, _⟩ | ⟨d', v', z1, z2, z3⟩
    ·rw [z1] at hq; cases hq
    ·rw [z1] at hq
     cases hq
     exact ⟨_, C, _, _, v', rfl, s1.gh _ _ h1, q2, q3 fl hf, z2, k v' G1 H1 s1 z3⟩
  ·cases hq
 ·cases hq⟩
def zlo (f : Str) : Slot -> Option D
 | .obj _ fs => fs.lookup f
 | .objd _ fs n _ => if f = n then none else fs.lookup f
 | _ => none
def zo4 : Slot -> Option Str
 | .obj c _ => some c
 | .objd c _ _ _ => some c
 | _ => none
def zgV (c f : Str) (i : Nat) : FE := fun ρ => match ρ[i]? with
 | some (some s) => if zo4 s = some c then zlo f s else none
 | _ => none
theorem znL {vs : List (Str × V)} {n f : Str} {v w : V} (h : vs.lookup f = some v) : (vs ++ [(n, w)]).lookup f = some v := by
 induction vs with
 | nil => cases h
 | cons p r ih =>
  obtain ⟨g, x⟩ := p
  by_cases e : f = g
  ·subst e; simpa [List.lookup] using h
  ·have hb : (f == g) = false := by simpa using e
   simp only [List.cons_append, List.lookup, hb] at h ⊢
   exact ih h
theorem zhZ (i : Nat) (hc : CF Γ X.K cl attrs) (hf : fl ∈ attrs) {vp : Pos} (hN : X.N[i]? = some x := by rfl) (hv : Vis X.env.scope x := by first | exact Or.inl rfl | exact Or.inr (Or.inl rfl) | exact Or.inr (Or.inr rfl)) (hd : (x == ("__debug__" : Str)) = false := by decide)
  (hcd : (x == ("__classdict__" : Str)) = false := by decide) (hb : attributeBase (.Name x vp) fl X.env (eval (.Name x vp) X.env) = eval (.Name x vp) X.env := by rfl) : DE Γ X (.Attribute (.Name x vp) fl pos) (zgV cl fl i) := ⟨(zlE (zd5 hN hv hd hcd) hb).imp fun σ H Q => by
 rintro ⟨G₀, H₀, G, ρ, d, A, h, k⟩
 unfold zgV at h
 split at h
 ·rename_i s hi
  split at h
  ·rename_i hcl
   obtain ⟨C, q1, q2, q3⟩ := hc.ex
   obtain ⟨v, fp, h1, h2⟩ := A.get hi
   cases h2 with
   | sh _ => cases h
   | own _ _ _ _ => cases h
   | odk _ _ _ _ _ => cases h
   | odt _ _ _ _ _ => cases h
   | tlo _ _ _ _ _ _ => cases h
   | pin _ => cases h
   | obj g1 g2 g3 g4 g5 g6 g7 =>
    cases hcl
    rw [q1] at g1
    cases g1
    have h : List.lookup fl _ = some d := h
    rcases zcr (k := fl) g5 g6 with ⟨z1, _⟩ | ⟨d', v', z1, z2, z3⟩
    ·rw [z1] at h; cases h
    ·rw [z1] at h
     cases h
     exact ⟨_, h1, _, C, _, _, v', rfl, g4, q2, q3 fl hf, z2, k v' G H (.refl A.gh) z3⟩
   | objd g1 g2 g3 g4 g5 g6 _ _ _ _ _ g7 =>
    cases hcl
    rw [q1] at g1
    cases g1
    unfold zlo at h
    simp only at h
    split at h
    ·cases h
    ·rcases zcr (k := fl) g5 g6 with ⟨z1, _⟩ | ⟨d', v', z1, z2, z3⟩
     ·rw [z1] at h; cases h
     ·rw [z1] at h
      cases h
      exact ⟨_, h1, _, C, _, _, v', rfl, g4, q2, q3 fl hf, znL z2, k v' G H (.refl A.gh) z3⟩
  ·cases h
 ·cases h⟩
def zeI (c f : Str) (i : Nat) (fv : FE) : FS := fun ρ => (fv ρ).bind fun d => match ρ[i]? with
 | some (some (.obj c' fs)) => if c' = c /\ fs.lookup f = none /\ fs.length < 100 then some (.nx, ρ.set i (some (.obj c (fs ++ [(f, d)])))) else none
 | _ => none
theorem zc7 (i : Nat) (hc : CF Γ X.K cl attrs) (hf : fl ∈ attrs) {vp : Pos} (hv' : DE Γ X value fv) (hN : X.N[i]? = some x := by rfl) (hv : Vis X.env.scope x := by first | exact Or.inl rfl | exact Or.inr (Or.inl rfl) | exact Or.inr (Or.inr rfl)) (hd : (x == ("__debug__" : Str)) = false := by decide)
  (hcd : (x == ("__classdict__" : Str)) = false := by decide) (hs : swapsWith value (some (.Attribute (.Name x vp) fl pos')) pos.line X.env = pure false := by rfl) : DS Γ X (.Assign [.Attribute (.Name x vp) fl pos'] value pos) (zeI cl fl i fv) := ⟨(zow (zd5 hN hv hd hcd) hv'.1 hs).imp fun E σ H => by
 rintro ⟨G₀, H₀, G, ρ, flw, ρ', A, h, k⟩
 unfold zeI at h
 obtain ⟨d, hd, h⟩ := oBd h
 split at h
 ·rename_i c' fs hi
  split at h
  ·rename_i hz
   obtain ⟨rfl, hz2, hz3⟩ := hz
   cases h
   obtain ⟨C, q1, q2, q3⟩ := hc.ex
   refine ⟨G₀, H₀, G, ρ, d, A, hd, fun v G1 H1 s1 r1 => ?_⟩
   have A1 := A.step s1
   obtain ⟨w, fp, h1, h2⟩ := A1.get hi
   cases h2 with
   | obj g1 g2 g3 g4 g5 g6 g7 =>
    rename_i a C' dx vs
    have g1' := g1
    rw [q1] at g1
    cases g1
    have hl : vs.lookup fl = none := by
     rcases zcr (k := fl) g5 g6 with ⟨_, z2⟩ | ⟨d', v', z1, _, _⟩
     ·exact z2
     ·rw [z1] at hz2; cases hz2
    have hlen : vs.length = fs.length := by simpa using congrArg List.length g5
    refine ⟨_, h1, a, C, dx, vs, rfl, g4, q2, q3 fl hf, by omega, ?_⟩
    rw [zhK hl]
    refine k σ G1 _ s1.gg (A1.ch hi h1 (.obj g1' g2 g3 g4 g5 g6 g7) (fun b o e hb => ?_) (.obj (vs := vs ++ [(fl, v)]) g1' g2 g3 zaC (by simp [g5]) (by simpa using g6.append (.cons r1 .nil)) g7) (fun b hb => .inl hb) (.refl _) (fun b o e => ?_) (fun _ _ _ _ => rfl))
    ·rw [zaw (fun z => hb (List.mem_singleton.mpr z))]; exact e
    ·rw [zaw (zap e g3)]; exact A1.gh b o e
  ·cases h
 ·cases h⟩
def zqG (c f : Str) (i : Nat) : FS := fun ρ => match ρ[i]? with
 | some (some (.obj c' fs)) => if c' = c /\ fs.lookup f = none /\ fs.length < 100 then some (.nx, ρ.set i (some (.objd c fs f []))) else none
 | _ => none
theorem zr7 (i : Nat) (hc : CF Γ X.K cl attrs) (hf : fl ∈ attrs) {vp dp : Pos} (hN : X.N[i]? = some x := by rfl) (hv : Vis X.env.scope x := by first | exact Or.inl rfl | exact Or.inr (Or.inl rfl) | exact Or.inr (Or.inr rfl)) (hd : (x == ("__debug__" : Str)) = false := by decide)
  (hcd : (x == ("__classdict__" : Str)) = false := by decide) (hs : swapsWith (.Dict [] [] dp) (some (.Attribute (.Name x vp) fl pos')) pos.line X.env = pure false := by rfl) : DS Γ X (.Assign [.Attribute (.Name x vp) fl pos'] (.Dict [] [] dp) pos) (zqG cl fl i) := ⟨(zow (zd5 hN hv hd hcd) znB hs).imp fun E σ H => by
 rintro ⟨G₀, H₀, G, ρ, flw, ρ', A, h, k⟩ p hp
 unfold zqG at h
 split at h
 ·rename_i c' fs hi
  split at h
  ·rename_i hz
   obtain ⟨rfl, hz2, hz3⟩ := hz
   cases h
   obtain ⟨C, q1, q2, q3⟩ := hc.ex
   obtain ⟨w, fp, h1, h2⟩ := A.get hi
   cases h2 with
   | obj g1 g2 g3 g4 g5 g6 g7 =>
    rename_i a C' dx vs
    have g1' := g1
    rw [q1] at g1
    cases g1
    have hl : vs.lookup fl = none := by
     rcases zcr (k := fl) g5 g6 with ⟨_, z2⟩ | ⟨d', v', z1, _, _⟩
     ·exact z2
     ·rw [z1] at hz2; cases hz2
    have hlen : vs.length = fs.length := by simpa using congrArg List.length g5
    have npa : a ≠ p := zap g4 hp
    refine ⟨_, h1, a, C, dx, vs, rfl, by rw [zaw npa]; exact g4, q2, q3 fl hf, by omega, ?_⟩
    rw [zhK hl]
    have hp0 : H₀ p = none := A.st.hh.free hp
    have hpg : G p = none := A.gh.free hp
    refine k σ G _ (.refl _) (A.ch hi h1 (.obj g1' g2 g3 g4 g5 g6 g7) (fun b o e hb => ?_) (.objd (vs := vs) (p := p) (us := []) (kvs := []) g1' g2 g3 zaC g5 g6 hp0 hpg (by rw [zaw npa.symm, zaC]) rfl .nil g7) (fun b hb => ?_) (.refl _) (fun b o e => ?_) (fun _ _ _ _ => rfl))
    ·rw [zaw (fun z => hb (List.mem_singleton.mpr z)), zaw (zap e hp)]; exact e
    ·rcases List.mem_cons.mp hb with rfl | hb
     ·exact .inl (List.mem_singleton.mpr rfl)
     ·rw [List.mem_singleton.mp hb]; exact .inr hp
    ·rw [zaw (zap e g3), zaw (zap e hpg)]; exact A.gh b o e
  ·cases h
 ·cases h⟩
def zc4 (c f : Str) (i : Nat) (fk fv : FE) : FS := fun ρ => (fv ρ).bind fun d => (fk ρ).bind fun kd => (zmv kd).bind fun k => match ρ[i]? with
 | some (some (.objd c' fs n kvs)) => if c' = c /\ n = f /\ fs.lookup f = none /\ kvs.length < 100000 then some (.nx, ρ.set i (some (.objd c fs n (zhJ kvs k d)))) else none
 | _ => none
theorem zlY {vs : List (Str × V)} {f : Str} {w : V} (h : vs.lookup f = none) : (vs ++ [(f, w)]).lookup f = some w := by
 induction vs with
 | nil => simp [List.lookup]
 | cons p r ih =>
  obtain ⟨g, x⟩ := p
  by_cases e : f = g
  ·subst e; simp [List.lookup] at h
  ·have hb : (f == g) = false := by simpa using e
   simp only [List.cons_append, List.lookup, hb] at h ⊢
   exact ih h
theorem zmr (i : Nat) (hu : X.A.units + 66 < cLine) (hc : CF Γ X.K cl attrs) (hf : fl ∈ attrs) {vp ap : Pos} {ke : Expr} (hk : DE Γ X ke fk) (hv' : DE Γ X value fv) (hN : X.N[i]? = some x := by rfl) (hv : Vis X.env.scope x := by first | exact Or.inl rfl | exact Or.inr (Or.inl rfl) | exact Or.inr (Or.inr rfl)) (hd : (x == ("__debug__" : Str)) = false := by decide)
  (hcd : (x == ("__classdict__" : Str)) = false := by decide) (hb : attributeBase (.Name x vp) fl X.env (eval (.Name x vp) X.env) = eval (.Name x vp) X.env := by rfl) (hs : swapsWith value (some (.Subscript (.Attribute (.Name x vp) fl ap) ke pos')) pos.line X.env = pure false := by rfl) :
  DS Γ X (.Assign [.Subscript (.Attribute (.Name x vp) fl ap) ke pos'] value pos) (zc4 cl fl i fk fv) := ⟨(zlz (by omega) (zlE (zd5 hN hv hd hcd) hb) hk.1 hv'.1 hs).imp fun E σ H => by
 rintro ⟨G₀, H₀, G, ρ, flw, ρ', A, h, k⟩
 unfold zc4 at h
 obtain ⟨d, hd, ha⟩ := oBd h
 clear h
 obtain ⟨kd, hkd, hb1⟩ := oBd ha
 clear ha
 obtain ⟨kk, hkk, hq⟩ := oBd hb1
 clear hb1
 split at hq
 ·rename_i c' fs n kvs hi
  split at hq
  ·rename_i hz
   obtain ⟨rfl, rfl, hz2, hz3⟩ := hz
   cases hq
   obtain ⟨C, q1, q2, q3⟩ := hc.ex
   refine ⟨G₀, H₀, G, ρ, d, A, hd, fun v G1 H1 s1 r1 => ?_⟩
   have A1 := A.step s1
   obtain ⟨w, fp, h1, h2⟩ := A1.get hi
   cases h2 with
   | objd g1 g2 g3 g4 g5 g6 y1 y2 y3 y4 y5 g7 =>
    rename_i a C' dx p vs us
    have g1' := g1
    rw [q1] at g1
    cases g1
    have hl : vs.lookup n = none := by
     rcases zcr (k := n) g5 g6 with ⟨_, z2⟩ | ⟨d', v', z1, _, _⟩
     ·exact z2
     ·rw [z1] at hz2; cases hz2
    refine ⟨_, h1, a, C, dx, _, .ref p, rfl, g4, q2, q3 n hf, zlY hl, G₀, H₀, G1, ρ, kd, A1, hkd, fun u G2 H2 s2 r2 => ?_⟩
    have A2 := A1.step s2
    have eu := zgs r2 hkk
    subst eu
    have hp2 : H2 p = some (.dK us) := s2.hh _ _ y3
    have ha2 : H2 a = some (.ins C dx (vs ++ [(n, .ref p)])) := s2.hh _ _ g4
    have ga2 : G2 a = none := (s2.out _ _ g4).trans g3
    have gp2 : G2 p = none := (s2.out _ _ y3).trans y2
    have npa : a ≠ p := zpQ ha2 hp2 (by intro z; cases z)
    have hlen : us.length = kvs.length := by simpa using congrArg List.length y4
    obtain ⟨w1, w2⟩ := zkm (k := kk) (r1.mono s2.gg) y4 (y5.mono s2.gg)
    refine ⟨p, _, rfl, zol.k hp2 (by have := sizeLine_eq; omega), ?_⟩
    refine k σ G2 _ (s1.gg.trans s2.gg) (A2.ch hi h1 (.objd g1' g2 ga2 ha2 g5 (g6.mono s2.gg) y1 gp2 hp2 y4 (y5.mono s2.gg) g7) (fun b o e hb => ?_) (.objd (p := p) g1' g2 ga2 (by rw [zaw npa]; exact ha2) g5 (g6.mono s2.gg) y1 gp2 zaC w1 w2 g7) (fun b hb => .inl hb) (.refl _) (fun b o e => ?_) (fun _ _ _ _ => rfl))
    ·rw [zaw (fun z => hb (by rw [z]; exact qg _ qf))]; exact e
    ·rw [zaw (zap e gp2)]; exact A2.gh b o e
  ·cases hq
 ·cases hq⟩
def zln : Slot -> Option D
 | .obj c fs => some (.ins c fs)
 | .objd c fs n kvs => some (.ins c (fs ++ [(n, .dk kvs)]))
 | _ => none
theorem At.done {K : PySem.W.Frag} {G₀ H₀ G H : Hp} {ρ : zaX} {σ : St} (A : At Γ K G₀ H₀ G H ρ σ) {i : Nat} {s : Slot} {d : D} (hi : ρ[i]? = some (some s)) (hd : zln s = some d) : ∃ a G', Γ.self = some a /\ Step G₀ H₀ G' H /\ Rep Γ K G' (.ref a) d := by
 obtain ⟨v, fp, h1, h2⟩ := A.get hi
 cases h2 with
 | sh _ => cases hd
 | own _ _ _ _ => cases hd
 | odk _ _ _ _ _ => cases hd
 | odt _ _ _ _ _ => cases hd
 | tlo _ _ _ _ _ _ => cases hd
 | pin _ => cases hd
 | obj g1 g2 g3 g4 g5 g6 g7 =>
  cases hd
  rename_i a C dx vs fs
  have sm : zca G (upd G a (.ins C dx vs)) := fun b o e => by rw [zaw (zap e g3)]; exact e
  refine ⟨a, upd G a (.ins C dx vs), g7, ⟨A.st.hh, A.st.gg.trans sm, fun b o e => ?_, fun b o e => ?_⟩, .ins zaC g1 g5 (g6.mono sm)⟩
  ·by_cases hb : b = a
   ·subst hb; rw [zaC] at e; cases e; exact g4
   ·rw [zaw hb] at e; exact A.gh b o e
  ·rw [zaw (zap e g2)]; exact A.st.out b o e
 | objd g1 g2 g3 g4 g5 g6 y1 y2 y3 y4 y5 g7 =>
  cases hd
  rename_i n a C dx p vs fs us kvs
  have npa : a ≠ p := zpQ g4 y3 (by intro z; cases z)
  have sm : zca G (upd (upd G p (.dK us)) a (.ins C dx (vs ++ [(n, .ref p)]))) := fun b o e => by rw [zaw (zap e g3), zaw (zap e y2)]; exact e
  refine ⟨a, _, g7, ⟨A.st.hh, A.st.gg.trans sm, fun b o e => ?_, fun b o e => ?_⟩, .ins (us := vs ++ [(n, .ref p)]) (fs := fs ++ [(n, .dk kvs)]) zaC g1 (by simp [g5]) ?_⟩
  ·by_cases hb : b = a
   ·subst hb; rw [zaC] at e; cases e; exact g4
   ·rw [zaw hb] at e
    by_cases hb' : b = p
    ·subst hb'; rw [zaC] at e; cases e; exact y3
    ·rw [zaw hb'] at e; exact A.gh b o e
  ·rw [zaw (zap e g2), zaw (zap e y1)]; exact A.st.out b o e
  ·have r2 : Rep Γ K (upd (upd G p (.dK us)) a (.ins C dx (vs ++ [(n, .ref p)]))) (.ref p) (.dk kvs) := .dk (us := us) (by rw [zaw npa.symm, zaC]) y4 (y5.mono sm)
   simpa using (g6.mono sm).append (.cons r2 .nil)
end
end L2
end
section
namespace L2
open PySem PySem.Spec PyProof.Rows
def Cn.mk1 (Γ : Cn) (x : Addr) : Cn := ⟨Γ.cls, some x⟩
section
variable {Γ : Cn} {P : Program} {w : World} {K : PySem.W.Frag} {mg : Str -> Option Value} {base : Heap} {c : Str} {attrs : List Str} {x : Addr}
theorem Rep.to1 {G : Hp} {v : V} {d : D} (x : Addr) (r : Rep Γ K G v d) : Rep (Γ.mk1 x) K G v d := Rep.re (Γ := Γ) (Γ' := Γ.mk1 x) rfl r
theorem Rep.of1 {G : Hp} {v : V} {d : D} {x : Addr} (r : Rep (Γ.mk1 x) K G v d) : Rep Γ K G v d := Rep.re (Γ := Γ.mk1 x) (Γ' := Γ) rfl r
theorem Reps.of1 {G : Hp} {v : List V} {d : List D} {x : Addr} (r : Reps (Γ.mk1 x) K G v d) : Reps Γ K G v d := Reps.re (Γ := Γ.mk1 x) (Γ' := Γ) rfl r
theorem CF.re (h : CF Γ K c attrs) (x : Addr) : CF (Γ.mk1 x) K c attrs := ⟨h.ex⟩
theorem zqZ {n : Nat} {F : List D -> Option D} {vs : List V} {H : Hp} {Q : VK} {E : XK} (x : Addr) (h : spF (Γ.mk1 x) K n F vs H Q E) : spF Γ K n F vs H Q E := by
 obtain ⟨G, ds, d, h1, h2, h3, h4, k⟩ := h
 exact ⟨G, ds, d, h1, h2.of1, h3, h4, fun v G' H' s r => k v G' H' s (r.to1 x)⟩
theorem Cal.re {y : Str} {n k : Nat} {F : List D -> Option D} (C : Cal Γ P w K mg base y n k F) (x : Addr) : Cal (Γ.mk1 x) P w K mg base y n k F := by
 obtain ⟨f, fd, ps, h1, h2, h3, h4⟩ := C.ex
 exact ⟨f, fd, ps, h1.imp fun vs H Q E q => zqZ x q, h2, h3, h4⟩
structure CalM (Γ : Cn) (P : Program) (w : World) (K : PySem.W.Frag) (mg : Str -> Option Value) (base : Heap) (c m : Str) (n k : Nat) (F : List D -> Option D) : Prop where
 ex : ∃ C f fd ps, Γ.cls c = some C /\ Cls K C /\ Meth K C m f /\ FnOk P w K mg base CX0 k f fd ps (spF Γ K n F) /\ zdR K fd ps []
def spI (Γ : Cn) (K : PySem.W.Frag) (C : Addr) (n : Nat) (F : List D -> Option D) : Sp := fun vs H Q _ => ∃ x dx H1 G ds d us, vs = .ref x :: us /\ H = upd (upd H1 dx (.own x)) x (.ins C dx []) /\ H1 x = none /\ H1 dx = none /\ dx ≠ x /\ zca G H1 /\ Reps Γ K G us ds /\ ds.length = n /\ F ds = some d /\
 ∀ G' H', Step G H1 G' H' -> Rep Γ K G' (.ref x) d -> Q .non H'
structure CalI (Γ : Cn) (P : Program) (w : World) (K : PySem.W.Frag) (mg : Str -> Option Value) (base : Heap) (c : Str) (n k : Nat) (F : List D -> Option D) : Prop where
 ex : ∃ C f fd ps, Γ.cls c = some C /\ Mk K C f /\ mg c = some (.ref C) /\ FnOk P w K mg base CX0 k f fd ps (spI Γ K C n F) /\ zdR K fd ps []
end
section
variable {Γ : Cn} {X : Cx} {e o : Expr} {es : List Expr} {fo : FE} {fr : FA} {pos p apos : Pos} {c m : Str}
def zga (c m : Str) (F : List D -> Option D) (fo : FE) (fr : FA) : FE := fun ρ => (fo ρ).bind fun d => match d with
 | .ins c' fs => if c' = c /\ fs.lookup m = none then (fr ρ).bind fun ds => F (d :: ds) else none
 | _ => none
theorem zti {n k j : Nat} {F : List D -> Option D} {pl : Sem Bool} (C : CalM Γ X.prog X.w X.K X.mg X.base c m (n + 1) k F) (hr : Room j X.A) (hk : k <= j) (ho : DE Γ X o fo) (ha : DA Γ X (e :: es) fr) (hn : ∀ ρ ds, fr ρ = some ds -> ds.length = n)
  (hst : starEach (e :: es) X.env = (false, eval e X.env) :: starEach es X.env := by rfl) (hpl : (backTo pos (starEach es X.env)).any (·.1) = false := by rfl)
  (ht : eval (.Call (.Attribute o m apos) (e :: es) [] pos) X.env = (do
   let ov ← eval o X.env
   standAt apos.atName
   let (f, first) ← holding [ov] (getMethod ov m pl)
   callWith pos f first (backTo pos (starEach (e :: es) X.env)) (backToKw pos (keywordEach [] X.env))) := by rfl) :
  DE Γ X (.Call (.Attribute o m apos) (e :: es) [] pos) (zga c m F fo fr) := ⟨by
 obtain ⟨Ca, f, fd, ps, h0, h1, h2, h3, h4⟩ := C.ex
 refine (zpw ho.1 h1 h2 h3 (hr.mono hk) h4 .nil zlH ha.1 hst hpl ht).imp fun σ H Q => ?_
 rintro ⟨G₀, H₀, G, ρ, d, A, h, k⟩
 unfold zga at h
 obtain ⟨x, hx, hq⟩ := oBd h
 clear h
 refine ⟨G₀, H₀, G, ρ, x, A, hx, fun v G1 H1 s1 r1 => ?_⟩
 split at hq
 ·rename_i c' fs
  split at hq
  ·rename_i hz
   obtain ⟨rfl, hz2⟩ := hz
   obtain ⟨ds, hds, hF⟩ := oBd hq
   have r1' := r1
   cases r1 with
   | ins g1 g2 g3 g4 =>
    rw [h0] at g2
    cases g2
    rename_i _ _ us0
    have hl : List.lookup m us0 = none := by
     rcases zcr (k := m) g3 g4 with ⟨_, z2⟩ | ⟨d', v', z1, _, _⟩
     ·exact z2
     ·rw [z1] at hz2; cases hz2
    refine ⟨_, _, _, rfl, s1.gh _ _ g1, hl, G₀, H₀, G1, ρ, ds, A.step s1, hds, fun vs G2 H2 s2 r2 => ?_⟩
    show spF Γ X.K (n + 1) F (_ :: (vs ++ [])) H2 Q E0
    rw [List.append_nil]
    exact ⟨G2, _, d, s2.gh, .cons (r1'.mono s2.gg) r2, by rw [qh, hn ρ ds hds], hF, fun v G' H' s r => k v G' H' ((s1.trans s2).trans s) r⟩
  ·cases hq
 ·cases hq⟩
theorem zh0 {k j : Nat} {F : List D -> Option D} {pl : Sem Bool} (C : CalM Γ X.prog X.w X.K X.mg X.base c m 1 k F) (hr : Room j X.A) (hk : k <= j) (ho : DE Γ X o fo)
  (ht : eval (.Call (.Attribute o m apos) [] [] pos) X.env = (do
   let ov ← eval o X.env
   standAt apos.atName
   let (f, first) ← holding [ov] (getMethod ov m pl)
   callWith pos f first (backTo pos (starEach [] X.env)) (backToKw pos (keywordEach [] X.env))) := by rfl) :
  DE Γ X (.Call (.Attribute o m apos) [] [] pos) (zga c m F fo zai) := ⟨by
 obtain ⟨Ca, f, fd, ps, h0, h1, h2, h3, h4⟩ := C.ex
 refine (znz ho.1 h1 h2 h3 (hr.mono hk) h4 .nil zlH ht).imp fun σ H Q => ?_
 rintro ⟨G₀, H₀, G, ρ, d, A, h, k⟩
 unfold zga at h
 obtain ⟨x, hx, hq⟩ := oBd h
 clear h
 refine ⟨G₀, H₀, G, ρ, x, A, hx, fun v G1 H1 s1 r1 => ?_⟩
 split at hq
 ·rename_i c' fs
  split at hq
  ·rename_i hz
   obtain ⟨rfl, hz2⟩ := hz
   obtain ⟨ds, hds, hF⟩ := oBd hq
   cases hds
   have r1' := r1
   cases r1 with
   | ins g1 g2 g3 g4 =>
    rw [h0] at g2
    cases g2
    rename_i _ _ us0
    have hl : List.lookup m us0 = none := by
     rcases zcr (k := m) g3 g4 with ⟨_, z2⟩ | ⟨d', v', z1, _, _⟩
     ·exact z2
     ·rw [z1] at hz2; cases hz2
    refine ⟨_, _, _, rfl, s1.gh _ _ g1, hl, ?_⟩
    exact ⟨G1, _, d, s1.gh, .cons r1' .nil, rfl, hF, fun v G' H' s r => k v G' H' (s1.trans s) r⟩
  ·cases hq
 ·cases hq⟩
theorem zqq {n k j : Nat} {F : List D -> Option D} (C : CalI Γ X.prog X.w X.K X.mg X.base c n k F) (hr : Room j X.A) (hk : k + 1 <= j) (hg : Gl X c) (ha : DA Γ X (e :: es) fr) (hn : ∀ ρ ds, fr ρ = some ds -> ds.length = n)
  (hdb : (c == ("__debug__" : Str)) = false := by decide) (he : starEach (e :: es) X.env = (false, eval e X.env) :: starEach es X.env := by rfl) (hpl : (backTo pos (starEach es X.env)).any (·.1) = false := by rfl) :
  DE Γ X (.Call (.Name c p) (e :: es) [] pos) (cF F fr) := ⟨by
 obtain ⟨Ca, f, fd, ps, h0, h1, h2, h3, h4⟩ := C.ex
 refine (zpy h1 h3 (hr.mono hk) hg h2 h4 .nil zlH ha.1 hdb he hpl).imp fun σ H Q => ?_
 rintro ⟨G₀, H₀, G, ρ, d, A, h, k⟩
 unfold cF at h
 obtain ⟨ds, hd, hq⟩ := oBd h
 refine ⟨G₀, H₀, G, ρ, ds, A, hd, fun vs G1 H1 s1 r1 x dx hx hdx hne => ?_⟩
 rw [List.append_nil]
 exact ⟨x, dx, H1, G1, ds, d, vs, rfl, rfl, hx, hdx, hne, s1.gh, r1, hn ρ ds hd, hq, fun G' H' s r => ⟨rfl, k _ G' H' (s1.trans s) r⟩⟩⟩
end
def zqI (n : Nat) (c : Str) (g : FS) : List D -> Option D := fun ds => (g (some (.obj c []) :: ds.map (fun d => some (Slot.sh d)) ++ List.replicate n none)).bind fun r => match r.1 with
 | .nx => match r.2[0]? with
  | some (some s) => zln s
  | _ => none
 | _ => none
section
variable {Γ : Cn} {P : Program} {w : World} {K : PySem.W.Frag} {mg : Str -> Option Value} {base : Heap} {c : Str} {attrs : List Str}
theorem Fun.okI {x qual : Str} {st : Stmt} {f C : Addr} {fd : FuncData} {N ps : List Str} {s0 : Str} {k : Nat} {g : FS} (F : Fun K x qual st f fd) (S : FnScope N (s0 :: ps) (zal st)) (hC : Γ.cls c = some C)
  (hbody : ∀ (y : Addr) (cdv : Value) (A : Around) (outer : List Env) (s : Shared) (H : Hp) (E : XK), Room k (A.deeper (envOfC qual (zal st) s.heap.objs.size f cdv)) ->
   DSs (Γ.mk1 y) (zkz CX0 P w K mg base N qual (zal st) f cdv A outer s H E).nox (zbh st) g) : FnOk P w K mg base CX0 (k + 1) f fd (s0 :: ps) (spI Γ K C ps.length (zqI (N.length - (ps.length + 1)) c g)) := by
 refine F.ok S (fun vs H Q E h => ?_) (fun cdv A outer s H vs Q E hr h => ?_)
 ·obtain ⟨y, dx, H1, G, ds, d, us, rfl, _, _, _, _, _, r, hl, _⟩ := h
  rw [qh, r.length, hl, qh]
 ·obtain ⟨y, dx, H1, G, ds, d, us, rfl, rfl, hx, hdx, hne, gh, r, hl, hd, k⟩ := h
  refine ⟨_, (hbody y cdv A outer s _ E hr).1, ?_⟩
  unfold zqI at hd
  obtain ⟨⟨fl, ρ'⟩, hg, hd⟩ := oBd hd
  have s1 := Step.newOwn (o := .own y) gh hdx
  have hx1 : (upd H1 dx (.own y)) y = none := by rw [zaw (Ne.symm hne)]; exact hx
  have s2 := s1.trans (Step.newOwn (o := .ins C dx []) s1.gh hx1)
  have hlen : us.length = ds.length := r.length
  have A0 : At (Γ.mk1 y) K G H1 G (upd (upd H1 dx (.own y)) y (.ins C dx [])) (some (.obj c []) :: ds.map (fun d => some (Slot.sh d)) ++ List.replicate (N.length - (ps.length + 1)) none) (zeF N (.ref y :: us)) := by
   refine ⟨s2, by simp [zeF, hlen, hl], fun i => if i = 0 then [y] else [], fun i t e => ?_, fun i j t u hij e1 e2 b hb => ?_⟩
   ·cases i with
    | zero =>
     cases e
     exact ⟨.ref y, rfl, .obj (vs := []) (fs := []) hC hx (gh.free hx) zaC rfl .nil rfl⟩
    | succ i =>
     have e : (ds.map (fun d => some (Slot.sh d)) ++ List.replicate (N.length - (ps.length + 1)) none)[i]? = some (some t) := e
     by_cases hi : i < ds.length
     ·rw [qv (by simpa using hi), qj] at e
      obtain ⟨d', hd', e⟩ := oMd e
      cases e
      obtain ⟨v, hv, rv⟩ := r.get hd'
      refine ⟨v, ?_, .sh (rv.to1 y)⟩
      unfold zeF
      show ((us.map some) ++ _)[i]? = some (some v)
      rw [qv (by rw [qe, hlen]; exact hi), qj, hv]
      rfl
     ·rw [List.getElem?_append_right (by simpa using hi), List.getElem?_replicate] at e
      split at e <;> cases e
   ·have hb : b ∈ (if i = 0 then [y] else []) := hb
    show b ∉ (if j = 0 then [y] else [])
    by_cases hi : i = 0
    ·subst hi
     rw [if_neg (Ne.symm hij)]
     exact fun z => by cases z
    ·rw [if_neg hi] at hb; cases hb
  refine ⟨G, H1, G, _, fl, ρ', A0, hg, fun σ' G' H' sm A' => ?_⟩
  cases fl with
  | nx =>
   simp only at hd
   split at hd
   ·rename_i sl hs
    obtain ⟨a, G2, e1, st2, rp⟩ := A'.done hs hd
    cases e1
    exact k G2 H' st2 rp.of1
   ·cases hd
  | rt d' => cases hd
  | ow d' => cases hd
  | nw d' => cases hd
  | od d' => cases hd
  | bk => cases hd
  | ct => cases hd
structure DfnM (K : PySem.W.Frag) (C : Addr) (c m qual : Str) (st : Stmt) : Prop where
 ex : ∃ f fd, Fun K m qual st f fd /\ PySem.W.findIn K (.ref C) m = some (some (.ref f)) /\ PySem.W.isFn K (.ref f) = true
structure ClsOk (Γ : Cn) (K : PySem.W.Frag) (mg : Str -> Option Value) (c : Str) (C : Addr) : Prop where
 cn : Γ.cls c = some C
 cl : Cls K C
 mgC : mg c = some (.ref C)
 makes : PySem.W.makesIn K C = true
 kp : PySem.W.keepIn K (.ref C) = true
theorem DfnM.cal {m qual : Str} {C : Addr} {st : Stmt} {N ps : List Str} {k : Nat} {g : FS} (O : ClsOk Γ K mg c C) (F : DfnM K C c m qual st) (S : FnScope N ps (zal st))
  (hb : ∀ (kV doc pm : Value) (an : Option Addr) (cdv ct : Value) (us : List Value), us.length = ps.length -> bindArgs (PySem.W.fnOf m qual (zcB st) (zbh st) (zal st) .none kV doc pm an cdv ct) ⟨us, []⟩ = pure (ps.zip us))
  (hbody : ∀ (f : Addr) (cdv : Value) (A : Around) (outer : List Env) (s : Shared) (H : Hp) (E : XK), Room k (A.deeper (envOfC qual (zal st) s.heap.objs.size f cdv)) ->
   DSs Γ (zkz CX0 P w K mg base N qual (zal st) f cdv A outer s H E).nox (zbh st) g) : CalM Γ P w K mg base c m ps.length (k + 1) (zbW (N.length - ps.length) g) := by
 obtain ⟨f, fd, h1, h2, h3⟩ := F.ex
 exact ⟨C, f, fd, ps, O.cn, O.cl, ⟨h2, h3, h1.kp⟩, h1.okD S (hbody f), h1.binds hb⟩
theorem DfnM.calI {qual : Str} {C : Addr} {st : Stmt} {N ps : List Str} {s0 : Str} {k : Nat} {g : FS} (O : ClsOk Γ K mg c C) (F : DfnM K C c "__init__" qual st) (S : FnScope N (s0 :: ps) (zal st))
  (hb : ∀ (kV doc pm : Value) (an : Option Addr) (cdv ct : Value) (us : List Value), us.length = (s0 :: ps).length -> bindArgs (PySem.W.fnOf "__init__" qual (zcB st) (zbh st) (zal st) .none kV doc pm an cdv ct) ⟨us, []⟩ = pure ((s0 :: ps).zip us))
  (hbody : ∀ (f y : Addr) (cdv : Value) (A : Around) (outer : List Env) (s : Shared) (H : Hp) (E : XK), Room k (A.deeper (envOfC qual (zal st) s.heap.objs.size f cdv)) ->
   DSs (Γ.mk1 y) (zkz CX0 P w K mg base N qual (zal st) f cdv A outer s H E).nox (zbh st) g) : CalI Γ P w K mg base c ps.length (k + 1) (zqI (N.length - (ps.length + 1)) c g) := by
 obtain ⟨f, fd, h1, h2, h3⟩ := F.ex
 exact ⟨C, f, fd, s0 :: ps, O.cn, ⟨O.makes, h2, h3, O.kp⟩, O.mgC, h1.okI S O.cn (hbody f), h1.binds hb⟩
theorem ClsOk.cf {C : Addr} (O : ClsOk Γ K mg c C) (h : ∀ f ∈ attrs, zfA K C f) : CF Γ K c attrs := ⟨C, O.cn, O.cl, h⟩
end
end L2
end
section
namespace ST
open PySem
structure Pr where
 j : Nat
 more : Nat
 i : Nat
 pt : Nat
def adv (M : Nat) (p : Pr) : Pr := if p.more > 0 then { p with j := p.j + 1, more := p.more - 1 } else
 { j := (SetTable.leap M p.i p.pt).1, more := SetTable.runEnd M (SetTable.leap M p.i p.pt).1 - (SetTable.leap M p.i p.pt).1, i := (SetTable.leap M p.i p.pt).1, pt := (SetTable.leap M p.i p.pt).2 }
def st0 (M : Nat) (h : Int) : Pr := { j := SetTable.bits h % (M + 1), more := SetTable.runEnd M (SetTable.bits h % (M + 1)) - SetTable.bits h % (M + 1), i := SetTable.bits h % (M + 1), pt := SetTable.bits h }
def it (M : Nat) (h : Int) : Nat -> Pr
 | 0 => st0 M h
 | n + 1 => adv M (it M h n)
def J (M : Nat) (h : Int) (n : Nat) : Nat := (it M h n).j
def lp (M : Nat) (h : Int) : Nat -> Nat × Nat
 | 0 => (SetTable.bits h % (M + 1), SetTable.bits h)
 | r + 1 => SetTable.leap M (lp M h r).1 (lp M h r).2
def zjU (M : Nat) (x : Nat × Nat) : Pr := { j := x.1, more := SetTable.runEnd M x.1 - x.1, i := x.1, pt := x.2 }
theorem zko (M : Nat) (h : Int) (n : Nat) : ∀ k, it M h (n + k) = (Nat.repeat (adv M) k (it M h n))
 | 0 => rfl
 | k + 1 => by rw [← Nat.add_assoc, it, zko M h n k]; rfl
theorem zpb (M i : Nat) : SetTable.runEnd M i - i <= 9 := by
 unfold SetTable.runEnd
 split <;> omega
theorem znf (M : Nat) : ∀ (k : Nat) (p : Pr), k <= p.more -> Nat.repeat (adv M) k p = { p with j := p.j + k, more := p.more - k }
 | 0, p, _ => rfl
 | k + 1, p, h => by
  rw [Nat.repeat, znf M k p (by omega)]
  unfold adv
  rw [if_pos (by show p.more - k > 0; omega)]
  simp only [Nat.sub_sub, Nat.add_assoc]
theorem zot (M : Nat) (h : Int) : ∀ r, ∃ n, n <= 10 * r /\ it M h n = zjU M (lp M h r)
 | 0 => ⟨0, qt _, rfl⟩
 | r + 1 => by
  obtain ⟨n, hn, e⟩ := zot M h r
  have hl := zpb M (lp M h r).1
  refine ⟨n + (SetTable.runEnd M (lp M h r).1 - (lp M h r).1) + 1, by omega, ?_⟩
  have e2 := znf M (SetTable.runEnd M (lp M h r).1 - (lp M h r).1) (zjU M (lp M h r)) (qt _)
  rw [it, zko, e, e2]
  unfold adv
  rw [if_neg (by show ¬ ((SetTable.runEnd M (lp M h r).1 - (lp M h r).1) - (SetTable.runEnd M (lp M h r).1 - (lp M h r).1) > 0); omega)]
  rfl
theorem zqz (h : Int) : SetTable.bits h < 2 ^ 64 := by
 unfold SetTable.bits
 have h1 := Int.emod_nonneg h (show (2 ^ 64 : Int) ≠ 0 by decide)
 have h2 := Int.emod_lt_of_pos h (show (0 : Int) < 2 ^ 64 by decide)
 omega
theorem zre (M : Nat) (h : Int) : ∀ r, (lp M h r).2 = SetTable.bits h / 32 ^ r
 | 0 => by simp [lp]
 | r + 1 => by
  show (lp M h r).2 / 32 = _
  rw [zre M h r, Nat.div_div_eq_div_mul, Nat.pow_succ]
theorem zpl (M : Nat) (h : Int) {r : Nat} (hr : 13 <= r) : (lp M h r).2 = 0 := by
 rw [zre]
 refine Nat.div_eq_of_lt (Nat.lt_of_lt_of_le (zqz h) ?_)
 exact Nat.le_trans (show 2 ^ 64 <= 32 ^ 13 by decide) (Nat.pow_le_pow_right (by decide) hr)
def fl (M i : Nat) : Nat := (i * 5 + 1) % (M + 1)
def orb (M : Nat) : Nat -> Nat -> Nat
 | 0, i => i
 | m + 1, i => fl M (orb M m i)
theorem zlX (M : Nat) (h : Int) : ∀ m, (lp M h (13 + m)).1 = orb M m (lp M h 13).1
 | 0 => rfl
 | m + 1 => by
  show (SetTable.leap M (lp M h (13 + m)).1 (lp M h (13 + m)).2).1 = _
  rw [zpl M h (by omega), zlX M h m]
  simp [SetTable.leap, orb, fl]
theorem zhM (M i : Nat) (a : Nat) : ∀ b, orb M (a + b) i = orb M b (orb M a i)
 | 0 => rfl
 | b + 1 => by rw [← Nat.add_assoc, orb, zhM M i a b]; rfl
def zsW (M : Nat) : Nat -> Nat -> List Nat
 | 0, _ => []
 | n + 1, i => i :: zsW M n (fl M i)
theorem zke (M : Nat) : ∀ m i, orb M (m + 1) i = orb M m (fl M i)
 | 0, _ => rfl
 | m + 1, i => by rw [orb, zke M m i]; rfl
theorem zkf (M : Nat) : ∀ (n i j : Nat), j ∈ zsW M n i -> ∃ m, m < n /\ orb M m i = j
 | 0, _, _, h => nomatch h
 | n + 1, i, j, h => by
  rcases List.mem_cons.mp h with e | h
  ·exact ⟨0, Nat.succ_pos _, e.symm⟩
  ·obtain ⟨m, hm, e⟩ := zkf M n (fl M i) j h
   exact ⟨m + 1, by omega, by rw [zke]; exact e⟩
structure Full (M : Nat) : Prop where
 all : ∀ j, j <= M -> ∃ m, m < M + 1 /\ orb M m 0 = j
 back : orb M (M + 1) 0 = 0
def chk (M : Nat) : Bool := (List.range (M + 1)).all (fun j => (zsW M (M + 1) 0).contains j) && orb M (M + 1) 0 == 0
theorem zhT {M : Nat} (h : chk M = true) : Full M := by
 unfold chk at h
 rw [Bool.and_eq_true, List.all_eq_true] at h
 refine ⟨fun j hj => ?_, by simpa using h.2⟩
 have := h.1 j (List.mem_range.mpr (by omega))
 exact zkf M (M + 1) 0 j (by simpa using this)
theorem zr3 : Full 7 := zhT (by decide +kernel)
theorem zr4 : Full 31 := zhT (by decide +kernel)
theorem zqf : Full 127 := zhT (by decide +kernel)
theorem zqe : Full 511 := zhT (by decide +kernel)
theorem Full.reach {M : Nat} (F : Full M) {i j : Nat} (hi : i <= M) (hj : j <= M) : ∃ m, m <= M /\ orb M m i = j := by
 obtain ⟨a, ha, ea⟩ := F.all i hi
 obtain ⟨b, hb, eb⟩ := F.all j hj
 by_cases h : a <= b
 ·refine ⟨b - a, by omega, ?_⟩
  rw [← ea, ← zhM, show a + (b - a) = b by omega, eb]
 ·refine ⟨M + 1 - a + b, by omega, ?_⟩
  rw [← ea, ← zhM, show a + (M + 1 - a + b) = (M + 1) + b by omega, zhM, F.back, eb]
theorem zpZ (M : Nat) (h : Int) : ∀ r, (lp M h r).1 <= M
 | 0 => Nat.lt_succ_iff.mp (Nat.mod_lt _ (Nat.succ_pos _))
 | r + 1 => Nat.lt_succ_iff.mp (Nat.mod_lt _ (Nat.succ_pos _))
theorem Full.covers {M : Nat} (F : Full M) (h : Int) {j : Nat} (hj : j <= M) : ∃ n, n < 10 * (M + 15) /\ J M h n = j := by
 obtain ⟨m, hm, e⟩ := F.reach (zpZ M h 13) hj
 obtain ⟨n, hn, en⟩ := zot M h (13 + m)
 refine ⟨n, by omega, ?_⟩
 unfold J
 rw [en]
 show (lp M h (13 + m)).1 = j
 rw [zlX, e]
theorem zrX (M : Nat) (h : Int) : ∀ n, (it M h n).j + (it M h n).more <= M
 | 0 => by
  have := zpZ M h 0
  show (lp M h 0).1 + (SetTable.runEnd M (lp M h 0).1 - (lp M h 0).1) <= M
  unfold SetTable.runEnd
  split <;> omega
 | n + 1 => by
  have ih := zrX M h n
  rw [it]
  unfold adv
  split
  ·show (it M h n).j + 1 + ((it M h n).more - 1) <= M
   omega
  ·show (SetTable.leap M (it M h n).i (it M h n).pt).1 + (SetTable.runEnd M (SetTable.leap M (it M h n).i (it M h n).pt).1 - (SetTable.leap M (it M h n).i (it M h n).pt).1) <= M
   have : (SetTable.leap M (it M h n).i (it M h n).pt).1 <= M := Nat.lt_succ_iff.mp (Nat.mod_lt _ (Nat.succ_pos _))
   unfold SetTable.runEnd
   split <;> omega
theorem ztr (M : Nat) (h : Int) (n : Nat) : J M h n <= M := Nat.le_trans (Nat.le_add_right _ _) (zrX M h n)
theorem Full.first {M : Nat} (F : Full M) (h : Int) (occ : Nat -> Bool) (hf : ∃ j, j <= M /\ occ j = false) : ∃ n, n < 10 * (M + 15) /\ occ (J M h n) = false /\ ∀ m, m < n -> occ (J M h m) = true := by
 obtain ⟨j, hj, hof⟩ := hf
 obtain ⟨n, hn, e⟩ := F.covers h hj
 have key : ∀ n, n < 10 * (M + 15) -> occ (J M h n) = false -> ∃ n, n < 10 * (M + 15) /\ occ (J M h n) = false /\ ∀ m, m < n -> occ (J M h m) = true := by
  intro n
  induction n using Nat.strongRecOn with
  | ind n ih =>
   intro hn ho
   by_cases hx : ∃ m, m < n /\ occ (J M h m) = false
   ·obtain ⟨m, hm, hm2⟩ := hx
    exact ih m hm (by omega) hm2
   ·refine ⟨n, hn, ho, fun m hm => ?_⟩
    cases q : occ (J M h m) with
    | true => rfl
    | false => exact absurd ⟨m, hm, q⟩ hx
 exact key n hn (by rw [e]; exact hof)
end ST
end
section
namespace ST
open PySem
theorem zii (xs : Array Nat) (j : Nat) (hs : xs.toList.Pairwise (· < ·)) : ∀ (fuel lo hi : Nat), hi - lo <= fuel -> lo <= hi -> hi <= xs.size -> (∀ i, i < lo -> ∀ v, xs[i]? = some v -> v < j) -> (∀ i, hi <= i -> ∀ v, xs[i]? = some v -> j <= v) ->
  (SetTable.below.go xs j fuel lo hi <= xs.size) /\ (∀ i, i < SetTable.below.go xs j fuel lo hi -> ∀ v, xs[i]? = some v -> v < j) /\ ∀ i, SetTable.below.go xs j fuel lo hi <= i -> ∀ v, xs[i]? = some v -> j <= v
 | 0, lo, hi, hf, hl, hh, h1, h2 => by
  have e : lo = hi := by omega
  subst e
  exact ⟨hh, h1, h2⟩
 | fuel + 1, lo, hi, hf, hl, hh, h1, h2 => by
  have mono : ∀ a b va vb, a < b -> xs[a]? = some va -> xs[b]? = some vb -> va < vb := fun a b va vb hab ha hb => by
   have := List.pairwise_iff_getElem.mp hs a b
   obtain ⟨a1, a2⟩ := Array.getElem?_eq_some_iff.mp ha
   obtain ⟨b1, b2⟩ := Array.getElem?_eq_some_iff.mp hb
   have q := this (by simpa using a1) (by simpa using b1) hab
   simpa [a2, b2] using q
  unfold SetTable.below.go
  by_cases hlt : lo < hi
  ·rw [if_pos hlt]
   have hm1 : lo <= (lo + hi) / 2 := by omega
   have hm2 : (lo + hi) / 2 < hi := by omega
   have hget : ∃ v, xs[(lo + hi) / 2]? = some v := ⟨xs[(lo + hi) / 2]'(by omega), by simp [show (lo + hi) / 2 < xs.size by omega]⟩
   obtain ⟨v, hv⟩ := hget
   have hd : xs.getD ((lo + hi) / 2) j = v := by simp [Array.getD_eq_getD_getElem?, hv]
   dsimp only
   rw [hd]
   by_cases hvj : v < j
   ·rw [if_pos hvj]
    refine zii xs j hs fuel _ _ (by omega) (by omega) hh (fun i hi' w hw => ?_) h2
    rcases Nat.lt_or_ge i ((lo + hi) / 2) with hi2 | hi2
    ·exact Nat.lt_trans (mono i _ w v hi2 hw hv) hvj
    ·have e : i = (lo + hi) / 2 := by omega
     subst e
     rw [hv] at hw; cases hw; exact hvj
   ·rw [if_neg hvj]
    refine zii xs j hs fuel _ _ (by omega) (by omega) (by omega) h1 fun i hi' w hw => ?_
    rcases Nat.lt_or_ge ((lo + hi) / 2) i with hi2 | hi2
    ·exact Nat.le_trans (by omega) (Nat.le_of_lt (mono _ i v w hi2 hv hw))
    ·have e : i = (lo + hi) / 2 := by omega
     subst e
     rw [hv] at hw; cases hw; omega
  ·rw [if_neg hlt]
   have e : lo = hi := by omega
   subst e
   exact ⟨hh, h1, h2⟩
theorem zih (xs : Array Nat) (j : Nat) (hs : xs.toList.Pairwise (· < ·)) : SetTable.below xs j <= xs.size /\ (∀ i, i < SetTable.below xs j -> ∀ v, xs[i]? = some v -> v < j) /\ ∀ i, SetTable.below xs j <= i -> ∀ v, xs[i]? = some v -> j <= v :=
 zii xs j hs xs.size 0 xs.size (qt _) (Nat.zero_le _) (qt _) (fun i h => absurd h (Nat.not_lt_zero _)) fun i h v hv => by
  have := (Array.getElem?_eq_some_iff.mp hv).1
  omega
theorem zgC (xs : Array Nat) (j i : Nat) (hs : xs.toList.Pairwise (· < ·)) (h : xs[i]? = some j) : SetTable.below xs j = i := by
 obtain ⟨h0, h1, h2⟩ := zih xs j hs
 rcases Nat.lt_trichotomy (SetTable.below xs j) i with hl | hl | hl
 ·have hi := (Array.getElem?_eq_some_iff.mp h).1
  have hg : xs[SetTable.below xs j]? = some (xs[SetTable.below xs j]'(by omega)) := by simp [show SetTable.below xs j < xs.size by omega]
  have q1 := h2 _ (qt _) _ hg
  have := List.pairwise_iff_getElem.mp hs (SetTable.below xs j) i (by simp; omega) (by simpa using hi) hl
  obtain ⟨_, e⟩ := Array.getElem?_eq_some_iff.mp h
  simp only [Array.getElem_toList] at this
  omega
 ·exact hl
 ·have := h1 i hl j h
  omega
structure Tb (t : SetTable) (es : Array (Int × Value)) : Prop where
 full : Full t.mask
 sz : t.place.size = es.size
 dm : t.dummies = #[]
 ri : t.place.toList.Pairwise (· < ·)
 le : ∀ j ∈ t.place.toList, j <= t.mask
 few : es.size * 5 < t.mask * 3
 rc : ∀ (i j : Nat) (h : Int) (x : Value), t.place[i]? = some j -> es[i]? = some (h, x) -> ∃ n, J t.mask h n = j /\ ∀ m, m < n -> J t.mask h m ∈ t.place.toList
section
variable {t : SetTable} {es : Array (Int × Value)}
theorem Tb.live (T : Tb t es) {j i : Nat} (h : t.place[i]? = some j) : t.slot j = .live i := by
 unfold SetTable.slot
 rw [zgC _ _ _ T.ri h]
 simp [h]
theorem Tb.empty (T : Tb t es) {j : Nat} (h : j ∉ t.place.toList) : t.slot j = .empty := by
 unfold SetTable.slot
 have h1 : t.place[SetTable.below t.place j]? ≠ some j := fun e => h (by
  rw [← Array.getElem?_toList] at e
  exact List.mem_of_getElem? e)
 have h2 : SetTable.has t.dummies j = false := by rw [T.dm]; rfl
 simp [h1, h2]
theorem Tb.occ (T : Tb t es) {j : Nat} (h : j ∈ t.place.toList) : ∃ i : Nat, t.place[i]? = some j := by
 obtain ⟨i, hi⟩ := List.mem_iff_getElem?.mp h
 exact ⟨i, by rw [← Array.getElem?_toList]; exact hi⟩
theorem Tb.fits (T : Tb t es) : t.fits es.size = true := by
 have h1 := T.sz
 have h2 := T.few
 simp only [SetTable.fits, SetTable.fill, T.dm, Array.size_empty, Bool.and_eq_true, beq_iff_eq, decide_eq_true_eq]
 omega
theorem zfY : ∀ (a b : List Nat), a.Nodup -> (∀ x ∈ a, x ∈ b) -> a.length <= b.length
 | [], _, _, _ => Nat.zero_le _
 | x :: r, b, nd, h => by
  have hx := h x qf
  have nd' := List.nodup_cons.mp nd
  have := zfY r (b.erase x) nd'.2 fun y hy => (List.mem_erase_of_ne (show y ≠ x from fun e => nd'.1 (by rw [← e]; exact hy))).mpr (h y (qg _ hy))
  have hl := List.length_erase_of_mem hx
  have hp : 0 < b.length := List.length_pos_of_mem hx
  rw [qh]
  omega
theorem Tb.free (T : Tb t es) : ∃ j, j <= t.mask /\ decide (j ∈ t.place.toList) = false := by
 by_cases hx : ∃ j, j <= t.mask /\ j ∉ t.place.toList
 ·obtain ⟨j, h1, h2⟩ := hx
  exact ⟨j, h1, decide_eq_false h2⟩
 ·exfalso
  have all : ∀ j, j <= t.mask -> j ∈ t.place.toList := fun j hj => Classical.byContradiction fun hn => hx ⟨j, hj, hn⟩
  have h1 := zfY (List.range (t.mask + 1)) t.place.toList List.nodup_range fun j hj => all j (by have := List.mem_range.mp hj; omega)
  have h2 := T.sz
  have h3 := T.few
  simp only [List.length_range, Array.length_toList] at h1
  omega
theorem Tb.first (T : Tb t es) (h : Int) : ∃ n, n < 10 * (t.mask + 15) /\ J t.mask h n ∉ t.place.toList /\ ∀ m, m < n -> J t.mask h m ∈ t.place.toList := by
 obtain ⟨n, h1, h2, h3⟩ := T.full.first h (fun j => decide (j ∈ t.place.toList)) T.free
 exact ⟨n, h1, of_decide_eq_false h2, fun m hm => of_decide_eq_true (h3 m hm)⟩
def zcD (p : Pr) : SetTable.Probe := { j := p.j, more := p.more, i := p.i, perturb := p.pt, dummy := none }
theorem zoS (t : SetTable) (p : Pr) : t.advance (zcD p) = zcD (adv t.mask p) := by
 unfold SetTable.advance adv zcD
 by_cases h : p.more > 0
 ·simp only [h, if_true]
 ·simp only [h, if_false]
theorem Tb.probe_go (T : Tb t es) (hashAt : Nat -> Int) (h : Int) {n0 : Nat} (hf : J t.mask h n0 ∉ t.place.toList) (ho : ∀ m, m < n0 -> J t.mask h m ∈ t.place.toList) : ∀ (fuel n : Nat), n <= n0 -> n0 < n + fuel ->
  (∃ n' i, n <= n' /\ n' < n0 /\ t.place[i]? = some (J t.mask h n') /\ hashAt i = h /\ (∀ m i, n <= m -> m < n' -> t.place[i]? = some (J t.mask h m) -> hashAt i ≠ h) /\ SetTable.probe.go t hashAt h fuel (zcD (it t.mask h n)) = some (.candidate (J t.mask h n') i (zcD (it t.mask h (n' + 1))))) \/
  ((∀ m i, n <= m -> m < n0 -> t.place[i]? = some (J t.mask h m) -> hashAt i ≠ h) /\ SetTable.probe.go t hashAt h fuel (zcD (it t.mask h n)) = some (.empty (J t.mask h n0) none))
 | 0, n, h1, h2 => by omega
 | fuel + 1, n, h1, h2 => by
  unfold SetTable.probe.go
  by_cases hn : n = n0
  ·subst hn
   right
   refine ⟨fun m i a b => by omega, ?_⟩
   have hs : t.slot (zcD (it t.mask h n)).j = .empty := T.empty hf
   rw [hs]
   rfl
  ·obtain ⟨i, hi⟩ := T.occ (ho n (by omega))
   have hs : t.slot (zcD (it t.mask h n)).j = .live i := T.live hi
   rw [hs]
   dsimp only
   by_cases hh : hashAt i = h
   ·left
    refine ⟨n, i, qt _, by omega, hi, hh, fun m i a b => by omega, ?_⟩
    rw [if_pos (by simpa using hh), zoS]
    rfl
   ·rw [if_neg (by simpa using hh), zoS]
    have inj : ∀ i', t.place[i']? = some (J t.mask h n) -> i' = i := fun i' h' => by
     rw [← zgC _ _ _ T.ri h', ← zgC _ _ _ T.ri hi]
    have ext : ∀ {b : Nat}, (∀ m i, n + 1 <= m -> m < b -> t.place[i]? = some (J t.mask h m) -> hashAt i ≠ h) -> ∀ m i, n <= m -> m < b -> t.place[i]? = some (J t.mask h m) -> hashAt i ≠ h := fun {b} q m i' a c d => by
     by_cases e : m = n
     ·subst e
      rw [inj i' d]; exact hh
     ·exact q m i' (by omega) c d
    rcases T.probe_go hashAt h hf ho fuel (n + 1) (by omega) (by omega) with ⟨n', i', a, b, c, d, e, f⟩ | ⟨e, f⟩
    ·exact .inl ⟨n', i', by omega, b, c, d, ext e, f⟩
    ·exact .inr ⟨ext e, f⟩
theorem zct {α : Type} (xs : Array α) (p : Nat) (x : α) (hp : p <= xs.size) : (SetTable.insertAt xs p x).toList = xs.toList.take p ++ x :: xs.toList.drop p := by
 unfold SetTable.insertAt
 simp [Array.toList_extract, List.extract_eq_take_drop]
 exact List.take_of_length_le (by simp)
theorem zhn {α : Type} (l : List α) (p : Nat) (x : α) (hp : p <= l.length) (i : Nat) : (l.take p ++ x :: l.drop p)[i]? = if i < p then l[i]? else if i = p then some x else l[i - 1]? := by
 by_cases h1 : i < p
 ·rw [if_pos h1, qv (by rw [List.length_take]; omega), List.getElem?_take_of_lt h1]
 ·rw [if_neg h1, List.getElem?_append_right (by rw [List.length_take]; omega), List.length_take, Nat.min_eq_left hp]
  by_cases h2 : i = p
  ·rw [if_pos h2, h2]; simp
  ·rw [if_neg h2]
   obtain ⟨k, hk⟩ : ∃ k, i - p = k + 1 := ⟨i - p - 1, by omega⟩
   rw [hk, qc, List.getElem?_drop]
   congr 1
   omega
theorem zfa {α : Type} (l : List α) (p : Nat) (x y : α) : y ∈ l.take p ++ x :: l.drop p ↔ y = x \/ y ∈ l := by
 rw [List.mem_append, List.mem_cons]
 constructor
 ·rintro (h | h | h)
  ·exact .inr (List.mem_of_mem_take h)
  ·exact .inl h
  ·exact .inr (List.mem_of_mem_drop h)
 ·rintro (h | h)
  ·exact .inr (.inl h)
  ·have : y ∈ l.take p ++ l.drop p := by rw [List.take_append_drop]; exact h
   rcases List.mem_append.mp this with h | h
   ·exact .inl h
   ·exact .inr (.inr h)
theorem Tb.put (T : Tb t es) {h : Int} {x : Value} {n0 : Nat} (hf : J t.mask h n0 ∉ t.place.toList) (ho : ∀ m, m < n0 -> J t.mask h m ∈ t.place.toList) (few : (es.size + 1) * 5 < t.mask * 3) (pl : Bool) :
  Tb { (t.put (J t.mask h n0)).1 with plain := pl } (SetTable.insertAt es (t.put (J t.mask h n0)).2 (h, x)) := by
 obtain ⟨b0, b1, b2⟩ := zih t.place (J t.mask h n0) T.ri
 have bes : SetTable.below t.place (J t.mask h n0) <= es.size := by rw [← T.sz]; exact b0
 have pl1 : (SetTable.insertAt t.place (SetTable.below t.place (J t.mask h n0)) (J t.mask h n0)).toList = t.place.toList.take (SetTable.below t.place (J t.mask h n0)) ++ J t.mask h n0 :: t.place.toList.drop (SetTable.below t.place (J t.mask h n0)) := zct _ _ _ b0
 have el1 : (SetTable.insertAt es (SetTable.below t.place (J t.mask h n0)) (h, x)).toList = es.toList.take (SetTable.below t.place (J t.mask h n0)) ++ (h, x) :: es.toList.drop (SetTable.below t.place (J t.mask h n0)) := zct _ _ _ bes
 have szp : (SetTable.insertAt t.place (SetTable.below t.place (J t.mask h n0)) (J t.mask h n0)).size = t.place.size + 1 := by
  rw [← Array.length_toList, pl1]; simp; omega
 have sze : (SetTable.insertAt es (SetTable.below t.place (J t.mask h n0)) (h, x)).size = es.size + 1 := by
  rw [← Array.length_toList, el1]; simp; omega
 refine ⟨T.full, ?_, ?_, ?_, ?_, ?_, ?_⟩
 ·show (SetTable.insertAt t.place _ _).size = _
  rw [szp]
  show _ = (SetTable.insertAt es (SetTable.below t.place (J t.mask h n0)) (h, x)).size
  rw [sze, T.sz]
 ·show (if SetTable.has t.dummies (J t.mask h n0) = true then _ else t.dummies) = #[]
  rw [T.dm]; rfl
 ·show (SetTable.insertAt t.place (SetTable.below t.place (J t.mask h n0)) (J t.mask h n0)).toList.Pairwise (· < ·)
  rw [pl1, List.pairwise_append, List.pairwise_cons]
  have tk : ∀ a ∈ t.place.toList.take (SetTable.below t.place (J t.mask h n0)), a < J t.mask h n0 := fun a ha => by
   obtain ⟨i, hi⟩ := List.mem_iff_getElem?.mp ha
   have hi' : i < SetTable.below t.place (J t.mask h n0) := by
    have := (List.getElem?_eq_some_iff.mp hi).1
    rw [List.length_take] at this; omega
   rw [List.getElem?_take_of_lt hi', Array.getElem?_toList] at hi
   exact b1 i hi' a hi
  have dr : ∀ a ∈ t.place.toList.drop (SetTable.below t.place (J t.mask h n0)), J t.mask h n0 < a := fun a ha => by
   obtain ⟨i, hi⟩ := List.mem_iff_getElem?.mp ha
   rw [List.getElem?_drop, Array.getElem?_toList] at hi
   have h1 := b2 _ (Nat.le_add_right _ i) a hi
   rcases Nat.lt_or_ge (J t.mask h n0) a with q | q
   ·exact q
   ·exact absurd (by rw [← Array.getElem?_toList] at hi; have e : a = J t.mask h n0 := (by omega); rw [e] at hi; exact List.mem_of_getElem? hi) hf
  refine ⟨T.ri.sublist (List.take_sublist _ _), ⟨dr, T.ri.sublist (List.drop_sublist _ _)⟩, fun a ha b hb => ?_⟩
  rcases List.mem_cons.mp hb with e | hb
  ·rw [e]; exact tk a ha
  ·exact Nat.lt_trans (tk a ha) (dr b hb)
 ·intro j hj
  have hj' : j ∈ (SetTable.insertAt t.place (SetTable.below t.place (J t.mask h n0)) (J t.mask h n0)).toList := hj
  rw [pl1, zfa] at hj'
  rcases hj' with e | hj'
  ·rw [e]; exact ztr _ _ _
  ·exact T.le j hj'
 ·show (SetTable.insertAt es (SetTable.below t.place (J t.mask h n0)) (h, x)).size * 5 < t.mask * 3
  rw [sze]; exact few
 ·intro i j h' x' e1 e2
  have e1' : (SetTable.insertAt t.place (SetTable.below t.place (J t.mask h n0)) (J t.mask h n0)).toList[i]? = some j := by rw [Array.getElem?_toList]; exact e1
  have e2' : (SetTable.insertAt es (SetTable.below t.place (J t.mask h n0)) (h, x)).toList[i]? = some (h', x') := by rw [Array.getElem?_toList]; exact e2
  rw [pl1, zhn _ _ _ (by simpa using b0)] at e1'
  rw [el1, zhn _ _ _ (by simpa using bes)] at e2'
  have up : ∀ {n : Nat}, (∀ m, m < n -> J t.mask h' m ∈ t.place.toList) -> ∀ m, m < n -> J t.mask h' m ∈ (SetTable.insertAt t.place (SetTable.below t.place (J t.mask h n0)) (J t.mask h n0)).toList := fun q m hm => by
   rw [pl1, zfa]; exact .inr (q m hm)
  by_cases c1 : i < SetTable.below t.place (J t.mask h n0)
  ·rw [if_pos c1] at e1' e2'
   rw [Array.getElem?_toList] at e1' e2'
   obtain ⟨n, hn, q⟩ := T.rc i j h' x' e1' e2'
   exact ⟨n, hn, up q⟩
  ·rw [if_neg c1] at e1' e2'
   by_cases c2 : i = SetTable.below t.place (J t.mask h n0)
   ·rw [if_pos c2] at e1' e2'
    cases e1'
    cases e2'
    exact ⟨n0, rfl, up ho⟩
   ·rw [if_neg c2] at e1' e2'
    rw [Array.getElem?_toList] at e1' e2'
    obtain ⟨n, hn, q⟩ := T.rc _ j h' x' e1' e2'
    exact ⟨n, hn, up q⟩
end
end ST
end
section
namespace ST
open PySem
def zcs (owner : Array (Option Nat)) (j : Nat) : Bool := (owner.getD j (some 0)).isNone
theorem zlv {M : Nat} {h : Int} {n r : Nat} (e : it M h n = zjU M (lp M h r)) {k : Nat} (hk : k < SetTable.runEnd M (lp M h r).1 + 1 - (lp M h r).1) : J M h (n + k) = (lp M h r).1 + k := by
 unfold J
 rw [zko, e, znf M k _ (by show k <= SetTable.runEnd M (lp M h r).1 - (lp M h r).1; omega)]
 rfl
theorem zno {M : Nat} {h : Int} {n r : Nat} (e : it M h n = zjU M (lp M h r)) : it M h (n + (SetTable.runEnd M (lp M h r).1 + 1 - (lp M h r).1)) = zjU M (lp M h (r + 1)) := by
 have hge : (lp M h r).1 <= SetTable.runEnd M (lp M h r).1 := by unfold SetTable.runEnd; split <;> omega
 have e2 := znf M (SetTable.runEnd M (lp M h r).1 - (lp M h r).1) (zjU M (lp M h r)) (qt _)
 rw [show n + (SetTable.runEnd M (lp M h r).1 + 1 - (lp M h r).1) = n + (SetTable.runEnd M (lp M h r).1 - (lp M h r).1) + 1 by omega, it, zko, e, e2]
 unfold adv
 rw [if_neg (by show ¬ ((SetTable.runEnd M (lp M h r).1 - (lp M h r).1) - (SetTable.runEnd M (lp M h r).1 - (lp M h r).1) > 0); omega)]
 rfl
theorem zmm {M : Nat} {h : Int} (owner : Array (Option Nat)) {rs : Nat} (hfr : zcs owner (lp M h rs).1 = true) : ∀ (fuel r n : Nat), it M h n = zjU M (lp M h r) -> r <= rs -> rs < r + fuel -> (∀ m, m < n -> zcs owner (J M h m) = false) ->
  ∃ n', zcs owner (J M h n') = true /\ (∀ m, m < n' -> zcs owner (J M h m) = false) /\ SetTable.layClean.free M owner fuel (lp M h r).1 (lp M h r).2 = some (J M h n')
 | 0, r, n, _, h1, h2, _ => by omega
 | fuel + 1, r, n, e, h1, h2, h3 => by
  unfold SetTable.layClean.free
  cases hf : (List.range (SetTable.runEnd M (lp M h r).1 + 1 - (lp M h r).1)).find? (fun k => (owner.getD ((lp M h r).1 + k) (some 0)).isNone) with
  | some k =>
   have hk := List.mem_range.mp (List.mem_of_find?_eq_some hf)
   have hp : zcs owner ((lp M h r).1 + k) = true := by
    have := List.find?_some hf
    exact this
   refine ⟨n + k, by rw [zlv e hk]; exact hp, fun m hm => ?_, ?_⟩
   ·rcases Nat.lt_or_ge m n with c | c
    ·exact h3 m c
    ·obtain ⟨d, rfl⟩ : ∃ d, m = n + d := ⟨m - n, by omega⟩
     rw [zlv e (by omega)]
     obtain ⟨as, bs, hab, hno⟩ := (List.find?_eq_some_iff_append.mp hf).2
     have hd : d ∈ as := by
      have hl : as = List.range k := by
       have hlen : as.length = k := by
        have : (List.range (SetTable.runEnd M (lp M h r).1 + 1 - (lp M h r).1))[as.length]? = some k := by rw [hab]; simp
        rw [List.getElem?_range] at this
        ·exact Option.some.inj this
        ·have := congrArg List.length hab
         simp at this
         omega
       have := congrArg (List.take k) hab
       rw [List.take_range, Nat.min_eq_left (by omega), ← hlen, List.take_left'] at this
       ·rw [hlen] at this; exact this.symm
       ·rfl
      rw [hl]; exact List.mem_range.mpr (by omega)
     have := hno d hd
     exact Bool.eq_false_iff.mpr (fun z => by rw [show (owner.getD ((lp M h r).1 + d) (some 0)).isNone = true from z] at this; cases this)
   ·rw [zlv e hk]
  | none =>
   have hn : ∀ k, k < SetTable.runEnd M (lp M h r).1 + 1 - (lp M h r).1 -> zcs owner (J M h (n + k)) = false := fun k hk => by
    rw [zlv e hk]
    have := List.find?_eq_none.mp hf k (List.mem_range.mpr hk)
    exact Bool.eq_false_iff.mpr this
   have hge : (lp M h r).1 <= SetTable.runEnd M (lp M h r).1 := by unfold SetTable.runEnd; split <;> omega
   have hr : r ≠ rs := fun z => by
    subst z
    have := hn 0 (by omega)
    rw [zlv e (by omega), Nat.add_zero, hfr] at this
    cases this
   exact zmm owner hfr fuel (r + 1) _ (zno e) (by omega) (by omega) fun m hm => by
    rcases Nat.lt_or_ge m n with c | c
    ·exact h3 m c
    ·obtain ⟨d, rfl⟩ : ∃ d, m = n + d := ⟨m - n, by omega⟩
     exact hn d (by omega)
theorem Full.free {M : Nat} (F : Full M) (h : Int) (owner : Array (Option Nat)) (hf : ∃ j, j <= M /\ zcs owner j = true) :
  ∃ n, zcs owner (J M h n) = true /\ (∀ m, m < n -> zcs owner (J M h m) = false) /\ SetTable.layClean.free M owner (SetTable.turns M) (SetTable.bits h % (M + 1)) (SetTable.bits h) = some (J M h n) := by
 obtain ⟨j, hj, hjf⟩ := hf
 obtain ⟨m, hm, e⟩ := F.reach (zpZ M h 13) hj
 have hl : (lp M h (13 + m)).1 = j := by rw [zlX, e]
 exact zmm owner (rs := 13 + m) (by rw [hl]; exact hjf) (SetTable.turns M) 0 0 rfl (Nat.zero_le _) (by unfold SetTable.turns; omega) fun m hm => absurd hm (Nat.not_lt_zero _)
structure Own (M : Nat) (hs : List Int) (owner : Array (Option Nat)) : Prop where
 sz : owner.size = M + 1
 lt : ∀ (j k : Nat), owner[j]? = some (some k) -> k < hs.length
 on : ∀ k, k < hs.length -> ∃ j : Nat, owner[j]? = some (some k)
 inj : ∀ (j j' k : Nat), owner[j]? = some (some k) -> owner[j']? = some (some k) -> j = j'
 rc : ∀ (j k : Nat) h, owner[j]? = some (some k) -> hs[k]? = some h -> ∃ n, J M h n = j /\ ∀ m, m < n -> zcs owner (J M h m) = false
theorem zdd {owner : Array (Option Nat)} {j : Nat} : zcs owner j = true ↔ owner[j]? = some none := by
 unfold zcs
 rw [Array.getD_eq_getD_getElem?]
 cases e : owner[j]? with
 | none => simp
 | some o => cases o <;> simp
theorem Own.empty (M : Nat) : Own M [] (Array.replicate (M + 1) none) := by
 have no : ∀ (j k : Nat), (Array.replicate (M + 1) (none : Option Nat))[j]? = some (some k) -> False := fun j k h => by
  rw [Array.getElem?_replicate] at h
  split at h <;> cases h
 exact ⟨by simp, fun j k h => (no j k h).elim, fun k h => absurd h (Nat.not_lt_zero _), fun j _ k h _ => (no j k h).elim, fun j k _ h _ => (no j k h).elim⟩
theorem Own.room {M : Nat} {hs : List Int} {owner : Array (Option Nat)} (O : Own M hs owner) (hr : hs.length <= M) : ∃ j, j <= M /\ zcs owner j = true := by
 by_cases hx : ∃ j, j <= M /\ zcs owner j = true
 ·exact hx
 ·exfalso
  have all : ∀ j, j <= M -> ∃ k, owner[j]? = some (some k) := fun j hj => by
   have h1 : zcs owner j ≠ true := fun z => hx ⟨j, hj, z⟩
   have h2 : j < owner.size := by rw [O.sz]; omega
   cases q : owner[j] with
   | none => exact absurd (zdd.mpr (by simp [h2, q])) h1
   | some k => exact ⟨k, by simp [h2, q]⟩
  have pig := zfY ((List.range (M + 1)).map fun j => ((owner[j]?).join).getD 0) (List.range hs.length) ?_ ?_
  ·rw [qe, List.length_range, List.length_range] at pig
   omega
  ·refine List.nodup_iff_pairwise_ne.mpr (List.pairwise_map.mpr (List.Pairwise.imp_of_mem ?_ List.nodup_range))
   intro a b ha hb hab e
   obtain ⟨k, hk⟩ := all a (by have := List.mem_range.mp ha; omega)
   obtain ⟨k', hk'⟩ := all b (by have := List.mem_range.mp hb; omega)
   simp only [hk, hk', Option.join_some, Option.getD_some] at e
   subst e
   exact hab (O.inj a b k hk hk')
  ·intro x hx'
   obtain ⟨j, hj, rfl⟩ := List.mem_map.mp hx'
   obtain ⟨k, hk⟩ := all j (by have := List.mem_range.mp hj; omega)
   simp only [hk, Option.join_some, Option.getD_some]
   exact List.mem_range.mpr (O.lt j k hk)
theorem Own.more {M : Nat} {hs : List Int} {owner : Array (Option Nat)} (O : Own M hs owner) {h : Int} {n : Nat} (hf : zcs owner (J M h n) = true) (ho : ∀ m, m < n -> zcs owner (J M h m) = false) :
  Own M (hs ++ [h]) (owner.setIfInBounds (J M h n) (some hs.length)) := by
 have hlt : J M h n < owner.size := by rw [O.sz]; have := ztr M h n; omega
 have hold := zdd.mp hf
 have get : ∀ j : Nat, (owner.setIfInBounds (J M h n) (some hs.length))[j]? = if j = J M h n then some (some hs.length) else owner[j]? := fun j => by
  rw [Array.getElem?_setIfInBounds]
  by_cases e : J M h n = j
  ·subst e; simp [hlt]
  ·rw [if_neg e, if_neg (Ne.symm e)]
 have stay : ∀ {j k : Nat}, owner[j]? = some (some k) -> (owner.setIfInBounds (J M h n) (some hs.length))[j]? = some (some k) := fun {j k} q => by
  rw [get, if_neg]
  ·exact q
  ·intro e; rw [e, hold] at q; cases q
 have notfree : ∀ {j : Nat}, zcs owner j = false -> zcs (owner.setIfInBounds (J M h n) (some hs.length)) j = false := fun {j} q => by
  refine Bool.eq_false_iff.mpr fun z => ?_
  have z' := zdd.mp z
  rw [get] at z'
  split at z'
  ·cases z'
  ·rw [zdd.mpr z'] at q; cases q
 refine ⟨by simp [O.sz], fun j k q => ?_, fun k hk => ?_, fun j j' k q q' => ?_, fun j k h' q q' => ?_⟩
 ·rw [get] at q
  rw [qi, List.length_singleton]
  split at q
  ·cases q; omega
  ·have := O.lt j k q; omega
 ·rw [qi, List.length_singleton] at hk
  by_cases e : k = hs.length
  ·exact ⟨J M h n, by rw [get, if_pos rfl, e]⟩
  ·obtain ⟨j, hj⟩ := O.on k (by omega)
   exact ⟨j, stay hj⟩
 ·rw [get] at q q'
  split at q
  ·rename_i c
   cases q
   split at q'
   ·rename_i c'; rw [c, c']
   ·have := O.lt j' _ q'; omega
  ·split at q'
   ·cases q'
    have := O.lt j _ q; omega
   ·exact O.inj j j' k q q'
 ·rw [get] at q
  split at q
  ·rename_i c
   cases q
   rw [List.getElem?_append_right (qt _)] at q'
   simp at q'
   subst q'
   exact ⟨n, c.symm, fun m hm => notfree (ho m hm)⟩
  ·have hk := O.lt j k q
   rw [qv hk] at q'
   obtain ⟨n', e, r⟩ := O.rc j k h' q q'
   exact ⟨n', e, fun m hm => notfree (r m hm)⟩
theorem Full.lays {M : Nat} (F : Full M) (hs : Array Int) (hr : hs.size <= M) : ∃ owner, SetTable.layClean M hs = some owner /\ Own M hs.toList owner := by
 have all : ∀ (zcY done : List Int) (owner : Array (Option Nat)), Own M done owner -> (done ++ zcY).length <= M -> ∃ owner', Own M (done ++ zcY) owner' /\
   zcY.foldl (fun (acc : Option (Array (Option Nat) × Nat)) h => do
    let (owner, k) ← acc
    let j ← SetTable.layClean.free M owner (SetTable.turns M) (SetTable.bits h % (M + 1)) (SetTable.bits h)
    pure (owner.setIfInBounds j (some k), k + 1)) (some (owner, done.length)) = some (owner', (done ++ zcY).length) := by
  intro zcY
  induction zcY with
  | nil => intro done owner O _; exact ⟨owner, by rw [List.append_nil]; exact O, by simp⟩
  | cons h r ih =>
   intro done owner O hl
   obtain ⟨n, h1, h2, h3⟩ := F.free h owner (O.room (by simp at hl; omega))
   have O' := O.more h1 h2
   obtain ⟨owner', O2, e⟩ := ih (done ++ [h]) _ O' (by simpa using hl)
   refine ⟨owner', by simpa using O2, ?_⟩
   rw [List.foldl_cons]
   have e1 : (do
    let (owner, k) ← some (owner, done.length)
    let j ← SetTable.layClean.free M owner (SetTable.turns M) (SetTable.bits h % (M + 1)) (SetTable.bits h)
    pure (owner.setIfInBounds j (some k), k + 1) : Option (Array (Option Nat) × Nat)) = some (owner.setIfInBounds (J M h n) (some done.length), done.length + 1) := by
    show (SetTable.layClean.free M owner (SetTable.turns M) (SetTable.bits h % (M + 1)) (SetTable.bits h) >>= fun j => pure (owner.setIfInBounds j (some done.length), done.length + 1)) = _
    rw [h3]; rfl
   rw [e1]
   rw [qi, List.length_singleton] at e
   rw [e]
   simp
 obtain ⟨owner', O, e⟩ := all hs.toList [] _ (Own.empty M) (by simpa using hr)
 refine ⟨owner', ?_, by simpa using O⟩
 unfold SetTable.layClean
 rw [← Array.foldl_toList]
 have e' := congrArg (Option.map (·.1)) e
 exact e'
end ST
end
section
namespace ST
open PySem
theorem zoH {α β : Type} (f : α -> Option β) : ∀ (l : List α), (∀ k ∈ l, ∃ y, f k = some y) -> ∀ i : Nat, (l.filterMap f)[i]? = (l[i]?).bind f
 | [], _, i => by simp
 | k :: r, h, i => by
  obtain ⟨y, hy⟩ := h k qf
  rw [List.filterMap_cons_some hy]
  cases i with
  | zero => simp [hy]
  | succ i => simp only [qc]; exact zoH f r (fun k hk => h k (qg _ hk)) i
theorem zoG {α β : Type} (f : α -> Option β) : ∀ (l : List α), (∀ k ∈ l, ∃ y, f k = some y) -> (l.filterMap f).length = l.length
 | [], _ => rfl
 | k :: r, h => by
  obtain ⟨y, hy⟩ := h k qf
  rw [List.filterMap_cons_some hy, qh, qh, zoG f r fun k hk => h k (qg _ hk)]
def zdq (M : Nat) (owner : Array (Option Nat)) : List (Nat × Nat) := (List.range (M + 1)).filterMap fun j => (owner.getD j none).map (j, ·)
theorem zcO {M : Nat} {owner : Array (Option Nat)} (hsz : owner.size = M + 1) {j k : Nat} : (j, k) ∈ zdq M owner ↔ owner[j]? = some (some k) := by
 unfold zdq
 rw [List.mem_filterMap]
 constructor
 ·rintro ⟨j', hj', e⟩
  rw [Array.getD_eq_getD_getElem?] at e
  cases q : owner[j']? with
  | none => rw [q] at e; cases e
  | some o =>
   rw [q] at e
   cases o with
   | none => cases e
   | some k' => cases e; exact q
 ·intro q
  have hj : j < owner.size := (Array.getElem?_eq_some_iff.mp q).1
  exact ⟨j, List.mem_range.mpr (by omega), by rw [Array.getD_eq_getD_getElem?, q]; rfl⟩
theorem zgd (M : Nat) (owner : Array (Option Nat)) : ((zdq M owner).map (·.1)).Pairwise (· < ·) := by
 unfold zdq
 rw [List.pairwise_map]
 refine List.Pairwise.filterMap _ ?_ (List.pairwise_lt_range (n := M + 1))
 intro a a' haa b hb b' hb'
 obtain ⟨k, _, rfl⟩ := oMd hb
 obtain ⟨k', _, rfl⟩ := oMd hb'
 exact haa
theorem zkX {M : Nat} {hs : List Int} {owner : Array (Option Nat)} (O : Own M hs owner) : ((zdq M owner).map (·.2)).Nodup := by
 have h1 := List.pairwise_map.mp (zgd M owner)
 refine List.nodup_iff_pairwise_ne.mpr (List.pairwise_map.mpr (List.Pairwise.imp_of_mem ?_ h1))
 rintro ⟨j, k⟩ ⟨j', k'⟩ ha hb hlt e
 have e' : k = k' := e
 subst e'
 have := O.inj j j' k ((zcO O.sz).mp ha) ((zcO O.sz).mp hb)
 have hlt' : j < j' := hlt
 omega
theorem znN {M : Nat} {hs : List Int} {owner : Array (Option Nat)} (O : Own M hs owner) : (zdq M owner).length = hs.length := by
 have h1 := zfY ((zdq M owner).map (·.2)) (List.range hs.length) (zkX O) fun k hk => by
  obtain ⟨⟨j, k'⟩, hm, rfl⟩ := List.mem_map.mp hk
  exact List.mem_range.mpr (O.lt j k' ((zcO O.sz).mp hm))
 have h2 := zfY (List.range hs.length) ((zdq M owner).map (·.2)) List.nodup_range fun k hk => by
  obtain ⟨j, hj⟩ := O.on k (List.mem_range.mp hk)
  exact List.mem_map.mpr ⟨(j, k), (zcO O.sz).mpr hj, rfl⟩
 rw [qe, List.length_range] at h1 h2
 omega
theorem Full.relaid {t : SetTable} {es : Array (Int × Value)} {wanted : Nat} (F : Full (SetTable.sizeAbove wanted - 1)) (few : es.size * 5 < (SetTable.sizeAbove wanted - 1) * 3) :
  ∃ t' order, t.relaid (es.map (·.1)) wanted = some (t', order) /\ (order.filterMap (es[·]?)).size = es.size /\ Tb t' (order.filterMap (es[·]?)) /\ (∀ e, e ∈ (order.filterMap (es[·]?)).toList ↔ e ∈ es.toList) /\ t'.mask = SetTable.sizeAbove wanted - 1 /\ t'.led = t.led := by
 generalize hM : SetTable.sizeAbove wanted - 1 = M at F few
 obtain ⟨owner, hl, O⟩ := F.lays (es.map (·.1)) (by simp; omega)
 have hlen : (es.map (·.1)).toList.length = es.size := by simp
 have llen : (zdq M owner).length = es.size := by rw [znN O, hlen]
 refine ⟨{ mask := M, place := ((zdq M owner).map (·.1)).toArray, dummies := #[], finger := t.finger, led := t.led, moves := t.movedTo M, plain := t.plain }, ((zdq M owner).map (·.2)).toArray, ?_, ?_⟩
 ·unfold SetTable.relaid
  rw [hM]
  unfold SetTable.laid
  rw [hl]
  rfl
 ·have hall : ∀ k ∈ (zdq M owner).map (·.2), ∃ y, es[k]? = some y := fun k hk => by
   obtain ⟨⟨j, k'⟩, hm, rfl⟩ := List.mem_map.mp hk
   have := O.lt j k' ((zcO O.sz).mp hm)
   rw [hlen] at this
   exact ⟨es[k'], by simp [this]⟩
  have etl : (Array.filterMap (fun x => es[x]?) ((zdq M owner).map (·.2)).toArray).toList = ((zdq M owner).map (·.2)).filterMap (fun x => es[x]?) := by simp
  have esz : (Array.filterMap (fun x => es[x]?) ((zdq M owner).map (·.2)).toArray).size = es.size := by
   rw [← Array.length_toList, etl, zoG _ _ hall, qe, llen]
  refine ⟨esz, ⟨F, ?_, rfl, ?_, ?_, ?_, ?_⟩, fun e => ?_, rfl, rfl⟩
  ·rw [esz]; simp [llen]
  ·show ((zdq M owner).map (·.1)).toArray.toList.Pairwise (· < ·)
   exact zgd M owner
  ·intro j hj
   have hj' : j ∈ (zdq M owner).map (·.1) := hj
   obtain ⟨⟨j', k⟩, hm, rfl⟩ := List.mem_map.mp hj'
   have := (Array.getElem?_eq_some_iff.mp ((zcO O.sz).mp hm)).1
   rw [O.sz] at this
   show j' <= M
   omega
  ·rw [esz]; exact few
  ·intro i j h x e1 e2
   have e1' : ((zdq M owner).map (·.1))[i]? = some j := by simpa using e1
   rw [← Array.getElem?_toList, etl, zoH _ _ hall, qj] at e2
   rw [qj] at e1'
   obtain ⟨⟨j', k⟩, hm, rfl⟩ := oMd e1'
   rw [hm] at e2
   have e2' : es[k]? = some (h, x) := e2
   have ho := (zcO O.sz).mp (List.mem_of_getElem? hm)
   obtain ⟨n, hn, q⟩ := O.rc j' k h ho (by simp [e2'])
   refine ⟨n, hn, fun m hm' => ?_⟩
   have hnf := q m hm'
   have hle := ztr M h m
   have hlt : J M h m < owner.size := by rw [O.sz]; omega
   cases c : owner[J M h m] with
   | none =>
    rw [zdd.mpr (by simp [hlt, c])] at hnf; cases hnf
   | some k' =>
    show J M h m ∈ (zdq M owner).map (·.1)
    exact List.mem_map.mpr ⟨(J M h m, k'), (zcO O.sz).mpr (by simp [hlt, c]), rfl⟩
  ·rw [etl, List.mem_filterMap]
   constructor
   ·rintro ⟨k, _, hk⟩
    rw [← Array.getElem?_toList] at hk
    exact List.mem_of_getElem? hk
   ·intro he
    obtain ⟨k, hk⟩ := List.mem_iff_getElem?.mp he
    rw [Array.getElem?_toList] at hk
    have hlt := (Array.getElem?_eq_some_iff.mp hk).1
    obtain ⟨j, hj⟩ := O.on k (by rw [hlen]; exact hlt)
    exact ⟨k, List.mem_map.mpr ⟨(j, k), (zcO O.sz).mpr hj, rfl⟩, hk⟩
def Mk (M : Nat) : Prop := M = 7 \/ M = 31 \/ M = 127 \/ M = 511
theorem Mk.full {M : Nat} (h : Mk M) : Full M := by
 rcases h with h | h | h | h <;> subst h
 ·exact zr3
 ·exact zr4
 ·exact zqf
 ·exact zqe
theorem Mk.grow {M n : Nat} (h : Mk M) (h1 : n * 5 < M * 3) (h2 : ¬ (n + 1) * 5 < M * 3) (hn : n <= 300) : Mk (SetTable.sizeAbove (SetTable.grown (n + 1)) - 1) /\ (n + 1) * 5 < (SetTable.sizeAbove (SetTable.grown (n + 1)) - 1) * 3 /\ SetTable.sizeAbove (SetTable.grown (n + 1)) <= 512 := by
 rcases h with h | h | h | h <;> subst h
 ·have : n = 4 := by omega
  subst this
  exact ⟨.inr (.inl (by decide)), by decide, by decide⟩
 ·have : n = 18 := by omega
  subst this
  exact ⟨.inr (.inr (.inl (by decide))), by decide, by decide⟩
 ·have : n = 76 := by omega
  subst this
  exact ⟨.inr (.inr (.inr (by decide))), by decide, by decide⟩
 ·omega
end ST
end
section
namespace ST
open PySem PySem.Spec PyProof.Rows
section
variable {prog : Program} {w : World} {A : Around} {R : Result -> Shared -> Prop} {I : Addr} {fp wr : List Addr} {G : Array GenState -> Array GenState -> Prop} {n : Nat} {P : Nat -> Value -> Prop} {St : Nat -> Shared -> Prop}
def ztM (prog : Program) (w : World) (A : Around) (S : Addr) (Ba : Heap -> Prop) (P : Nat -> Value -> Prop) (n : Nat) (J : Nat -> Obj -> Prop) : Prop :=
 ∀ (i : Nat) (v : Value) (s : Shared) (o : Obj) (Q : Bool -> Shared -> Prop) (E : Value -> Shared -> Prop), i < n -> P i v -> s.heap.get? S = some o -> J i o -> Ba s.heap ->
  (∀ b h' tk o', s.toks <= tk -> Heap.SameBut S s.heap h' -> h'.get? S = some o' -> J (i + 1) o' -> Q b { s with heap := h', toks := tk }) -> wpAny (model prog w) A (setAdd S v) Q E s
theorem znk (W : WalksS prog w A.in1 I fp wr G n P St) (S : Addr) (hSf : S ∉ fp) (Ba : Heap -> Prop) (hBa : ∀ h h', Ba h -> (∀ b o, b ∉ S :: wr -> h.get? b = some o -> h'.get? b = some o) -> Ba h') (J : Nat -> Obj -> Prop) (hadd : ztM prog w A.in1 S Ba P n J) :
  ∀ (k i : Nat) (s : Shared) (o : Obj), n - i = k -> i <= n -> St i s -> s.heap.get? S = some o -> J i o -> Ba s.heap ->
   (∀ s' o', Moved (S :: wr) G s s' -> s'.heap.get? S = some o' -> J n o' -> R (.ok (.ret .none)) s') ->
   codeAny (model prog w) A (.builtin "set.update.loop" ⟨[.ref S, .ref I], []⟩) R s := by
 have hSw : S ∉ wr := fun h => hSf (W.sub _ h)
 have hsub : ∀ b ∈ wr, b ∈ S :: wr := fun b hb => qg _ hb
 intro k
 induction k with
 | zero =>
  intro i s o hk hi hst hS hJ hB hR
  have hin : i = n := by omega
  subst hin
  refine codeAny_builtin F.entry_set_update_loop ?_
  rw [Around.under_plainId F.plain_set_update_loop _]
  show wpAny _ A.in1 (pyNext (.ref I) >>= _) _ _ s
  refine qu (W.done s _ _ hst fun s' hm => ?_)
  show wpAny _ A.in1 (ret Value.none) _ _ s'
  exact wpAny_pure (hR s' o (hm.mono hsub) (hm.heap S _ hSw hS) hJ)
 | succ k ih =>
  intro i s o hk hi hst hS hJ hB hR
  have hlt : i < n := by omega
  refine codeAny_builtin F.entry_set_update_loop ?_
  rw [Around.under_plainId F.plain_set_update_loop _]
  show wpAny _ A.in1 (pyNext (.ref I) >>= _) _ _ s
  refine qu (W.item i s _ _ hlt hst fun v s' hP hst' hm => ?_)
  show wpAny _ A.in1 (holding [v] (setAdd S v) >>= _) _ _ s'
  refine qu (wpAny_holding ?_)
  refine hadd i v s' o _ _ hlt hP (hm.heap S _ hSw hS) hJ (hBa _ _ hB fun b o hb e => hm.heap b o (fun z => hb (hsub b z)) e) fun b h' tk o' htk hsb hS' hJ' => ?_
  refine wpAny_pure ⟨plainId_quiet F.plain_set_update_loop _, ih (i + 1) _ o' (by omega) hlt (W.frame _ s' _ _ hst' htk fun b hb o e => ?_) hS' hJ' ?_ fun s'' o'' hm'' hS'' hJ'' => ?_⟩
  ·rw [hsb.2 b (fun h : b = S => hSf (by rw [← h]; exact hb))]; exact e
  ·refine hBa _ _ (hBa _ _ hB fun b o hb e => hm.heap b o (fun z => hb (hsub b z)) e) fun b o hb e => ?_
   show h'.get? b = some o
   rw [hsb.2 b (fun h : b = S => hb (by rw [h]; exact qf))]; exact e
  ·refine hR s'' o'' (Moved.trans W.gtrans ((hm.mono hsub).then_heap htk fun b o hb e => ?_) hm'') hS'' hJ''
   rw [hsb.2 b (fun h : b = S => hb (by rw [h]; exact qf))]; exact e
end
section
variable {prog : Program} {w : World} {A : Around} {E : Value -> Shared -> Prop} {s : Shared}
set_option maxRecDepth 100000 in
set_option maxHeartbeats 3200000 in
theorem zfy {l : Addr} {items : Array Value} {Q : Value -> Shared -> Prop} (hh : A.handled = none) (hl : s.heap.IsList l items) (J : Nat -> Obj -> Prop)
  (hJ0 : ∀ led : Bool, J 0 { cls := .type "set", dict := none, data := .set #[] 0 (.fresh 0 0 led) })
  (hadd : ∀ A' : Around, A'.units <= A.units + 16 -> ztM prog w A' s.heap.objs.size (fun h => ∀ b o, b < s.heap.objs.size -> s.heap.get? b = some o -> h.get? b = some o) (fun i v => items[i]? = some v) items.size J)
  (h : ∀ (h' : Heap) (tk : Nat) (o : Obj), h'.get? s.heap.objs.size = some o -> J items.size o ->
   (∀ b o, b < s.heap.objs.size -> s.heap.get? b = some o -> h'.get? b = some o) -> Q (.ref s.heap.objs.size) { s with heap := h', toks := tk }) :
  wpAny (model prog w) A (call (.type "set") [.ref l]) Q E s := by
 obtain ⟨c, tl, hmro⟩ := F.called_set.mro
 have hmade := F.called_set.made
 have hsub := F.called_set.sub
 refine wpAny_call (codeAny_of_tree ?_)
 show wpAny _ _ (callAny (.type "set") _) _ _ _
 refine wpAny_pure ⟨Code.quiet_builtin _ (by decide +kernel), codeAny_builtin F.entry_type_call ?_⟩
 rw [Around.under_plain (weight_type_call_type "set" [.ref l] []) rfl]
 have h1 := F.called_set.notType
 have h2 := F.called_set.canCreate
 have hct := F.typeCall_set_1 (.ref l)
 repeat (any_goals (first | assumption | wp_step))
 refine codeAny_mono (code_set_new_1 (.ref l) (E := E) (Q₁ := fun obj s₁ => ∃ led : Bool, obj = .ref s.heap.objs.size /\ s₁ = { s with heap := s.heap.push { cls := .type "set", dict := none, data := .set #[] 0 (.fresh 0 0 led) } }) fun led => ⟨led, rfl, rfl⟩) fun r s₁ hr => ?_
 cases r with
 | error e => exact hr
 | ok fl =>
  cases fl with
  | ret obj =>
   obtain ⟨led, rfl, rfl⟩ := hr
   have hS : (s.heap.push { cls := .type "set", dict := none, data := .set #[] 0 (.fresh 0 0 led) }).get? s.heap.objs.size = some { cls := .type "set", dict := none, data := .set #[] 0 (.fresh 0 0 led) } := Heap.get?_push_size _ rfl
   have hT : Shared.TypeIs { s with heap := s.heap.push { cls := .type "set", dict := none, data := .set #[] 0 (.fresh 0 0 led) } } (.ref s.heap.objs.size) "set" := ⟨_, hS, rfl⟩
   have hli := F.called_set.init.lookup
   have hbi := F.called_set.init.bind (.ref s.heap.objs.size)
   repeat (any_goals (first | assumption | wp_step))
   refine codeAny_mono (codeAny_call_builtin (R := wants (fun r s₂ => r = .none /\ ∃ h' tk o, s₂ = { s with heap := h', toks := tk } /\ h'.get? s.heap.objs.size = some o /\ J items.size o /\
     (∀ b o, b < s.heap.objs.size -> s.heap.get? b = some o -> h'.get? b = some o)) E) F.called_set.init.plain F.entry_set_init (check_set_init_1 hT ?_)) fun r₂ s₂ hr₂ => ?_
   ·obtain ⟨ol, hol, hcl, nl, hdl⟩ := hl
    obtain ⟨ocls, odict, odata, oslots⟩ := ol
    simp only at hcl hdl
    subst hcl; subst hdl
    have hol' : (s.heap.push { cls := .type "set", dict := none, data := .set #[] 0 (.fresh 0 0 led) }).get? l = some { cls := .type "list", dict := odict, data := .seq items nl, slots := oslots } := qq _ hol
    have hsls := F.sub_list_set
    have hslf := F.sub_list_frozenset
    have hne : (Value.type "list" == Value.type "dict") = false := by decide
    have hl1 : (s.heap.push { cls := .type "set", dict := none, data := .set #[] 0 (.fresh 0 0 led) }).IsList l items := ⟨_, hol', rfl, nl, rfl⟩
    unfold Builtin.«set.__init__» noKeywords Builtin.Frozenset.updateFrom
    generalize hPI : pyIter = PI
    wp_walk
    subst hPI
    refine wpAny_pyIter_list hl1 ?_
    refine qu (wpAny_runValue ?_)
    have hlS : l < s.heap.objs.size := qr hol
    have hh3 : A.in1.in1.in1.handled = none := by simp [hh]
    have hneI : l ≠ (s.heap.push { cls := .type "set", dict := none, data := .set #[] 0 (.fresh 0 0 led) }).objs.size := by
     rw [Heap.size_push]; exact Nat.ne_of_lt (Nat.lt_succ_of_lt hlS)
    have hSf : s.heap.objs.size ∉ [(s.heap.push { cls := .type "set", dict := none, data := .set #[] 0 (.fresh 0 0 led) }).objs.size, l] := by
     rw [Heap.size_push]; simp only [List.mem_cons, List.mem_singleton, List.not_mem_nil, or_false, not_or]
     exact ⟨Nat.ne_of_lt (Nat.lt_succ_self _), Nat.ne_of_gt hlS⟩
    have hget : ((s.heap.push { cls := .type "set", dict := none, data := .set #[] 0 (.fresh 0 0 led) }).push { cls := .type "list_iterator", data := .fields #[.ref l, .int 0 0] }).get? s.heap.objs.size
       = some { cls := .type "set", dict := none, data := .set #[] 0 (.fresh 0 0 led) } := qq _ hS
    refine znk ((Walks.list hh3 _ l hneI items).toS) s.heap.objs.size
     hSf (fun h => ∀ b o, b < s.heap.objs.size -> s.heap.get? b = some o -> h.get? b = some o) (fun h h' hB hk b o hb e => hk b o ?_ (hB b o hb e)) J (hadd _ (by show A.units + 3 <= _; omega)) (items.size - 0) 0 _ _ (by omega) (Nat.zero_le _)
     ⟨⟨_, Heap.get?_push_size _ rfl, rfl, rfl⟩, (hl1.push _)⟩ hget (hJ0 led) (fun b o hb e => qq _ (qq _ e)) ?hR
    ·have hb1 : b ≠ s.heap.objs.size := Nat.ne_of_lt hb
     have hb2 : b ≠ (s.heap.push { cls := .type "set", dict := none, data := .set #[] 0 (.fresh 0 0 led) }).objs.size := by
      rw [Heap.size_push]; exact Nat.ne_of_lt (Nat.lt_succ_of_lt hb)
     simp only [List.mem_cons, List.mem_singleton, List.not_mem_nil, or_false, not_or]; exact ⟨hb1, hb2⟩
    case hR =>
     intro s' o' hm hS' hJ'
     obtain ⟨h', g', d', tk', os'⟩ := s'
     have eg : g' = s.gens := hm.gens
     have ed : d' = s.drawn := hm.drawn
     have eo : os' = s.os := hm.os
     subst eg; subst ed; subst eo
     show wpAny _ _ _ _ _ _
     refine wpAny_pure ?_
     show wpAny _ _ (ret Value.none) _ _ _
     refine wpAny_pure ⟨rfl, h', tk', o', rfl, hS', hJ', fun b o hb e => ?_⟩
     have hb1 : b ≠ s.heap.objs.size := Nat.ne_of_lt hb
     have hb2 : b ≠ (s.heap.push { cls := .type "set", dict := none, data := .set #[] 0 (.fresh 0 0 led) }).objs.size := by
      rw [Heap.size_push]; exact Nat.ne_of_lt (Nat.lt_succ_of_lt hb)
     exact hm.heap b o (by simp only [List.mem_cons, List.mem_singleton, List.not_mem_nil, or_false, not_or]; exact ⟨hb1, hb2⟩) (qq _ (qq _ e))
   ·cases r₂ with
    | error e => exact hr₂
    | ok fl₂ =>
     cases fl₂ with
     | ret r =>
      obtain ⟨rfl, h', tk, o', rfl, hS', hJ', hk'⟩ := hr₂
      repeat (any_goals (first | assumption | wp_step))
      exact h _ _ _ hS' hJ' hk'
     | _ => exact hr₂.elim
  | _ => exact hr.elim
end
end ST
end
section
namespace ST
open PySem PySem.Spec PyProof.Rows
def dd {κ : Type} [DecidableEq κ] (l : List κ) : List κ := l.foldl (fun a k => if k ∈ a then a else a ++ [k]) []
theorem zjN {κ : Type} [DecidableEq κ] (l : List κ) (k : κ) : dd (l ++ [k]) = if k ∈ dd l then dd l else dd l ++ [k] := by
 unfold dd; rw [List.foldl_append]; rfl
theorem zi0 {κ : Type} [DecidableEq κ] (l : List κ) : (dd l).length <= l.length := by
 have key : ∀ (l a : List κ), (l.foldl (fun a k => if k ∈ a then a else a ++ [k]) a).length <= a.length + l.length := by
  intro l
  induction l with
  | nil => intro a; exact qt _
  | cons k r ih =>
   intro a
   rw [List.foldl_cons]
   refine Nat.le_trans (ih _) ?_
   split
   ·simp only [qh]; omega
   ·simp only [qi, qh, qk]; omega
 have := key l []
 simpa [dd] using this
section
variable {prog : Program} {w : World} {κ : Type} [DecidableEq κ] {knd : KeyKind prog w κ} {A : Around} {E : Value -> Shared -> Prop} {s : Shared}
theorem zfc {ks : List κ} {a : Addr} {Q : Bool -> Shared -> Prop} (hk : IsTupleKey knd s.heap ks a) (hsc : ∀ v k, knd.is k v = true -> v.scannable = true) (h : ∀ b, Q b s) : wpAny (model prog w) A (hashByValue 8 (.ref a)) Q E s := by
 have hT := hk.typeIs
 obtain ⟨o, items, n, ho, _, hd, hi⟩ := hk
 unfold hashByValue
 refine qu (wpAny_specialOf hT F.slot_tuple_hash.lookup ?_)
 refine qu (wpAny_seqItems ho hd ?_)
 refine qu ?_
 show wpAny _ _ (forIn items _ _) _ _ s
 rw [← Array.forIn_toList]
 have hall : ∀ v ∈ items.toList, v.scannable = true := by
  have : ∀ {x : List κ} {vs : List Value}, ItemsAre knd x vs -> ∀ v ∈ vs, v.scannable = true := by
   intro x vs q
   induction q with
   | nil => intro v hv; cases hv
   | cons h1 _ ih =>
    intro v hv
    rcases List.mem_cons.mp hv with rfl | hv
    ·exact hsc _ _ h1
    ·exact ih v hv
  exact this hi
 refine wpAny_forIn_list _ (fun zcY r s' => s' = s /\ ∀ v ∈ zcY, v.scannable = true) _ ?_ ?_ _ _ ⟨rfl, hall⟩
 ·rintro v zcY r s' ⟨rfl, hv⟩
  rw [hashByValue_scannable _ (hv v qf)]
  refine qu (wpAny_pure ?_)
  cases hp : plainKind v with
  | true =>
   simp only [Bool.not_true, qo, if_false]
   exact wpAny_pure ⟨rfl, fun u hu' => hv u (qg _ hu')⟩
  | false =>
   simp only [Bool.not_false, if_true]
   first | exact wpAny_pure (wpAny_pure (h _)) | exact wpAny_pure (h _) | exact qu (wpAny_pure (wpAny_pure (wpAny_pure (h _))))
 ·rintro ⟨r1, r2⟩ s' ⟨rfl, _⟩
  first | exact wpAny_pure (h _) | (cases r1 <;> exact wpAny_pure (h _))
theorem zeL {ks : List κ} {a : Addr} {Q : Bool -> Shared -> Prop} (hk : IsTupleKey knd s.heap ks a) (h : Q false s) : wpAny (model prog w) A (ofAClassStatement 8 (.ref a)) Q E s := by
 have hT := hk.typeIs
 obtain ⟨o, items, n, ho, _, hd, hi⟩ := hk
 unfold ofAClassStatement
 refine qu (wpAny_typeOf hT ?_)
 dsimp only
 rw [if_pos (by decide)]
 refine qu (wpAny_pure ?_)
 simp only [Bool.not_true, qo, if_false]
 refine qu (wpAny_seqItems ho hd ?_)
 refine qu ?_
 show wpAny _ _ (forIn items _ _) _ _ s
 rw [← Array.forIn_toList]
 refine wpAny_forIn_list _ (fun zcY r s' => r.1 = none /\ s' = s /\ ∀ v ∈ zcY, carriedByValue v = true) _ ?_ ?_ _ _ ⟨rfl, rfl, hi.byValue⟩
 ·rintro v zcY r s' ⟨hr, rfl, hv⟩
  have e : ofAClassStatement 7 v = pure false := by
   have := hv v qf
   cases v with
   | ref b => simp [carriedByValue] at this
   | _ => rfl
  rw [e]
  refine qu (wpAny_pure ?_)
  simp only [qo, if_false]
  exact wpAny_pure ⟨rfl, rfl, fun u hu' => hv u (qg _ hu')⟩
 ·rintro ⟨r1, r2⟩ s' ⟨hr, rfl, _⟩
  simp only at hr
  subst hr
  exact wpAny_pure h
theorem zqT {ks : List κ} {a : Addr} {Q : Bool -> Shared -> Prop} (hk : IsTupleKey knd s.heap ks a) (st : List Value) (hst : ∀ y ∈ st, ∃ k b, y = .ref b /\ IsTupleKey knd s.heap k b) (h : Q false s) : wpAny (model prog w) A (searchCouldBeSeen (.ref a) st) Q E s := by
 unfold searchCouldBeSeen
 refine qu ?_
 refine wpAny_forIn_list _ (fun zcY r s' => r.1 = none /\ s' = s /\ ∀ y ∈ zcY, ∃ k b, y = .ref b /\ IsTupleKey knd s.heap k b) _ ?_ ?_ _ _ ⟨rfl, rfl, hst⟩
 ·rintro v zcY r s' ⟨hr, rfl, hv⟩
  obtain ⟨k, b, rfl, hb⟩ := hv v qf
  dsimp only
  split
  ·exact wpAny_pure ⟨rfl, rfl, fun u hu' => hv u (qg _ hu')⟩
  ·refine qu (wpAny_eqIsQuiet_tuple hk ?_)
   simp only [Bool.not_true, qo, if_false]
   refine qu (wpAny_eqIsQuiet_tuple hb ?_)
   simp only [Bool.not_true, qo, if_false]
   refine qu (zeL hk ?_)
   simp only [qo, if_false]
   refine qu (zeL hb ?_)
   simp only [qo, if_false]
   exact wpAny_pure ⟨rfl, rfl, fun u hu' => hv u (qg _ hu')⟩
 ·rintro ⟨r1, r2⟩ s' ⟨hr, rfl, _⟩
  simp only at hr
  subst hr
  exact wpAny_pure h
end
end ST
end
section
namespace ST
open PySem PySem.Spec PyProof.Rows
theorem zf4 {t : SetTable} {es : Array (Int × Value)} (T : Tb t es) {hashAt : Nat -> Int} {h : Int} {p : SetTable.Probe} {r : Option SetTable.Met} {n n0 : Nat} (hp : t.probe hashAt h p = r) (hpp : p = zcD (it t.mask h n)) (hn : n <= n0) (hn0 : n0 < 10 * (t.mask + 15))
  (hf : J t.mask h n0 ∉ t.place.toList) (ho : ∀ m, m < n0 -> J t.mask h m ∈ t.place.toList) :
  (∃ n' i, n <= n' /\ n' < n0 /\ t.place[i]? = some (J t.mask h n') /\ hashAt i = h /\ (∀ m i, n <= m -> m < n' -> t.place[i]? = some (J t.mask h m) -> hashAt i ≠ h) /\ r = some (.candidate (J t.mask h n') i (zcD (it t.mask h (n' + 1))))) \/
  ((∀ m i, n <= m -> m < n0 -> t.place[i]? = some (J t.mask h m) -> hashAt i ≠ h) /\ r = some (.empty (J t.mask h n0) none)) := by
 subst hpp
 subst hp
 unfold SetTable.probe
 exact T.probe_go hashAt h hf ho (10 * SetTable.turns t.mask) n hn (by unfold SetTable.turns; omega)
theorem zjv {t : SetTable} {es : Array (Int × Value)} (T : Tb t es) {hashAt : Nat -> Int} {h : Int} {p : SetTable.Probe} {n n0 : Nat} (hp : ∀ met, t.probe hashAt h p = some met -> False) (hpp : p = zcD (it t.mask h n)) (hn : n <= n0) (hn0 : n0 < 10 * (t.mask + 15))
  (hf : J t.mask h n0 ∉ t.place.toList) (ho : ∀ m, m < n0 -> J t.mask h m ∈ t.place.toList) : False := by
 rcases zf4 T (r := t.probe hashAt h p) rfl hpp hn hn0 hf ho with ⟨n', i, _, _, _, _, _, g6⟩ | ⟨_, g2⟩
 ·exact hp _ g6
 ·exact hp _ g2
section
variable {prog : Program} {w : World} {κ : Type} [DecidableEq κ] {knd : KeyKind prog w κ} {A : Around} {E : Value -> Shared -> Prop} {s : Shared}
def zsr (knd : KeyKind prog w κ) (h : Heap) (es : Array (Int × Value)) : Prop := ∀ (i : Nat) e, es[i]? = some e -> ∃ k b, e = (tupleKeyHash knd k, .ref b) /\ IsTupleKey knd h k b
theorem Mk.odd {M : Nat} (h : Mk M) : (M % 2 == 0) = false := by
 rcases h with rfl | rfl | rfl | rfl <;> rfl
theorem zlr {S a : Addr} {o : Obj} {es : Array (Int × Value)} {ep : Nat} {t : SetTable} {k : List κ} {n0 : Nat} {Q : SetFound -> Shared -> Prop} (hu : A.units < cLine) (ho : s.heap.get? S = some o) (hd : o.data = .set es ep t) (T : Tb t es) (hM : Mk t.mask)
  (hk : IsTupleKey knd s.heap k a) (he : zsr knd s.heap es) (hf : J t.mask (tupleKeyHash knd k) n0 ∉ t.place.toList) (hocc : ∀ m, m < n0 -> J t.mask (tupleKeyHash knd k) m ∈ t.place.toList) (hn0 : n0 < 10 * (t.mask + 15))
  (hyes : ∀ (i : Nat) (b : Addr), es[i]? = some (tupleKeyHash knd k, .ref b) -> IsTupleKey knd s.heap k b -> Q (.there none) s)
  (hno : (∀ (i : Nat) (b : Addr), es[i]? = some (tupleKeyHash knd k, .ref b) -> ¬ IsTupleKey knd s.heap k b) -> Q (.free (J t.mask (tupleKeyHash knd k) n0) false) s) :
  ∀ (fuel n : Nat) (stand : Option SetTable.Probe), n0 - n < fuel -> n <= n0 -> (stand.getD (t.probeStart (tupleKeyHash knd k)) = zcD (it t.mask (tupleKeyHash knd k) n)) ->
   (∀ (m i : Nat) (b : Addr), m < n -> t.place[i]? = some (J t.mask (tupleKeyHash knd k) m) -> es[i]? = some (tupleKeyHash knd k, .ref b) -> ¬ IsTupleKey knd s.heap k b) ->
   wpAny (model prog w) A (setSearchFrom S (.ref a) (tupleKeyHash knd k) true fuel stand) Q E s := by
 intro fuel
 induction fuel with
 | zero => intro n stand h1; omega
 | succ fuel ih =>
  intro n stand h1 h2 hs hw
  unfold setSearchFrom
  refine qu (wpAny_setState_of ho hd T.fits ?_)
  dsimp only
  have hg : t.gaveWay = false := hM.odd
  rw [hg]
  simp only [qo, if_false]
  split
  ·rename_i met hp
   rcases zf4 T hp hs h2 hn0 hf hocc with ⟨n', i, g1, g2, g3, g4, g5, g6⟩ | ⟨g1, g2⟩
   ·cases g6
    have hi : i < es.size := by
     have := (Array.getElem?_eq_some_iff.mp g3).1
     rw [T.sz] at this
     exact this
    have hei : es[i]? = some es[i] := by simp [hi]
    obtain ⟨k', b, e1, hb⟩ := he i _ hei
    rw [e1] at hei
    have hh : tupleKeyHash knd k' = tupleKeyHash knd k := by
     have g4' : ((es[i]?).map (·.1)).getD 0 = tupleKeyHash knd k := g4
     rw [hei] at g4'
     exact g4'
    rw [hh] at hei
    have zcY : wpAny (model prog w) A (do
      let some (_, y) := es[i]? | unsupported "internal:set-entry"
      let equal ← holding [y] (eqBool y (.ref a))
      let (es', _, t') ← setState S
      if true && equal then return .there none
      let some same := t'.sameMemory t.moves t.mask | unsupported "set.changed-during-lookup:is-the-new-block-at-the-old-address"
      let still ← match (if same then t'.slot (J t.mask (tupleKeyHash knd k) n') else .empty) with
       | .live i' => match es'[i']? with
        | some (_, y') => do pure (if ← isSame y' y then some i' else none)
        | none => pure none
       | _ => pure none
      match still with
      | none => rule "set.search.anew"; setSearchFrom S (.ref a) (tupleKeyHash knd k) true fuel none
      | some i' => if equal then return .there (some i') else setSearchFrom S (.ref a) (tupleKeyHash knd k) true fuel (some (zcD (it t.mask (tupleKeyHash knd k) (n' + 1))))) Q E s := by
     rw [hei]
     dsimp only
     refine qu (wpAny_holding (wpAny_eqBool_tuple hu hb hk ?_))
     refine qu (wpAny_setState_of ho hd T.fits ?_)
     dsimp only
     by_cases hkk : k' = k
     ·subst hkk
      rw [decide_eq_true rfl]
      simp only [Bool.true_and, if_true]
      exact wpAny_pure (hyes i b hei hb)
     ·rw [decide_eq_false hkk]
      simp only [Bool.true_and, qo, if_false]
      have hsm : t.sameMemory t.moves t.mask = some true := by unfold SetTable.sameMemory; simp
      rw [hsm]
      dsimp only
      simp only [if_true]
      rw [T.live g3]
      dsimp only
      rw [hei]
      dsimp only
      refine qu (wpAny_isSame_ref_self ?_)
      simp only [if_true]
      refine qu (wpAny_pure ?_)
      dsimp only
      refine ih (n' + 1) _ (by omega) (by omega) rfl ?_
      intro m i2 b2 hm hp2 he2
      by_cases h3 : m < n
      ·exact hw m i2 b2 h3 hp2 he2
      ·by_cases h4 : m = n'
       ·subst h4
        have ei : i2 = i := by
         have q1 := T.live hp2
         have q2 := T.live g3
         rw [q1] at q2
         injection q2
        subst ei
        rw [hei] at he2
        cases he2
        exact fun z => hkk (hb.inj z)
       ·exfalso
        refine g5 m i2 (by omega) (by omega) hp2 ?_
        show ((es[i2]?).map (·.1)).getD 0 = _
        rw [he2]
        rfl
    cases hled : t.led with
    | true =>
     simp only [Bool.not_true, qo, if_false]
     exact zcY
    | false =>
     simp only [Bool.not_false, if_true]
     refine qu (zqT hk _ (fun y hy => ?_) ?_)
     ·obtain ⟨e, he1, rfl⟩ := List.mem_map.mp hy
      have he2 : e ∈ es.toList := by
       have := Array.mem_toList_iff.mp he1
       rw [Array.mem_filter] at this
       exact Array.mem_toList_iff.mpr this.1
      obtain ⟨j, hj, ej⟩ := List.mem_iff_getElem.mp he2
      obtain ⟨k2, b2, q1, q2⟩ := he j e (by rw [← Array.getElem?_toList, List.getElem?_eq_getElem hj, ej])
      exact ⟨k2, b2, by rw [q1], q2⟩
     ·simp only [qo, if_false]
      exact zcY
   ·cases g2
    dsimp only
    refine wpAny_pure (hno fun i b hei hb => ?_)
    have hi : i < es.size := (Array.getElem?_eq_some_iff.mp hei).1
    have hpi : t.place[i]? = some t.place[i]! := by
     have : i < t.place.size := by rw [T.sz]; exact hi
     simp [this]
    obtain ⟨m, q1, q2⟩ := T.rc i _ _ _ hpi hei
    have hmem : J t.mask (tupleKeyHash knd k) m ∈ t.place.toList := by
     rw [q1]
     rw [← Array.getElem?_toList] at hpi
     exact List.mem_of_getElem? hpi
    have hm : m < n0 := by
     rcases Nat.lt_trichotomy m n0 with z | z | z
     ·exact z
     ·subst z; exact absurd hmem hf
     ·exact absurd (q2 n0 z) hf
    by_cases h3 : m < n
    ·exact hw m i b h3 (by rw [q1]; exact hpi) hei hb
    ·refine g1 m i (by omega) hm (by rw [q1]; exact hpi) ?_
     show ((es[i]?).map (·.1)).getD 0 = _
     rw [hei]
     rfl
  ·rename_i hp
   exact (zjv T hp hs h2 hn0 hf hocc).elim
structure TS (knd : KeyKind prog w κ) (h : Heap) (ks : List (List κ)) (o : Obj) : Prop where
 cls : o.ExactSet
 ex : ∃ es ep t, o.data = .set es ep t /\ Tb t es /\ Mk t.mask /\ zsr knd h es /\ es.size = (dd ks).length /\ (∀ k ∈ dd ks, ∃ (i : Nat) (b : Addr), es[i]? = some (tupleKeyHash knd k, .ref b) /\ IsTupleKey knd h k b) /\ ∀ (i : Nat) (k : List κ) (b : Addr), es[i]? = some (tupleKeyHash knd k, .ref b) -> IsTupleKey knd h k b -> k ∈ dd ks
theorem IsTupleKey.mono {h h' : Heap} {k : List κ} {a : Addr} (x : IsTupleKey knd h k a) (q : ∀ o, h.get? a = some o -> h'.get? a = some o) : IsTupleKey knd h' k a := by
 obtain ⟨o, items, n, h1, h2⟩ := x
 exact ⟨o, items, n, q o h1, h2⟩
theorem zes {es : Array (Int × Value)} {e : Int × Value} : e ∈ es.toList ↔ ∃ i : Nat, es[i]? = some e := by
 constructor
 ·intro h
  obtain ⟨i, hi, q⟩ := List.mem_iff_getElem.mp h
  exact ⟨i, by rw [← Array.getElem?_toList, List.getElem?_eq_getElem hi, q]⟩
 ·rintro ⟨i, h⟩
  rw [← Array.getElem?_toList] at h
  exact List.mem_of_getElem? h
theorem zjz {h0 : Heap} {ks : List (List κ)} {k : List κ} {a : Addr} {es es' : Array (Int × Value)} (hk : IsTupleKey knd h0 k a) (hE : zsr knd h0 es) (hsz : es.size = (dd ks).length) (hin : ∀ k ∈ dd ks, ∃ (i : Nat) (b : Addr), es[i]? = some (tupleKeyHash knd k, .ref b) /\ IsTupleKey knd h0 k b)
  (hout : ∀ (i : Nat) (k : List κ) (b : Addr), es[i]? = some (tupleKeyHash knd k, .ref b) -> IsTupleKey knd h0 k b -> k ∈ dd ks) (hnew : k ∉ dd ks) (mem : ∀ e, e ∈ es'.toList ↔ e = (tupleKeyHash knd k, .ref a) \/ e ∈ es.toList) (size : es'.size = es.size + 1) :
  zsr knd h0 es' /\ es'.size = (dd (ks ++ [k])).length /\ (∀ k' ∈ dd (ks ++ [k]), ∃ (i : Nat) (b : Addr), es'[i]? = some (tupleKeyHash knd k', .ref b) /\ IsTupleKey knd h0 k' b) /\ ∀ (i : Nat) (k' : List κ) (b : Addr), es'[i]? = some (tupleKeyHash knd k', .ref b) -> IsTupleKey knd h0 k' b -> k' ∈ dd (ks ++ [k]) := by
 rw [zjN, if_neg hnew]
 refine ⟨fun i e he => ?_, by rw [size, hsz, qi, List.length_singleton], fun k' hk' => ?_, fun i k' b he hb => ?_⟩
 ·rcases (mem e).mp (zes.mpr ⟨i, he⟩) with rfl | q
  ·exact ⟨k, a, rfl, hk⟩
  ·obtain ⟨j, q⟩ := zes.mp q
   exact hE j e q
 ·rcases List.mem_append.mp hk' with q | q
  ·obtain ⟨i, b, q1, q2⟩ := hin k' q
   obtain ⟨j, q3⟩ := zes.mp ((mem _).mpr (.inr (zes.mpr ⟨i, q1⟩)))
   exact ⟨j, b, q3, q2⟩
  ·rw [List.mem_singleton.mp q]
   obtain ⟨j, q3⟩ := zes.mp ((mem _).mpr (.inl rfl))
   exact ⟨j, a, q3, hk⟩
 ·rcases (mem _).mp (zes.mpr ⟨i, he⟩) with q | q
  ·have e : b = a := by have := (Prod.mk.inj q).2; injection this
   subst e
   exact List.mem_append.mpr (.inr (List.mem_singleton.mpr (hb.inj hk)))
  ·obtain ⟨j, q⟩ := zes.mp q
   exact List.mem_append.mpr (.inl (hout j k' b q hb))
theorem zg8 {h : Heap} {S : Addr} {o : Obj} {es es' : Array (Int × Value)} {ep : Nat} {t t' : SetTable} (ho : h.get? S = some o) (hd : o.data = .set es ep t) : (h.update S (Obj.putSet es' t')).get? S = some { o with data := .set es' (ep + 1) t' } := by
 have q := Heap.get?_update_self (Obj.putSet es' t') ho (by rw [putSet_of es' t' hd]; rfl)
 rwa [putSet_of es' t' hd] at q
set_option maxHeartbeats 1000000 in
theorem zm0 {S a : Addr} {o : Obj} {h0 : Heap} {ks : List (List κ)} {k : List κ} {Q : Bool -> Shared -> Prop} (hsc : ∀ v k, knd.is k v = true -> v.scannable = true) (hu : A.units < cLine) (ho : s.heap.get? S = some o) (T : TS knd h0 ks o) (hk : IsTupleKey knd h0 k a)
  (hB : ∀ b o, h0.get? b = some o -> s.heap.get? b = some o) (hlen : ks.length <= 300)
  (h : ∀ b h' tk o', s.toks <= tk -> Heap.SameBut S s.heap h' -> h'.get? S = some o' -> TS knd h0 (ks ++ [k]) o' -> Q b { s with heap := h', toks := tk }) : wpAny (model prog w) A (setAdd S (.ref a)) Q E s := by
 obtain ⟨hc, es, ep, t, hd, TB, hM, hE, hsz, hin, hout⟩ := T
 have up : ∀ {k : List κ} {b : Addr}, IsTupleKey knd h0 k b -> IsTupleKey knd s.heap k b := fun q => IsTupleKey.mono q fun o e => hB _ _ e
 have down : ∀ {k k' : List κ} {b : Addr}, IsTupleKey knd h0 k' b -> IsTupleKey knd s.heap k b -> k = k' := fun q1 q2 => q2.inj (up q1)
 have hE' : zsr knd s.heap es := fun i e he => by
  obtain ⟨k, b, q1, q2⟩ := hE i e he
  exact ⟨k, b, q1, up q2⟩
 have hddl := zi0 ks
 obtain ⟨n0, f1, f2, f3⟩ := TB.first (tupleKeyHash knd k)
 unfold setAdd
 refine wpAny_holding (qu (wpAny_pyHash_tuple hu (up hk) ?_))
 unfold setAddHashed setAddHashedIn
 refine wpAny_holding (qu (wpAny_setState_of (s := { s with toks := s.toks + (k.length + 1) }) ho hd TB.fits ?_))
 dsimp only
 rw [show byScan (.ref a) es = false from rfl]
 simp only [qo, if_false]
 unfold setSearch
 refine qu (zlr (s := { s with toks := s.toks + (k.length + 1) }) hu ho hd TB hM (up hk) hE' f2 f3 f1 (fun i b hei hb => ?_) (fun hall => ?_) 100000 0 none ?_ (Nat.zero_le _) rfl (fun m i b hm => by omega))
 ·
  dsimp only
  obtain ⟨k', b', q1, q2⟩ := hE i _ hei
  have : b' = b := by
   have := (Prod.mk.inj q1).2
   injection this with e
   exact e.symm
  subst this
  have ek := down q2 hb
  subst ek
  have hmem := hout i k _ hei q2
  refine wpAny_pure (h false s.heap _ o (by show s.toks <= s.toks + (k.length + 1); omega) (Heap.SameBut.refl S s.heap) ho ⟨hc, es, ep, t, hd, TB, hM, hE, ?_⟩)
  rw [zjN, if_pos hmem]
  exact ⟨hsz, hin, hout⟩
 ·
  dsimp only
  have hnew : k ∉ dd ks := fun hm => by
   obtain ⟨i, b, q1, q2⟩ := hin k hm
   exact hall i b q1 (up q2)
  have hpl : SetTable.below t.place (J t.mask (tupleKeyHash knd k) n0) <= es.size := by
   have := (zih t.place (J t.mask (tupleKeyHash knd k) n0) TB.ri).1
   rw [TB.sz] at this
   exact this
  have hmaskle : t.mask <= 511 := by rcases hM with e | e | e | e <;> omega
  have hmem : ∀ e, e ∈ (SetTable.insertAt es (SetTable.below t.place (J t.mask (tupleKeyHash knd k) n0)) (tupleKeyHash knd k, Value.ref a)).toList ↔ e = (tupleKeyHash knd k, Value.ref a) \/ e ∈ es.toList := fun e => by
   rw [zct _ _ _ hpl]
   exact zfa _ _ _ _
  have hsize : (SetTable.insertAt es (SetTable.below t.place (J t.mask (tupleKeyHash knd k) n0)) (tupleKeyHash knd k, Value.ref a)).size = es.size + 1 := by
   have := congrArg List.length (zct es _ (tupleKeyHash knd k, Value.ref a) hpl)
   simp only [Array.length_toList, qi, qh, List.length_take, List.length_drop] at this
   omega
  have hpsz : (SetTable.insertAt t.place (SetTable.below t.place (J t.mask (tupleKeyHash knd k) n0)) (J t.mask (tupleKeyHash knd k) n0)).size = es.size + 1 := by
   have := congrArg List.length (zct t.place _ (J t.mask (tupleKeyHash knd k) n0) (by rw [TB.sz]; exact hpl))
   have h3 := TB.sz
   simp only [Array.length_toList, qi, qh, List.length_take, List.length_drop] at this
   omega
  refine qu (wpAny_setState_of (s := { s with toks := s.toks + (k.length + 1) }) ho hd TB.fits ?_)
  dsimp only
  have fin : ∀ (es' : Array (Int × Value)) (t' : SetTable) (h' : Heap) (o' : Obj), Tb t' es' -> Mk t'.mask -> (∀ e, e ∈ es'.toList ↔ e = (tupleKeyHash knd k, Value.ref a) \/ e ∈ es.toList) -> es'.size = es.size + 1 -> Heap.SameBut S s.heap h' -> h'.get? S = some o' -> o'.ExactSet -> (∃ ep', o'.data = .set es' ep' t') -> Q true { s with heap := h', toks := s.toks + (k.length + 1) } := fun es' t' h' o' q1 q2 q3 q4 q5 q6 q7 q8 => by
   obtain ⟨ep', q8⟩ := q8
   obtain ⟨w1, w2, w3, w4⟩ := zjz hk hE hsz hin hout hnew q3 q4
   exact h true h' _ o' (by omega) q5 q6 ⟨q7, es', ep', t', q8, q1, q2, w1, w2, w3, w4⟩
  have zcY : ∀ pl : Bool, wpAny (model prog w) A (do
    storeSet S (SetTable.insertAt es (t.put (J t.mask (tupleKeyHash knd k) n0)).2 (tupleKeyHash knd k, Value.ref a)) { (t.put (J t.mask (tupleKeyHash knd k) n0)).1 with plain := pl }
    if (!false && SetTable.tooFull { (t.put (J t.mask (tupleKeyHash knd k) n0)).1 with plain := pl }) = true then do
     setRelay S (SetTable.grown (es.size + 1))
     pure true
    else pure true) Q E { s with toks := s.toks + (k.length + 1) } := fun pl => by
   refine qu (wpAny_storeSet_of (s := { s with toks := s.toks + (k.length + 1) }) ho hd ?_ (by show (SetTable.insertAt es (SetTable.below t.place (J t.mask (tupleKeyHash knd k) n0)) (tupleKeyHash knd k, Value.ref a)).size <= sizeLine; rw [hsize, sizeLine_eq]; omega))
   have hg1 := zg8 (es' := SetTable.insertAt es (t.put (J t.mask (tupleKeyHash knd k) n0)).2 (tupleKeyHash knd k, Value.ref a)) (t' := { (t.put (J t.mask (tupleKeyHash knd k) n0)).1 with plain := pl }) ho hd
   have hsb1 := Heap.SameBut.update s.heap S (Obj.putSet (SetTable.insertAt es (t.put (J t.mask (tupleKeyHash knd k) n0)).2 (tupleKeyHash knd k, Value.ref a)) { (t.put (J t.mask (tupleKeyHash knd k) n0)).1 with plain := pl })
   have hdum : (t.put (J t.mask (tupleKeyHash knd k) n0)).1.dummies = #[] := by
    show (if SetTable.has t.dummies _ then _ else t.dummies) = #[]
    rw [TB.dm]
    rfl
   have hfill : SetTable.fill { (t.put (J t.mask (tupleKeyHash knd k) n0)).1 with plain := pl } = es.size + 1 := by
    show (SetTable.insertAt t.place _ _).size + (t.put (J t.mask (tupleKeyHash knd k) n0)).1.dummies.size = _
    rw [hdum]
    exact hpsz
   by_cases few : (es.size + 1) * 5 < t.mask * 3
   ·have hfull : SetTable.tooFull { (t.put (J t.mask (tupleKeyHash knd k) n0)).1 with plain := pl } = false := by
     unfold SetTable.tooFull
     rw [hfill]
     exact decide_eq_false (by show ¬ ((es.size + 1) * 5 ≥ t.mask * 3); omega)
    rw [hfull]
    simp only [Bool.not_false, Bool.and_false, qo, if_false]
    refine wpAny_pure (fin _ _ _ _ (TB.put (x := .ref a) f2 f3 few pl) hM hmem hsize hsb1 hg1 hc ⟨_, rfl⟩)
   ·have hfull : SetTable.tooFull { (t.put (J t.mask (tupleKeyHash knd k) n0)).1 with plain := pl } = true := by
     unfold SetTable.tooFull
     rw [hfill]
     exact decide_eq_true (by show ((es.size + 1) * 5 ≥ t.mask * 3); omega)
    rw [hfull]
    simp only [Bool.not_false, Bool.and_true, if_true]
    obtain ⟨m1, m2, m3⟩ := hM.grow TB.few few (by omega)
    have hes1 : (SetTable.insertAt es (t.put (J t.mask (tupleKeyHash knd k) n0)).2 (tupleKeyHash knd k, Value.ref a)).size = es.size + 1 := hsize
    obtain ⟨t', order, r1, r2, r3, r4, r5, r6⟩ := Full.relaid (t := { (t.put (J t.mask (tupleKeyHash knd k) n0)).1 with plain := pl }) (es := SetTable.insertAt es (t.put (J t.mask (tupleKeyHash knd k) n0)).2 (tupleKeyHash knd k, Value.ref a)) m1.full (by rw [hes1]; exact m2)
    unfold setRelay
    have hfits : SetTable.fits { (t.put (J t.mask (tupleKeyHash knd k) n0)).1 with plain := pl } (SetTable.insertAt es (t.put (J t.mask (tupleKeyHash knd k) n0)).2 (tupleKeyHash knd k, Value.ref a)).size = true := by
     unfold SetTable.fits
     rw [hfill, hes1, Bool.and_eq_true]
     have := TB.few
     exact ⟨by rw [beq_iff_eq]; exact hpsz, decide_eq_true (by show es.size + 1 <= t.mask; omega)⟩
    refine qu ?_
    refine qu (wpAny_setState_of (s := { s with heap := _, toks := s.toks + (k.length + 1) }) hg1 rfl hfits ?_)
    dsimp only
    rw [if_neg (by rw [sizeLine_eq]; omega), r1]
    refine qu ?_
    show wpAny _ _ (if ((order.filterMap ((SetTable.insertAt es (t.put (J t.mask (tupleKeyHash knd k) n0)).2 (tupleKeyHash knd k, Value.ref a))[·]?)).size != (SetTable.insertAt es (t.put (J t.mask (tupleKeyHash knd k) n0)).2 (tupleKeyHash knd k, Value.ref a)).size) = true then _ else _) _ _ _
    rw [if_neg (by rw [r2]; simp)]
    refine wpAny_pure ?_
    dsimp only
    refine wpAny_storeSet_of (s := { s with heap := _, toks := s.toks + (k.length + 1) }) hg1 rfl ?_ (by rw [r2, hes1, sizeLine_eq]; omega)
    refine wpAny_pure (fin _ t' _ _ r3 (by rw [r5]; exact m1) (fun e => (r4 e).trans (hmem e)) (by rw [r2, hes1]) (hsb1.trans (Heap.SameBut.update _ S _)) (zg8 hg1 rfl) hc ⟨_, rfl⟩)
  split
  ·refine qu (zfc (s := { s with toks := s.toks + (k.length + 1) }) (up hk) hsc fun bv => ?_)
   cases bv
   ·exact zcY false
   ·exact zcY _
  ·refine qu (wpAny_pure ?_)
   exact zcY _
 ·show n0 - 0 < 100000
  have : t.mask <= 511 := by rcases hM with e | e | e | e <;> omega
  omega
end
end ST
end
section
namespace L2
open PySem PySem.Spec PyProof.Rows ST
instance (priority := high) keyBEq : BEq Key := instBEqOfDecidableEq
instance (priority := high) keyLaw : LawfulBEq Key := inferInstanceAs (@LawfulBEq Key instBEqOfDecidableEq)
def ztL (n : Nat) (o : Obj) : Prop := o.ExactSet /\ ∃ es ep t, o.data = .set es ep t /\ t.fits es.size = true /\ es.size = n
def zoT (p : Addr) (n : Nat) : HO := .ext fun h => ∃ o, h.get? p = some o /\ ztL n o
section
variable {X : Cx}
theorem zkk {P : Program} {w : World} (v : Value) (k : Key) (h : (za6 P w).is k v = true) : v.scannable = true := by
 rcases zbs h with ⟨i, t, rfl, rfl⟩ | ⟨x, t, rfl, rfl⟩ <;> rfl
def zt0 : List V -> Hp -> VK -> Prop := fun xs H Q => ∃ a vs, xs = [.ref a] /\ H a = some (.lst vs) /\ vs.length <= 300 /\
 ((∃ ks : List Key, vs = ks.map kV /\ ∀ p, H p = none -> Q (.ref p) (upd H p (zoT p (dd ks).length))) \/
 (∃ ts : List (List Key), vs.length = ts.length /\ (∀ (i : Nat) t, ts[i]? = some t -> ∃ b, vs[i]? = some (.ref b) /\ H b = some (.tup (t.map kV))) /\ ∀ p, H p = none -> Q (.ref p) (upd H p (zoT p (dd ts).length))))
theorem zof (hc : X.calm = true) (hu : X.A.units + 66 < cLine) : zez X (.type "set") zt0 := by
 intro pins s σ H xs us Q I r h
 obtain ⟨a, vs, rfl, ha, hl, h⟩ := h
 obtain ⟨u, rfl, ru⟩ := zeA r
 cases ru
 obtain ⟨its, rv, pl, hz⟩ := I.list (.inl (.inl ha))
 have hlen := rv.length
 have hsz : its.toArray.size = vs.length := by rw [List.size_toArray, hlen]
 have fin : ∀ (n : Nat) (h' : Heap) (tk : Nat) (o : Obj), h'.get? s.heap.objs.size = some o -> ztL n o -> (∀ b o, b < s.heap.objs.size -> s.heap.get? b = some o -> h'.get? b = some o) ->
   (∀ p, H p = none -> Q (.ref p) (upd H p (zoT p n))) -> EP X pins σ Q (.ref s.heap.objs.size) { s with heap := h', toks := tk } := fun n h' tk o ho hn hk q => by
  refine ⟨.ref s.heap.objs.size, _, I.laid (a := s.heap.objs.size) (o := zoT s.heap.objs.size n) (fun b u e => hk b u (qr e) e) (qt _) ?_, rfl, q _ I.fresh⟩
  refine ⟨⟨o, ho, hn⟩, ⟨o, ho⟩, fun h1 h2 hp hk2 => ?_⟩
  obtain ⟨o1, q1, q2⟩ := hp
  exact ⟨o1, hk2 o1 q1, q2⟩
 rcases h with ⟨ks, rfl, q⟩ | ⟨ts, ht, hts, q⟩
 ·
  have hkl : ks.length = its.length := by rw [← hlen, qe]
  refine zfy (I.ok.hd hc) pl.isList (fun i o => o.SetObjOf (za6 X.prog X.w) (fun k => decide (k ∈ dd (ks.take i))) (dd (ks.take i)).length) (fun led => ?_) (fun A' hA' i v sh o Q' E' hi hv ho hJ hB hQ => ?_) fun h' tk o ho hJ hk => ?_
  ·have := setObjOf_fresh (knd := za6 X.prog X.w) led
   simpa [dd] using this
  ·have hi' : i < ks.length := by rw [List.size_toArray] at hi; omega
   obtain ⟨u2, hu2, ru2⟩ := rv.get (i := i) (x := kV ks[i]) (by simp [hi'])
   have ev : v = u2 := by
    have hv' : its[i]? = some v := by simpa using hv
    rw [hu2] at hv'
    exact (Option.some.inj hv').symm
   subst ev
   have hkey := zk0 (P := X.prog) (w := X.w) ru2
   have hle : (dd (ks.take i)).length <= 300 := by
    have h1 := zi0 (ks.take i)
    rw [List.length_take] at h1
    rw [qe] at hl
    omega
   unfold setAdd
   refine wpAny_holding (qu ((za6 X.prog X.w).pyHash hkey ?_))
   refine wpAny_setAddHashed_of (knd := za6 X.prog X.w) (s := { sh with toks := sh.toks + 1 }) hkey (zkk _ _ hkey) (hJ.setOf ho (by unfold scanBound; omega)) (by unfold scanBound; omega) fun h' hsb hS2 => ?_
   obtain ⟨o', ho', hso⟩ := hS2.objOf
   refine hQ _ h' _ o' (Nat.le_succ _) hsb ho' ?_
   have htk : ks.take (i + 1) = ks.take i ++ [ks[i]] := by rw [List.take_succ, List.getElem?_eq_getElem hi']; rfl
   show Obj.SetObjOf (za6 X.prog X.w) o' (fun k => decide (k ∈ dd (List.take (i + 1) ks))) (dd (List.take (i + 1) ks)).length
   rw [htk, zjN]
   by_cases hm : ks[i] ∈ dd (ks.take i)
   ·rw [if_pos hm]
    rw [if_pos (by simpa using hm)] at hso
    have e : (fun k' => decide (k' ∈ dd (ks.take i)) || decide (k' = ks[i])) = fun k' => decide (k' ∈ dd (ks.take i)) := by
     funext k'
     by_cases hk' : k' = ks[i]
     ·subst hk'; simp [hm]
     ·simp [hk']
    rw [e] at hso
    exact hso
   ·rw [if_neg hm]
    rw [if_neg (by simpa using hm)] at hso
    have e : (fun k' => decide (k' ∈ dd (ks.take i)) || decide (k' = ks[i])) = fun k' => decide (k' ∈ dd (ks.take i) ++ [ks[i]]) := by
     funext k'
     rw [Bool.eq_iff_iff]
     simp
    rw [e] at hso
    simpa using hso
  ·have e : ks.take its.toArray.size = ks := by rw [List.size_toArray, ← hkl]; exact List.take_length
   rw [e] at hJ
   have hS := hJ.setOf ho (by have := zi0 ks; rw [qe] at hl; unfold scanBound; omega)
   obtain ⟨o1, es, ep, t, v0, v1, v2, _, _, _, v3, v4⟩ := hS
   rw [ho] at v0
   cases v0
   exact fin _ h' tk o ho ⟨v1, es, ep, t, v2, v3, v4⟩ hk q
 ·
  have hkl : ts.length = its.length := by rw [← hlen, ht]
  refine zfy (I.ok.hd hc) pl.isList (fun i o => ST.TS (za6 X.prog X.w) s.heap (ts.take i) o) (fun led => ?_) (fun A' hA' i v sh o Q' E' hi hv ho hJ hB hQ => ?_) fun h' tk o ho hJ hk => ?_
  ·refine ⟨⟨rfl, rfl, rfl⟩, #[], 0, SetTable.fresh 0 0 led, rfl, ?_, .inl rfl, fun i e he => by simp at he, rfl, fun k hk => by simp [dd] at hk, fun i k b he => by simp at he⟩
   exact ⟨zr3, rfl, rfl, by simp [SetTable.fresh], by simp [SetTable.fresh], by simp [SetTable.fresh], fun i j h x hp => by simp [SetTable.fresh] at hp⟩
  ·have hi' : i < ts.length := by rw [List.size_toArray] at hi; omega
   obtain ⟨b, hb1, hb2⟩ := hts i ts[i] (by simp [hi'])
   obtain ⟨u2, hu2, ru2⟩ := rv.get hb1
   have ev : v = u2 := by
    have hv' : its[i]? = some v := by simpa using hv
    rw [hu2] at hv'
    exact (Option.some.inj hv').symm
   subst ev
   cases ru2
   have hkey := zhj I.hok hb2
   have htk : ts.take (i + 1) = ts.take i ++ [ts[i]] := by rw [List.take_succ, List.getElem?_eq_getElem hi']; rfl
   refine zm0 (fun v k => zkk v k) (by omega) ho hJ hkey (fun b' o' e => hB b' o' (qr e) e) (by rw [List.length_take]; have := hl; omega) fun bb h' tk o' h1 h2 h3 h4 => hQ bb h' tk o' h1 h2 h3 (by show ST.TS _ _ (List.take (i + 1) ts) o'; rw [htk]; exact h4)
  ·have e : ts.take its.toArray.size = ts := by rw [List.size_toArray, ← hkl]; exact List.take_length
   rw [e] at hJ
   obtain ⟨hc', es, ep, t, w1, w2, w3, w4, w5, w6, w7⟩ := hJ
   exact fin _ h' tk o ho ⟨hc', es, ep, t, w1, w2.fits, w5⟩ hk q
theorem zjP : zez X (.builtin "len") (fun xs H Q => ∃ p n, xs = [.ref p] /\ H p = some (zoT p n) /\ n <= 300 /\ Q (.int n) H) := by
 intro pins s σ H xs us Q I r h
 obtain ⟨p, n, rfl, hp, hn, q⟩ := h
 obtain ⟨u, rfl, ru⟩ := zeA r
 cases ru
 obtain ⟨⟨o, ho, hex, es, ep, t, w1, w2, w3⟩, _, _⟩ := I.hok p _ hp
 exact call_len_set ho hex w1 w2 (by omega) ⟨.int n, H, I.tok _, ⟨_, by rw [w3]⟩, q⟩
end
end L2
end
section
namespace L2
open PySem PySem.Spec PyProof.Rows ST
def zef : List D -> Option (List (List Key))
 | [] => some []
 | .tup t :: r => (zeO t).bind fun k => (zef r).map (k :: ·)
 | _ :: _ => none
theorem zg7 {Γ : Cn} {K : PySem.W.Frag} {G H : Hp} (gh : zca G H) : ∀ {vs : List V} {ds : List D} {ts : List (List Key)}, Reps Γ K G vs ds -> zef ds = some ts -> vs.length = ts.length /\ ∀ (i : Nat) t, ts[i]? = some t -> ∃ b, vs[i]? = some (.ref b) /\ H b = some (.tup (t.map kV))
 | _, [], ts, r, h => by cases r; cases h; exact ⟨rfl, fun i t e => by simp at e⟩
 | _, d :: ds, ts, .cons h1 h2, h => by
  cases d with
  | tup t =>
   unfold zef at h
   obtain ⟨k, hk, h⟩ := oBd h
   obtain ⟨zs, hz, rfl⟩ := oMd h
   obtain ⟨a, us, rfl, ha, ra⟩ := h1.tup_inv
   have e := zdr ra hk
   subst e
   obtain ⟨q1, q2⟩ := zg7 gh h2 hz
   refine ⟨by rw [qh, qh, q1], fun i t' e => ?_⟩
   cases i with
   | zero => cases e; exact ⟨a, rfl, gh _ _ ha⟩
   | succ i => exact q2 i t' e
  | _ => cases h
def ze9 : D -> Option D
 | .lst l => if l.length <= 300 then match zeO l with
  | some ks => some (.int (dd ks).length)
  | none => (zef l).map fun ts => .int (dd ts).length
  else none
 | _ => none
section
variable {Γ : Cn} {X : Cx} {e : Expr} {f : FE} {pos p p2 pos2 : Pos}
theorem zmE (hc : X.calm = true) (hu : X.A.units + 66 < cLine) (hgl : Gl X "len") (hml : X.mg "len" = none) (hgs : Gl X "set") (hms : X.mg "set" = none) (h : DE Γ X e f)
  (h1 : starEach ([.Call (.Name "set" p2) [e] [] pos2] : List Expr) X.env = (false, eval (.Call (.Name "set" p2) [e] [] pos2) X.env) :: starEach [] X.env := by rfl) (h2 : (backTo pos (starEach [] X.env)).any (·.1) = false := by rfl)
  (h3 : starEach ([e] : List Expr) X.env = (false, eval e X.env) :: starEach [] X.env := by rfl) (h4 : (backTo pos2 (starEach [] X.env)).any (·.1) = false := by rfl) :
  DE Γ X (.Call (.Name "len" p) [.Call (.Name "set" p2) [e] [] pos2] [] pos) (b1 ze9 f) := ⟨by
 refine (zkc zjP hgl hml (by rfl) (zdH (zf5 (zof hc hu) hgs hms (by rfl) (zdH h.1 zfu h3) (by decide) (by decide) h3 h4) zfu h1) (by decide) (by decide) h1 h2).imp fun σ H Q => ?_
 rintro ⟨G₀, H₀, G, ρ, d, A, hq, k⟩
 unfold b1 at hq
 obtain ⟨x, hx, hl⟩ := oBd hq
 clear hq
 refine ⟨G₀, H₀, G, ρ, x, A, hx, fun v G1 H1 s1 r1 => ?_⟩
 unfold ze9 at hl
 split at hl
 ·rename_i l
  split at hl
  ·rename_i hz
   obtain ⟨a, vs, rfl, ha, ra⟩ := r1.lst_inv
   have go : ∀ (n : Nat), n <= 300 -> d = .int n -> ∀ p, H1 p = none -> ∃ p' n', [V.ref p] = [V.ref p'] /\ (upd H1 p (zoT p n)) p' = some (zoT p' n') /\ n' <= 300 /\ Q (.int n') (upd H1 p (zoT p n)) := fun n hn ed p hp => by
    subst ed
    refine ⟨p, n, rfl, zaC, hn, k _ G1 _ (s1.trans (Step.newOwn s1.gh hp)) (.int _)⟩
   refine ⟨a, vs, rfl, s1.gh _ _ ha, by rw [ra.length]; exact hz, ?_⟩
   split at hl
   ·rename_i ks hk
    refine .inl ⟨ks, zdr ra hk, go _ ?_ (Option.some.inj hl).symm⟩
    have h5 := zi0 ks
    have h6 : ks.length = l.length := by
     have := zdr ra hk
     rw [← ra.length, this, qe]
    omega
   ·obtain ⟨ts, ht, e1⟩ := oMd hl
    obtain ⟨q1, q2⟩ := zg7 s1.gh ra ht
    refine .inr ⟨ts, q1, q2, go _ ?_ e1.symm⟩
    have h5 := zi0 ts
    have h6 := ra.length
    omega
  ·cases hl
 ·cases hl⟩
end
end L2
end
section
namespace DT
open PySem PySem.Spec PyProof.Rows
theorem zpK : typeLookup (.type "list") "keys" = pure none := by rw [typeLookup_type, builtinLookup_eq_fast]; kernel_rfl
theorem zpL : typeLookup (.type "list") "__getattr__" = pure none := by rw [typeLookup_type, builtinLookup_eq_fast]; kernel_rfl
theorem zlS {l : Addr} {u : Tok} {R : Result -> Shared -> Prop} {prog : Program} {w : World} {A : Around} {s : Shared} {xs : Array Value} {n : Nat} (hx : s.heap.get? l = some { cls := .type "list", data := .seq xs n }) (hA : A.handled = none)
  (h : ∀ h' tk e, Heap.NewAttrErr s.heap h' e (.ref l) "keys" -> R (.error (.ref e)) { s with heap := h', toks := tk }) :
  codeAny (model prog w) A (.call (.builtin "list.__getattribute__") ⟨[.ref l, .str "keys" u], []⟩) R s := by
 obtain ⟨hp, g, d, tk, os⟩ := s
 have hT : (⟨hp, g, d, tk, os⟩ : Shared).TypeIs (.ref l) "list" := ⟨_, hx, rfl⟩
 have f1 := zpK
 refine codeAny_call_builtin F.slot_list_getattribute.plain F.entry_list_ga (F.slot_list_getattribute.check _ _ _ _ _ _ _ _ hT (F.args_list_getattribute_2 _ _) ?_)
 unfold Builtin.«object.__getattribute__»
 repeat (any_goals (first | assumption | wp_step))
 have hsz : (Str.ofString "keys").length + 100 <= sizeLine := by rw [PySem.ofString_length]; decide
 refine wpAny_raiseAttrError (A := A.in1) hA h ?_
 exact attrMsg_fits (by decide +kernel) hsz
set_option maxHeartbeats 4000000 in
theorem zl8 {l : Addr} {Q : Option Value -> Shared -> Prop} {prog : Program} {w : World} {A : Around} {E : Value -> Shared -> Prop} {s : Shared} {xs : Array Value} {n : Nat} (hx : s.heap.get? l = some { cls := .type "list", data := .seq xs n }) (hA : A.handled = none)
  (h : ∀ h' tk, (∀ b ob, s.heap.get? b = some ob -> h'.get? b = some ob) -> Q none { s with heap := h', toks := tk }) :
  wpAny (model prog w) A (getAttr? (.ref l) "keys") Q E s := by
 obtain ⟨hp, g, d, tk, os⟩ := s
 have hT : ∀ tk', (⟨hp, g, d, tk', os⟩ : Shared).TypeIs (.ref l) "list" := fun _ => ⟨_, hx, rfl⟩
 have f1 := sub_AttributeError
 have f2 := F.slot_list_getattribute.lookup
 have f3 := F.slot_list_getattribute.bind (.ref l)
 have f5 := zpL
 unfold getAttr? getAttrBy?
 refine qu (wpAny_mkText ?_)
 refine qu (wpAny_attempt ?_)
 unfold getAttrBy
 refine wpAny_holding (qu (wpAny_typeOf (hT _) (qu (wpAny_of_eq f2 ?_))))
 show wpAny _ _ (getAttrByItsOwn _ _ _ _ _ _) _ _ _
 unfold getAttrByItsOwn
 refine qu (m := hookBefore (Value.type "list")) (wpAny_pure ?_)
 refine qu (wpAny_attempt (wpAny_holding ?_))
 show wpAny _ _ (boundAndCalled _ _ _) _ _ _
 unfold boundAndCalled
 refine qu (wpAny_of_eq f3 ?_)
 refine wpAny_call (zlS (s := ⟨hp, g, d, tk + 1, os⟩) hx hA fun h' tk' e hn => ?_)
 obtain ⟨t', u', he⟩ := hn.there
 have hE : Shared.TypeIs ⟨h', g, d, tk', os⟩ (.ref e) "AttributeError" := ⟨_, he, rfl⟩
 show wpAny _ _ (getattributeRaised _ _ _ _ _ _ _) _ _ _
 unfold getattributeRaised
 refine qu (wpAny_isInstance hE f1 ?_)
 simp only [if_true]
 refine qu (m := hookBehind (Value.type "list") none) (wpAny_of_eq f5 ?_)
 unfold hookOrError attributeErrorLeaves
 simp only [Bool.not_false, if_true]
 refine qu (wpAny_throw ?_)
 refine qu (wpAny_isInstance hE f1 ?_)
 simp only [if_true]
 exact wpAny_pure (h h' tk' hn.keeps)
end DT
end
section
namespace DT
open PySem PySem.Spec PyProof.Rows
theorem zhp : entryFor table "dict.update.loop" = some Builtin.«dict.update.loop» := entryFor_of_tree (by kernel_rfl)
theorem zdT : plainId "dict.update.loop" = true := by decide +kernel
section
variable {prog : Program} {w : World} {A : Around} {R : Result -> Shared -> Prop} {I : Addr} {fp wr : List Addr} {G : Array GenState -> Array GenState -> Prop} {n : Nat} {P : Nat -> Value -> Prop} {St : Nat -> Shared -> Prop}
def zss (prog : Program) (w : World) (A : Around) (S : Addr) (h0 : Heap) (P : Nat -> Value -> Prop) (n : Nat) (J : Nat -> Obj -> Prop) : Prop :=
 ∀ (i : Nat) (b : Addr) (kv vv : Value) (s : Shared) (o : Obj) (Q : Unit -> Shared -> Prop) (E : Value -> Shared -> Prop), i < n -> P i (.ref b) -> h0.IsTuple b #[kv, vv] -> s.heap.get? S = some o -> J i o -> (∀ b o, b < h0.objs.size -> h0.get? b = some o -> s.heap.get? b = some o) ->
  (∀ h' tk o', s.toks <= tk -> Heap.SameBut S s.heap h' -> h'.get? S = some o' -> J (i + 1) o' -> Q () { s with heap := h', toks := tk }) -> wpAny (model prog w) A (dictSet S kv vv) Q E s
theorem zmx (W : WalksS prog w A.in1 I fp wr G n P St) (S : Addr) (hSf : S ∉ fp) (h0 : Heap) (hS0 : h0.objs.size <= S) (hw0 : ∀ b ∈ wr, h0.objs.size <= b) (J : Nat -> Obj -> Prop) (hadd : zss prog w A.in1 S h0 P n J) (hP : ∀ i v, P i v -> ∃ b kv vv, v = .ref b /\ h0.IsTuple b #[kv, vv]) :
  ∀ (k i : Nat) (c : Int) (s : Shared) (o : Obj), n - i = k -> i <= n -> St i s -> s.heap.get? S = some o -> J i o -> (∀ b o, b < h0.objs.size -> h0.get? b = some o -> s.heap.get? b = some o) ->
   (∀ s' o', Moved (S :: wr) G s s' -> s'.heap.get? S = some o' -> J n o' -> R (.ok (.ret .none)) s') ->
   codeAny (model prog w) A (.builtin "dict.update.loop" ⟨[.ref S, .ref I, rawInt c, .none], []⟩) R s := by
 have hSw : S ∉ wr := fun h => hSf (W.sub _ h)
 have hsub : ∀ b ∈ wr, b ∈ S :: wr := fun b hb => qg _ hb
 have keep : ∀ {h h' : Heap}, (∀ b o, b < h0.objs.size -> h0.get? b = some o -> h.get? b = some o) -> (∀ b o, b ∉ S :: wr -> h.get? b = some o -> h'.get? b = some o) -> ∀ b o, b < h0.objs.size -> h0.get? b = some o -> h'.get? b = some o := fun q1 q2 b o hb e => q2 b o (fun z => by
  rcases List.mem_cons.mp z with z | z
  ·rw [z] at hb; exact absurd hb (Nat.not_lt.mpr hS0)
  ·exact absurd hb (Nat.not_lt.mpr (hw0 b z))) (q1 b o hb e)
 intro k
 induction k with
 | zero =>
  intro i c s o hk hi hst hS hJ hB hR
  have hin : i = n := by omega
  subst hin
  refine codeAny_builtin zhp ?_
  rw [Around.under_plainId zdT _]
  show wpAny _ A.in1 (pyNext (.ref I) >>= _) _ _ s
  refine qu (W.done s _ _ hst fun s' hm => ?_)
  show wpAny _ A.in1 (Builtin.Dict.addKeywords S [] >>= _) _ _ s'
  exact qu (wpAny_pure (wpAny_pure (hR s' o (hm.mono hsub) (hm.heap S _ hSw hS) hJ)))
 | succ k ih =>
  intro i c s o hk hi hst hS hJ hB hR
  have hlt : i < n := by omega
  refine codeAny_builtin zhp ?_
  rw [Around.under_plainId zdT _]
  show wpAny _ A.in1 (pyNext (.ref I) >>= _) _ _ s
  refine qu (W.item i s _ _ hlt hst fun v s' hPv hst' hm => ?_)
  obtain ⟨b, kv, vv, rfl, hb⟩ := hP i v hPv
  have hB' := keep hB fun b o hb e => hm.heap b o (fun z => hb (hsub b z)) e
  obtain ⟨ob, hob, hoc, nn, hod⟩ := hb
  have hob' : s'.heap.get? b = some ob := hB' b ob (qr hob) hob
  have hTb : s'.TypeIs (.ref b) "tuple" := ⟨_, hob', hoc⟩
  show wpAny _ A.in1 (holding [Value.ref b] _ >>= _) _ _ s'
  refine qu (wpAny_holding ?_)
  refine qu ?_
  refine wpAny_tryCatch ?_
  unfold Builtin.Dict.pairItems
  refine qu (wpAny_typeOf hTb ?_)
  rw [if_pos (by decide)]
  refine qu (wpAny_seqItems hob' hod (wpAny_pure ?_))
  show wpAny _ A.in1 (holding [kv, vv] (dictSet S kv vv)) _ _ s'
  refine wpAny_holding (hadd i b kv vv s' o _ _ hlt hPv ⟨ob, hob, hoc, nn, hod⟩ (hm.heap S _ hSw hS) hJ hB' fun h' tk o' htk hsb hS' hJ' => ?_)
  refine wpAny_pure ⟨plainId_quiet zdT _, ih (i + 1) (c + 1) _ o' (by omega) hlt (W.frame _ s' _ _ hst' htk fun b hb o e => ?_) hS' hJ' ?_ fun s'' o'' hm'' hS'' hJ'' => ?_⟩
  ·rw [hsb.2 b (fun h : b = S => hSf (by rw [← h]; exact hb))]; exact e
  ·refine keep hB' fun b o hb e => ?_
   show h'.get? b = some o
   rw [hsb.2 b (fun h : b = S => hb (by rw [h]; exact qf))]; exact e
  ·refine hR s'' o'' (Moved.trans W.gtrans ((hm.mono hsub).then_heap htk fun b o hb e => ?_) hm'') hS'' hJ''
   rw [hsb.2 b (fun h : b = S => hb (by rw [h]; exact qf))]; exact e
end
section
variable {prog : Program} {w : World} {A : Around} {E : Value -> Shared -> Prop} {s : Shared}
theorem call_dict_gen {l : Addr} {items : Array Value} {c : Nat} {Q : Value -> Shared -> Prop} (hh : A.handled = none) (hl : s.heap.get? l = some { cls := .type "list", data := .seq items c }) (J : Nat -> Obj -> Prop)
  (hJ0 : J 0 { cls := .type "dict", data := .dict #[] })
  (hadd : ∀ A' : Around, A'.units <= A.units + 16 -> zss prog w A' s.heap.objs.size s.heap (fun i v => items[i]? = some v) items.size J)
  (hP : ∀ (i : Nat) (v : Value), items[i]? = some v -> ∃ b kv vv, v = .ref b /\ s.heap.IsTuple b #[kv, vv])
  (h : ∀ (h' : Heap) (tk : Nat) (o : Obj), h'.get? s.heap.objs.size = some o -> J items.size o ->
   (∀ b o, b < s.heap.objs.size -> s.heap.get? b = some o -> h'.get? b = some o) -> Q (.ref s.heap.objs.size) { s with heap := h', toks := tk }) :
  wpAny (model prog w) A (call (.type "dict") [.ref l]) Q E s := by
 refine callType_codes (Q₁ := fun obj s₁ => obj = .ref s.heap.objs.size /\ s₁ = { s with heap := s.heap.push { cls := .type "dict", data := .dict #[] } }) F.kt_called_dict (F.kt_typeCall_dict_1 _) F.entry_dict_init (kt_code_dict_new _ ⟨rfl, rfl⟩) ?_
 rintro obj s₁ ⟨rfl, rfl⟩
 have hnew : (s.heap.push { cls := .type "dict", data := .dict #[] }).get? s.heap.objs.size = some { cls := .type "dict", data := .dict #[] } := Heap.get?_push_size _ rfl
 have hl1 : (s.heap.push { cls := .type "dict", data := .dict #[] }).get? l = some { cls := .type "list", data := .seq items c } := qq _ hl
 have hT : Shared.TypeIs { s with heap := s.heap.push { cls := .type "dict", data := .dict #[] } } (.ref s.heap.objs.size) "dict" := ⟨_, hnew, rfl⟩
 have hTl : Shared.TypeIs { s with heap := s.heap.push { cls := .type "dict", data := .dict #[] } } (.ref l) "list" := ⟨_, hl1, rfl⟩
 refine ⟨hT, F.args_dict_init_2 _ _, ?_⟩
 unfold Builtin.«dict.__init__»
 refine qu ?_
 unfold Builtin.Dict.selfAndRest
 refine qu (wpAny_notOrdered_dict hT ?_)
 show wpAny _ _ (pure (s.heap.objs.size, [Value.ref l])) _ _ _
 refine wpAny_pure ?_
 show wpAny _ _ (Builtin.Dict.updateFrom "dict.__init__" s.heap.objs.size (.ref l) [] .none) _ _ _
 unfold Builtin.Dict.updateFrom
 refine qu (wpAny_typeOf hTl ?_)
 rw [if_pos (by decide)]
 refine qu (zl8 (s := { s with heap := s.heap.push { cls := .type "dict", data := .dict #[] } }) (A := A.in1.in1) hl1 hh fun h1 tk1 hk1 => ?_)
 simp only [Option.isNone_none, if_true]
 refine qu (wpAny_rule ?_)
 have hl2 : h1.IsList l items := ⟨_, hk1 _ _ hl1, rfl, _, rfl⟩
 refine qu (wpAny_pyIter_list (s := { s with heap := h1, toks := tk1 }) hl2 ?_)
 refine wpAny_pure ⟨plainId_quiet zdT _, ?_⟩
 have hlS : l < s.heap.objs.size := qr hl
 have hsz1 : s.heap.objs.size < h1.objs.size := qr (hk1 _ _ hnew)
 have hneI : l ≠ h1.objs.size := Nat.ne_of_lt (Nat.lt_trans hlS hsz1)
 have hSf : s.heap.objs.size ∉ [h1.objs.size, l] := by
  simp only [List.mem_cons, List.mem_singleton, List.not_mem_nil, or_false, not_or]
  exact ⟨Nat.ne_of_lt hsz1, Nat.ne_of_gt hlS⟩
 have old : ∀ b o, b < s.heap.objs.size -> s.heap.get? b = some o -> h1.get? b = some o := fun b o _ e => hk1 _ _ (qq _ e)
 refine zmx ((Walks.list (A := A.in1.in1) (by simpa using hh) _ l hneI items).toS) s.heap.objs.size hSf s.heap (qt _) (fun b hb => ?_) J (hadd _ (by show A.units + 2 <= _; omega)) hP (items.size - 0) 0 0 _ _ (by omega) (Nat.zero_le _)
  ⟨⟨_, Heap.get?_push_size _ rfl, rfl, rfl⟩, hl2.push _⟩ (qq _ (hk1 _ _ hnew)) hJ0 (fun b o hb e => qq _ (old b o hb e)) fun s' o' hm hS' hJ' => ?_
 ·have : b = h1.objs.size := by simpa using hb
  rw [this]; exact Nat.le_of_lt hsz1
 ·obtain ⟨h', g', d', tk', os'⟩ := s'
  have eg : g' = s.gens := hm.gens
  have ed : d' = s.drawn := hm.drawn
  have eo : os' = s.os := hm.os
  subst eg; subst ed; subst eo
  refine ⟨rfl, h h' tk' o' hS' hJ' fun b o hb e => hm.heap b o ?_ (qq _ (old b o hb e))⟩
  simp only [List.mem_cons, List.mem_singleton, List.not_mem_nil, or_false, not_or]
  exact ⟨Nat.ne_of_lt hb, Nat.ne_of_lt (Nat.lt_trans hb hsz1)⟩
end
end DT
end
section
namespace L2
open PySem PySem.Spec PyProof.Rows
section
variable {κ : Type} [DecidableEq κ]
def mrg (kvs ps : List (κ × V)) : List (κ × V) := ps.foldl (fun acc kv => zgU acc kv.1 kv.2) kvs
theorem zkj (kvs ps : List (κ × V)) (p : κ × V) : mrg kvs (ps ++ [p]) = zgU (mrg kvs ps) p.1 p.2 := by unfold mrg; rw [List.foldl_append]; rfl
theorem znq (kvs : List (κ × V)) (k : κ) (v : V) : (zgU kvs k v).length <= kvs.length + 1 := by
 unfold zgU
 split
 ·rw [qe]; omega
 ·rw [qi, List.length_singleton]; omega
theorem zf9 : ∀ (ps kvs : List (κ × V)), (mrg kvs ps).length <= kvs.length + ps.length
 | [], kvs => qt _
 | p :: ps, kvs => by
  have h1 := zf9 ps (zgU kvs p.1 p.2)
  have h2 := znq kvs p.1 p.2
  show (mrg (zgU kvs p.1 p.2) ps).length <= _
  rw [qh]
  omega
end
section
variable {X : Cx}
def zq8 : List V -> Hp -> VK -> Prop := fun xs H Q => ∃ (a : Addr) (vs : List V) (ps : List (Key × V)), xs = [.ref a] /\ H a = some (.lst vs) /\ vs.length = ps.length /\ ps.length <= 1000 /\ (∀ (i : Nat) p, ps[i]? = some p -> ∃ b, vs[i]? = some (.ref b) /\ H b = some (.tup [kV p.1, p.2])) /\
 ∀ q, H q = none -> Q (.ref q) (upd H q (.dK (mrg [] ps)))
theorem zlJ {pins : List (Addr × Obj)} {σ : St} {H : Hp} {s : Shared} {b : Addr} {x y : V} (I : Inv X pins σ H s) (hb : H b = some (.tup [x, y])) : ∃ u v, zco x u /\ zco y v /\ s.heap.IsTuple b #[u, v] := by
 obtain ⟨its, r, p, _⟩ := I.tuple (.inl (.inl hb))
 cases r with
 | cons r1 r2 =>
  cases r2 with
  | cons r2 r3 =>
   cases r3
   exact ⟨_, _, r1, r2, p⟩
theorem tuple_inj {h : Heap} {b : Addr} {x y : Array Value} (p : h.IsTuple b x) (q : h.IsTuple b y) : x = y := by
 obtain ⟨o, h1, _, n, h2⟩ := p
 obtain ⟨o', g1, _, m, g2⟩ := q
 rw [h1] at g1
 cases g1
 rw [h2] at g2
 cases g2
 rfl
theorem zk6 (hc : X.calm = true) (hu : X.A.units + 66 < cLine) : zez X (.type "dict") zq8 := by
 intro pins s σ H xs us Q I r h
 obtain ⟨a, vs, ps, rfl, ha, hl, hz, hp, q⟩ := h
 obtain ⟨u, rfl, ru⟩ := zeA r
 cases ru
 obtain ⟨z, its, n, rv, hlen, e⟩ := I.lstM ha
 have hsz : its.toArray.size = ps.length := by rw [List.size_toArray, ← hlen, hl]
 have hit : ∀ (i : Nat) (v : Value), its.toArray[i]? = some v -> ∃ p b u w, ps[i]? = some p /\ v = .ref b /\ zco (kV p.1) u /\ zco p.2 w /\ s.heap.IsTuple b #[u, w] := fun i v hv => by
  have hi : i < ps.length := by rw [← hsz]; exact (Array.getElem?_eq_some_iff.mp hv).1
  obtain ⟨b, hb1, hb2⟩ := hp i ps[i] (by simp [hi])
  obtain ⟨u2, hu2, ru2⟩ := rv.get hb1
  have hv' : its[i]? = some v := by simpa using hv
  rw [hu2] at hv'
  cases hv'
  cases ru2
  obtain ⟨u, w, r1, r2, r3⟩ := zlJ I hb2
  exact ⟨ps[i], b, u, w, by simp [hi], rfl, r1, r2, r3⟩
 refine DT.call_dict_gen (I.ok.hd hc) e (fun i o => ∃ vs', KV (mrg [] (ps.take i)) vs' /\ o.IsDictOf (za6 X.prog X.w) vs') ?_ (fun A' hA' i b kv vv sh o Q' E' hi hv hb ho hJ hB hQ => ?_) (fun i v hv => ?_) fun h' tk o ho hJ hk => ?_
 ·obtain ⟨o, ho, hd⟩ := Heap.dictOf_iff.mp (Heap.DictOf.new (knd := za6 X.prog X.w) s.heap)
  have : o = { cls := .type "dict", data := .dict #[] } := by
   have := Heap.get?_push_size s.heap (o := { cls := .type "dict", data := .dict #[] }) rfl
   rw [this] at ho
   exact (Option.some.inj ho).symm
  subst this
  exact ⟨[], .nil, hd⟩
 ·obtain ⟨p, b', u, w, h1, h2, h3, h4, h5⟩ := hit i _ hv
  cases h2
  have e2 := tuple_inj hb h5
  have e3 : kv = u /\ vv = w := by simpa using e2
  obtain ⟨rfl, rfl⟩ := e3
  obtain ⟨vs', k1, k2⟩ := hJ
  have hle : vs'.length <= 1000 := by
   have q1 := k1.length
   have q2 := zf9 (ps.take i) ([] : List (Key × V))
   rw [List.length_take, qk] at q2
   omega
  refine wpAny_dictSet_pairs (zk0 h3) (Heap.dictOf_iff.mpr ⟨o, ho, k2⟩) (fun h' hd' hsb => ?_) (by rw [sizeLine_eq]; omega)
  obtain ⟨o', ho', hd''⟩ := Heap.dictOf_iff.mp hd'
  refine hQ h' _ o' (Nat.le_succ _) hsb ho' ⟨_, ?_, hd''⟩
  have htk : ps.take (i + 1) = ps.take i ++ [p] := by rw [List.take_succ, h1]; rfl
  rw [htk, zkj]
  exact k1.put p.1 h4
 ·obtain ⟨p, b, u, w, h1, h2, h3, h4, h5⟩ := hit i v hv
  exact ⟨b, u, w, h2, h5⟩
 ·obtain ⟨vs', k1, k2⟩ := hJ
  rw [hsz, List.take_length] at k1
  refine ⟨.ref s.heap.objs.size, _, I.laid (a := s.heap.objs.size) (o := .dK (mrg [] ps)) (fun b u e => hk b u (qr e) e) (qt _) ⟨?_, ?_, vs', k1, Heap.dictOf_iff.mpr ⟨o, ho, k2⟩⟩, rfl, q _ I.fresh⟩
  ·have := zf9 ps ([] : List (Key × V))
   rw [qk] at this
   rw [sizeLine_eq]
   omega
  ·exact beq_eq_false_iff_ne.mpr (Ne.symm (Nat.ne_of_lt I.big))
def zq7 : List V -> Hp -> VK -> Prop := fun xs H Q => ∃ (a : Addr) (vs : List V) (ps : List (List Key × V)), xs = [.ref a] /\ H a = some (.lst vs) /\ vs.length = ps.length /\ ps.length <= 1000 /\ (∀ (i : Nat) p, ps[i]? = some p -> ∃ b kb, vs[i]? = some (.ref b) /\ H b = some (.tup [.ref kb, p.2]) /\ H kb = some (.tup (p.1.map kV))) /\
 ∀ q, H q = none -> Q (.ref q) (upd H q (.dT (mrg [] ps)))
theorem zrN {H : Hp} {P : List Key -> Addr -> Prop} (hP : ∀ k b, H b = some (.tup (k.map kV)) -> P k b) : ∀ {kvs : List (List Key × V)} {xs : List (List Key × Addr × Value)}, KT H kvs xs -> ∀ x ∈ xs, P x.1 x.2.1 := by
 intro kvs xs q
 induction q with
 | nil => intro x hx; cases hx
 | @cons p y ps ys hq t ih =>
  intro x hx
  rcases List.mem_cons.mp hx with rfl | hx
  ·exact hP _ _ (by rw [← hq.1]; exact hq.2.1)
  ·exact ih x hx
theorem zk5 (hc : X.calm = true) (hu : X.A.units + 66 < cLine) : zez X (.type "dict") zq7 := by
 intro pins s σ H xs us Q I r h
 obtain ⟨a, vs, ps, rfl, ha, hl, hz, hp, q⟩ := h
 obtain ⟨u, rfl, ru⟩ := zeA r
 cases ru
 obtain ⟨z, its, n, rv, hlen, e⟩ := I.lstM ha
 have hsz : its.toArray.size = ps.length := by rw [List.size_toArray, ← hlen, hl]
 have hit : ∀ (i : Nat) (v : Value), its.toArray[i]? = some v -> ∃ p b kb w, ps[i]? = some p /\ v = .ref b /\ H kb = some (.tup (p.1.map kV)) /\ zco p.2 w /\ s.heap.IsTuple b #[.ref kb, w] := fun i v hv => by
  have hi : i < ps.length := by rw [← hsz]; exact (Array.getElem?_eq_some_iff.mp hv).1
  obtain ⟨b, kb, hb1, hb2, hb3⟩ := hp i ps[i] (by simp [hi])
  obtain ⟨u2, hu2, ru2⟩ := rv.get hb1
  have hv' : its[i]? = some v := by simpa using hv
  rw [hu2] at hv'
  cases hv'
  cases ru2
  obtain ⟨u, w, r1, r2, r3⟩ := zlJ I hb2
  cases r1
  exact ⟨ps[i], b, kb, w, by simp [hi], rfl, hb3, r2, r3⟩
 have isk : ∀ {h' : Heap}, (∀ b o, b < s.heap.objs.size -> s.heap.get? b = some o -> h'.get? b = some o) -> ∀ k b, H b = some (.tup (k.map kV)) -> (tupleKind (za6 X.prog X.w)).is h' k b := fun hB k b hb => ST.IsTupleKey.mono (zhj I.hok hb) fun o e => hB _ _ (qr e) e
 refine DT.call_dict_gen (I.ok.hd hc) e (fun i o => ∃ xs', KT H (mrg [] (ps.take i)) xs' /\ ∃ es ep, o.ExactDict /\ o.data = .dict es ep /\ es.toList = xs'.map (entryOfKey (tupleKind (za6 X.prog X.w))) /\ (xs'.map (·.1)).Nodup) ?_ (fun A' hA' i b kv vv sh o Q' E' hi hv hb ho hJ hB hQ => ?_) (fun i v hv => ?_) fun h' tk o ho hJ hk => ?_
 ·exact ⟨[], .nil, #[], 0, ⟨rfl, rfl, rfl⟩, rfl, rfl, List.nodup_nil⟩
 ·obtain ⟨p, b', kb, w, h1, h2, h3, h4, h5⟩ := hit i _ hv
  cases h2
  have e2 := tuple_inj hb h5
  have e3 : kv = .ref kb /\ vv = w := by simpa using e2
  obtain ⟨rfl, rfl⟩ := e3
  obtain ⟨xs', k1, es, ep, k2, k3, k4, k5⟩ := hJ
  have hle : xs'.length <= 1000 := by
   have q1 := Paired.length k1
   have q2 := zf9 (ps.take i) ([] : List (List Key × V))
   rw [List.length_take, qk] at q2
   omega
  refine wpAny_dictSet_heap (knd := tupleKind (za6 X.prog X.w)) (show A'.units < cLine by omega) (isk hB _ _ h3) ⟨o, es, ep, ho, k2, k3, k4, zrN (isk hB) k1, k5⟩ (fun h' hd' hsb => ?_) (by rw [sizeLine_eq]; omega)
  obtain ⟨o', es', ep', ho', w2, w3, w4, _, w5⟩ := hd'
  refine hQ h' _ o' (Nat.le_add_right _ _) hsb ho' ⟨_, ?_, es', ep', w2, w3, w4, w5⟩
  have htk : ps.take (i + 1) = ps.take i ++ [p] := by rw [List.take_succ, h1]; rfl
  rw [htk, zkj]
  exact k1.put p.1 h3 h4
 ·obtain ⟨p, b, kb, w, h1, h2, h3, h4, h5⟩ := hit i v hv
  exact ⟨b, _, w, h2, h5⟩
 ·obtain ⟨xs', k1, es, ep, k2, k3, k4, k5⟩ := hJ
  rw [hsz, List.take_length] at k1
  refine ⟨.ref s.heap.objs.size, _, I.laid (a := s.heap.objs.size) (o := .dT (mrg [] ps)) (fun b u e => hk b u (qr e) e) (qt _) ⟨?_, ?_, xs', k1.keeps fun b ys e => ?_, o, es, ep, ho, k2, k3, k4, k5⟩, rfl, q _ I.fresh⟩
  ·have := zf9 ps ([] : List (List Key × V))
   rw [qk] at this
   rw [sizeLine_eq]
   omega
  ·exact beq_eq_false_iff_ne.mpr (Ne.symm (Nat.ne_of_lt I.big))
  ·rw [zaw (zap e I.fresh)]; exact e
end
section
variable {Γ : Cn} {X : Cx}
def zhg : List D -> Option (List (Key × D))
 | [] => some []
 | .tup [k, v] :: r => (zmv k).bind fun kk => (zhg r).map ((kk, v) :: ·)
 | _ :: _ => none
def zf6 : List D -> Option (List (List Key × D))
 | [] => some []
 | .tup [.tup t, v] :: r => (zeO t).bind fun kk => (zf6 r).map ((kk, v) :: ·)
 | _ :: _ => none
def zsw {κ : Type} [DecidableEq κ] (ps : List (κ × D)) : List (κ × D) := ps.foldl (fun acc kv => zhJ acc kv.1 kv.2) []
def ziZ : List D -> Option D
 | [.lst l] => if l.length <= 1000 then (zhg l).map fun ps => .dk (zsw ps) else none
 | _ => none
def zkv : List D -> Option D
 | [.lst l] => if l.length <= 1000 then (zf6 l).map fun ps => .dt (zsw ps) else none
 | _ => none
theorem zl7 {κ : Type} [DecidableEq κ] {K : PySem.W.Frag} {G : Hp} : ∀ {us : List (κ × V)} {kvs : List (κ × D)} {acc : List (κ × V)} {acd : List (κ × D)}, us.map (·.1) = kvs.map (·.1) -> Reps Γ K G (us.map (·.2)) (kvs.map (·.2)) -> acc.map (·.1) = acd.map (·.1) -> Reps Γ K G (acc.map (·.2)) (acd.map (·.2)) ->
  (mrg acc us).map (·.1) = (kvs.foldl (fun acc kv => zhJ acc kv.1 kv.2) acd).map (·.1) /\ Reps Γ K G ((mrg acc us).map (·.2)) ((kvs.foldl (fun acc kv => zhJ acc kv.1 kv.2) acd).map (·.2))
 | [], [], _, _, _, _, e, r => ⟨e, r⟩
 | [], _ :: _, _, _, e, _, _, _ => by cases e
 | _ :: _, [], _, _, e, _, _, _ => by cases e
 | (k1, v) :: us, (k2, d) :: kvs, acc, acd, e, r, e0, r0 => by
  have e1 : k1 = k2 := (List.cons.inj e).1
  subst e1
  have r : Reps Γ K G (v :: us.map (·.2)) (d :: kvs.map (·.2)) := r
  cases r with
  | cons r1 r2 =>
   obtain ⟨w1, w2⟩ := zkm (k := k1) r1 e0 r0
   exact zl7 (us := us) (kvs := kvs) (List.cons.inj e).2 r2 w1 w2
theorem ziJ {K : PySem.W.Frag} {G H : Hp} (gh : zca G H) : ∀ {vs : List V} {ds : List D} {ps : List (Key × D)}, Reps Γ K G vs ds -> zhg ds = some ps ->
  ∃ us : List (Key × V), vs.length = us.length /\ us.map (·.1) = ps.map (·.1) /\ Reps Γ K G (us.map (·.2)) (ps.map (·.2)) /\ ∀ (i : Nat) p, us[i]? = some p -> ∃ b, vs[i]? = some (.ref b) /\ H b = some (.tup [kV p.1, p.2])
 | _, [], ps, r, h => by cases r; cases h; exact ⟨[], rfl, rfl, .nil, fun i p e => by simp at e⟩
 | _, d :: ds, ps, .cons h1 h2, h => by
  unfold zhg at h
  split at h
  ·rename_i heq; cases heq
  ·rename_i heq
   cases heq
   obtain ⟨kk, hk, h⟩ := oBd h
   obtain ⟨zs, hz, rfl⟩ := oMd h
   obtain ⟨us, q1, q2, q3, q4⟩ := ziJ gh h2 hz
   obtain ⟨a, ws, rfl, ha, ra⟩ := h1.tup_inv
   obtain ⟨x, y, rfl, rx, ry⟩ := ra.two
   have ex := zgs rx hk
   subst ex
   refine ⟨(kk, y) :: us, by rw [qh, qh, q1], by simp [q2], .cons ry q3, fun i p e => ?_⟩
   cases i with
   | zero => cases e; exact ⟨a, rfl, gh _ _ ha⟩
   | succ i => exact q4 i p e
  ·cases h
theorem ziI {K : PySem.W.Frag} {G H : Hp} (gh : zca G H) : ∀ {vs : List V} {ds : List D} {ps : List (List Key × D)}, Reps Γ K G vs ds -> zf6 ds = some ps ->
  ∃ us : List (List Key × V), vs.length = us.length /\ us.map (·.1) = ps.map (·.1) /\ Reps Γ K G (us.map (·.2)) (ps.map (·.2)) /\ ∀ (i : Nat) p, us[i]? = some p -> ∃ b kb, vs[i]? = some (.ref b) /\ H b = some (.tup [.ref kb, p.2]) /\ H kb = some (.tup (p.1.map kV))
 | _, [], ps, r, h => by cases r; cases h; exact ⟨[], rfl, rfl, .nil, fun i p e => by simp at e⟩
 | _, d :: ds, ps, .cons h1 h2, h => by
  unfold zf6 at h
  split at h
  ·rename_i heq; cases heq
  ·rename_i heq
   cases heq
   obtain ⟨kk, hk, h⟩ := oBd h
   obtain ⟨zs, hz, rfl⟩ := oMd h
   obtain ⟨us, q1, q2, q3, q4⟩ := ziI gh h2 hz
   obtain ⟨a, ws, rfl, ha, ra⟩ := h1.tup_inv
   obtain ⟨x, y, rfl, rx, ry⟩ := ra.two
   obtain ⟨kb, ks, rfl, hkb, rk⟩ := rx.tup_inv
   have ex := zdr rk hk
   subst ex
   refine ⟨(kk, y) :: us, by rw [qh, qh, q1], by simp [q2], .cons ry q3, fun i p e => ?_⟩
   cases i with
   | zero => cases e; exact ⟨a, kb, rfl, gh _ _ ha, gh _ _ hkb⟩
   | succ i => exact q4 i p e
  ·cases h
theorem zj3 (hc : X.calm = true) (hu : X.A.units + 66 < cLine) : TyD Γ X "dict" ziZ := ⟨_, zk6 hc hu, fun {G H vs ds z} gh r h Q k => by
 unfold ziZ at h
 split at h
 ·split at h
  ·rename_i hz
   obtain ⟨ps, hp, rfl⟩ := oMd h
   obtain ⟨v, rfl, r1⟩ := r.one
   obtain ⟨a, ws, rfl, ha, ra⟩ := r1.lst_inv
   obtain ⟨us, q1, q2, q3, q4⟩ := ziJ gh ra hp
   refine ⟨a, ws, us, rfl, gh _ _ ha, q1, by rw [← q1, ra.length]; exact hz, q4, fun p hp => ?_⟩
   have s := Step.new (o := .dK (mrg [] us)) gh hp
   obtain ⟨w1, w2⟩ := zl7 (acc := []) (acd := []) q2 q3 rfl .nil
   exact k _ _ _ s (.dk zaC w1 (w2.mono s.gg))
  ·cases h
 ·cases h⟩
theorem znc (hc : X.calm = true) (hu : X.A.units + 66 < cLine) : TyD Γ X "dict" zkv := ⟨_, zk5 hc hu, fun {G H vs ds z} gh r h Q k => by
 unfold zkv at h
 split at h
 ·split at h
  ·rename_i hz
   obtain ⟨ps, hp, rfl⟩ := oMd h
   obtain ⟨v, rfl, r1⟩ := r.one
   obtain ⟨a, ws, rfl, ha, ra⟩ := r1.lst_inv
   obtain ⟨us, q1, q2, q3, q4⟩ := ziI gh ra hp
   refine ⟨a, ws, us, rfl, gh _ _ ha, q1, by rw [← q1, ra.length]; exact hz, q4, fun p hp => ?_⟩
   have s := Step.new (o := .dT (mrg [] us)) gh hp
   obtain ⟨w1, w2⟩ := zl7 (acc := []) (acd := []) q2 q3 rfl .nil
   exact k _ _ _ s (.dt zaC w1 (w2.mono s.gg))
  ·cases h
 ·cases h⟩
end
end L2
end
section
namespace L2
open PySem PySem.Spec PyProof.Rows
section
variable {Γ : Cn} {X : Cx} {e : Expr} {es : List Expr} {fr : FA} {pos p2 : Pos} {x : Str}
def zpa (i : Nat) : FS := fun ρ => match ρ[i]? with
 | some (some (.own ds)) => some (.ow ds, ρ)
 | _ => none
theorem zqh (i : Nat) {vp : Pos} (hN : X.N[i]? = some x := by rfl) (hv : Vis X.env.scope x := by first | exact Or.inl rfl | exact Or.inr (Or.inl rfl) | exact Or.inr (Or.inr rfl)) (hd : (x == ("__debug__" : Str)) = false := by decide)
  (hcd : (x == ("__classdict__" : Str)) = false := by decide) : DS Γ X (.Return (some (.Name x vp)) pos) (zpa i) := ⟨(zov (zd5 hN hv hd hcd)).imp fun E σ H => by
 rintro ⟨G₀, H₀, G, ρ, fl, ρ', A, h, k⟩
 unfold zpa at h
 split at h
 ·rename_i ds hi
  cases h
  obtain ⟨a, vs, h1, h2, h3, h4, h5⟩ := A.env.own i ds hi
  exact ⟨.ref a, h1, k σ G H (.refl _) A a vs h2 h3 h4 h5⟩
 ·cases h⟩
def spO (Γ : Cn) (K : PySem.W.Frag) (n : Nat) (F : List D -> Option (List D)) : Sp := fun vs H Q _ => ∃ G ds rs, zca G H /\ Reps Γ K G vs ds /\ ds.length = n /\ F ds = some rs /\ ∀ p us G' H', Step G H G' H' -> H' p = none -> Reps Γ K G' us rs -> Q (.ref p) (upd H' p (.lst us))
def zqH (n : Nat) (g : FS) : List D -> Option (List D) := fun ds => (g (ds.map (fun d => some (Slot.sh d)) ++ List.replicate n none)).bind fun r => match r.1 with
 | .ow ds => some ds
 | _ => none
theorem Fun.okO {P : Program} {w : World} {K : PySem.W.Frag} {mg : Str -> Option Value} {base : Heap} {x qual : Str} {st : Stmt} {f : Addr} {fd : FuncData} {N ps : List Str} {k : Nat} {g : FS} (F : Fun K x qual st f fd) (S : FnScope N ps (zal st))
  (hbody : ∀ (cdv : Value) (A : Around) (outer : List Env) (s : Shared) (H : Hp) (E : XK), Room k (A.deeper (envOfC qual (zal st) s.heap.objs.size f cdv)) ->
   DSs Γ (zkz CX0 P w K mg base N qual (zal st) f cdv A outer s H E).nox (zbh st) g) : FnOk P w K mg base CX0 (k + 1) f fd ps (spO Γ K ps.length (zqH (N.length - ps.length) g)) := by
 refine F.ok S (fun vs H Q E h => ?_) (fun cdv A outer s H vs Q E hr h => ?_)
 ·obtain ⟨G, ds, d, _, r, hl, _⟩ := h
  rw [r.length, hl]
 ·obtain ⟨G, ds, rs, gh, r, hl, hd, k⟩ := h
  refine ⟨_, (hbody cdv A outer s H E hr).1, ?_⟩
  unfold zqH at hd
  obtain ⟨⟨fl, ρ'⟩, hg, hd⟩ := oBd hd
  refine ⟨G, H, G, _, fl, ρ', zit gh r (by rw [r.length, hl]), hg, fun σ' G' H' sm A' => ?_⟩
  cases fl with
  | rt d' => cases hd
  | nx => cases hd
  | bk => cases hd
  | ct => cases hd
  | nw d' => cases hd
  | od d' => cases hd
  | ow d' =>
   cases hd
   intro p us hp0 hg hp rr
   have st : Step G H G' (fun b => if b = p then none else H' b) := by
    refine ⟨fun b o e => ?_, A'.st.gg, fun b o e => ?_, A'.st.out⟩
    ·show (if b = p then none else H' b) = some o
     rw [if_neg (zap e hp0)]; exact A'.st.hh b o e
    ·show (if b = p then none else H' b) = some o
     rw [if_neg (zap e hg)]; exact A'.st.gh b o e
   have := k p us G' _ st (if_pos rfl) rr
   have hf : upd (fun b => if b = p then none else H' b) p (.lst us) = H' := by
    funext b
    by_cases hb : b = p
    ·subst hb; rw [zaC, hp]
    ·rw [zaw hb]; exact if_neg hb
   rwa [hf] at this
end
structure CalO (Γ : Cn) (P : Program) (w : World) (K : PySem.W.Frag) (mg : Str -> Option Value) (base : Heap) (x : Str) (n k : Nat) (F : List D -> Option (List D)) : Prop where
 ex : ∃ f fd ps, FnOk P w K mg base CX0 k f fd ps (spO Γ K n F) /\ mg x = some (.ref f) /\ PySem.W.keepIn K (.ref f) = true /\ zdR K fd ps []
def cFO (F : List D -> Option (List D)) (fr : FA) : FA := fun ρ => (fr ρ).bind F
section
variable {Γ : Cn} {X : Cx} {e : Expr} {es : List Expr} {fr : FA} {pos p : Pos}
theorem zr9 {x : Str} {n k : Nat} {F : List D -> Option (List D)} (C : CalO Γ X.prog X.w X.K X.mg X.base x n k F) {j : Nat} (hr : Room j X.A) (hk : k <= j) (hg : Gl X x) (ha : DA Γ X (e :: es) fr) (hn : ∀ ρ ds, fr ρ = some ds -> ds.length = n)
  (hdb : (x == ("__debug__" : Str)) = false := by decide) (he : starEach (e :: es) X.env = (false, eval e X.env) :: starEach es X.env := by rfl) (hpl : (backTo pos (starEach es X.env)).any (·.1) = false := by rfl) :
  DO Γ X (.Call (.Name x p) (e :: es) [] pos) (cFO F fr) := ⟨by
 obtain ⟨f, fd, ps, h1, h2, h3, h4⟩ := C.ex
 refine (zlF h1 (hr.mono hk) hg h2 h3 h4 .nil zlH ha.1 hdb he hpl).imp fun σ H Q => ?_
 rintro ⟨G₀, H₀, G, ρ, d, A, h, k⟩
 unfold cFO at h
 obtain ⟨ds, hd, h⟩ := oBd h
 refine ⟨G₀, H₀, G, ρ, ds, A, hd, fun vs G1 H1 s1 r1 => ?_⟩
 show spO Γ X.K n F (vs ++ []) H1 Q E0
 rw [List.append_nil]
 exact ⟨G1, ds, d, s1.gh, r1, hn ρ ds hd, h, fun p us G' H' s hp r => k p us G' H' (s1.trans s) hp r⟩⟩
theorem Dfn.calO {P : Program} {w : World} {K : PySem.W.Frag} {mg : Str -> Option Value} {base : Heap} {x : Str} {st : Stmt} {N ps : List Str} {k : Nat} {g : FS} (F : Dfn K mg x st) (S : FnScope N ps (zal st))
  (hb : ∀ (kV doc pm : Value) (an : Option Addr) (cdv ct : Value) (us : List Value), us.length = ps.length -> bindArgs (PySem.W.fnOf x x (zcB st) (zbh st) (zal st) .none kV doc pm an cdv ct) ⟨us, []⟩ = pure (ps.zip us))
  (hbody : ∀ (f : Addr) (cdv : Value) (A : Around) (outer : List Env) (s : Shared) (H : Hp) (E : XK), Room k (A.deeper (envOfC x (zal st) s.heap.objs.size f cdv)) ->
   DSs Γ (zkz CX0 P w K mg base N x (zal st) f cdv A outer s H E).nox (zbh st) g) : CalO Γ P w K mg base x ps.length (k + 1) (zqH (N.length - ps.length) g) := by
 obtain ⟨f, fd, h1, h2⟩ := F.ex
 exact ⟨f, fd, ps, h1.okO S (hbody f), h2, h1.kp, h1.binds hb⟩
theorem Dfn.none {P : Program} {w : World} {K : PySem.W.Frag} {mg : Str -> Option Value} {base : Heap} {x : Str} {st : Stmt} {ps : List Str} {k : Nat} (F : Dfn K mg x st)
  (hb : ∀ (kV doc pm : Value) (an : Option Addr) (cdv ct : Value) (us : List Value), us.length = ps.length -> bindArgs (PySem.W.fnOf x x (zcB st) (zbh st) (zal st) .none kV doc pm an cdv ct) ⟨us, []⟩ = pure (ps.zip us))
  : Cal Γ P w K mg base x ps.length k (fun _ => Option.none) := by
 obtain ⟨f, fd, h1, h2⟩ := F.ex
 refine ⟨f, fd, ps, ⟨fun vs H Q E h => ?_, fun A outer s H args us vs Q E hr I b v h => ?_⟩, h2, h1.kp, h1.binds hb⟩
 ·obtain ⟨_, _, _, _, _, _, z, _⟩ := h
  cases z
 ·obtain ⟨_, _, _, _, _, _, z, _⟩ := h
  cases z
end
end L2
end
section
namespace L2
open PySem PySem.Spec PyProof.Rows
def orG (g g' : D -> D -> Option D) (x y : D) : Option D := match g x y with
 | some z => some z
 | none => g' x y
section
variable {Γ : Cn} {X : Cx} {a b c e : Expr} {fa fb : FE} {op : CmpOp} {g g' : D -> D -> Option D}
theorem zrx {x y z : D} (h : orG g g' x y = some z) : g x y = some z \/ g' x y = some z := by
 unfold orG at h
 split at h
 ·rename_i q; cases h; exact .inl q
 ·exact .inr h
theorem CmpD.or (h : CmpD Γ X op g) (h' : CmpD Γ X op g') : CmpD Γ X op (orG g g') := by
 obtain ⟨r, o, d⟩ := h.ex
 obtain ⟨r', o', d'⟩ := h'.ex
 refine ⟨_, o.or o', fun {G H v u x y z} gh r1 r2 q Q k => ?_⟩
 rcases zrx q with q | q
 ·exact .inl (d gh r1 r2 q Q k)
 ·exact .inr (d' gh r1 r2 q Q k)
def eqA := orG eqD zr5
def neA := orG neD zpR
theorem zsl (hu : X.A.units + 64 < cLine) : CmpD Γ X .Eq eqA := zgw.or (zsk hu)
theorem zhs (hu : X.A.units + 64 < cLine) : CmpD Γ X .NotEq neA := ztk.or (zsj hu)
theorem DfnM.mk' {K : PySem.W.Frag} {C f : Addr} {c m qual : Str} {st : Stmt} {oc : Value} {od an : Option Addr} {osl : Array (Option Value)} {kV doc pm cdv ct : Value} (a : PySem.W.findIn K (.ref C) m = some (some (.ref f))) (i : PySem.W.isFn K (.ref f) = true)
  (l : K.lookup f = some ⟨oc, od, .func (PySem.W.fnOf m qual (zcB st) (zbh st) (zal st) .none kV doc pm an cdv ct), osl⟩) (cd : PySem.W.codeIn K cdv qual = true) (k : PySem.W.keepIn K (.ref f) = true) : DfnM K C c m qual st := ⟨f, _, zmk l cd k, a, i⟩
end
section
variable {ρ : zaX} {f1 f2 f3 f4 f5 f6 f7 : FE}
theorem ln1 : ∀ ρ ds, zaa f1 zai ρ = some ds -> ds.length = 1 := zcX fun _ _ h => zok h
theorem ln2 : ∀ ρ ds, zaa f1 (zaa f2 zai) ρ = some ds -> ds.length = 2 := zcX ln1
theorem ln3 : ∀ ρ ds, zaa f1 (zaa f2 (zaa f3 zai)) ρ = some ds -> ds.length = 3 := zcX ln2
theorem ln4 : ∀ ρ ds, zaa f1 (zaa f2 (zaa f3 (zaa f4 zai))) ρ = some ds -> ds.length = 4 := zcX ln3
theorem ln5 : ∀ ρ ds, zaa f1 (zaa f2 (zaa f3 (zaa f4 (zaa f5 zai)))) ρ = some ds -> ds.length = 5 := zcX ln4
theorem ln6 : ∀ ρ ds, zaa f1 (zaa f2 (zaa f3 (zaa f4 (zaa f5 (zaa f6 zai))))) ρ = some ds -> ds.length = 6 := zcX ln5
theorem ln7 : ∀ ρ ds, zaa f1 (zaa f2 (zaa f3 (zaa f4 (zaa f5 (zaa f6 (zaa f7 zai)))))) ρ = some ds -> ds.length = 7 := zcX ln6
end
end L2
end
section
namespace L2
open PySem PySem.Spec PyProof.Rows
section
variable {Γ : Cn} {K : PySem.W.Frag} {G₀ H₀ G H : Hp} {ρ : zaX} {σ : St}
theorem At.setOdt (A : At Γ K G₀ H₀ G H ρ σ) {i : Nat} {a : Addr} (ha : H a = none) : At Γ K G₀ H₀ G (upd H a (.dT [])) (ρ.set i (some (.odt []))) (σ.set i (some (.ref a))) := by
 have h0 : H₀ a = none := A.st.hh.free ha
 have hg : G a = none := A.gh.free ha
 refine A.put (fp := []) (fp' := [a]) (.inl rfl) (fun b o e _ => by rw [zaw (zap e ha)]; exact e) (.odt (us := []) (kvs := []) h0 hg zaC rfl .nil) (fun b hb => .inr (by rw [List.mem_singleton.mp hb]; exact ha)) (.refl _) (fun b o e => ?_) (fun _ _ _ _ => rfl) (fun b hb => by cases hb)
 rw [zaw (zap e hg)]; exact A.gh b o e
theorem At.chOdt (A : At Γ K G₀ H₀ G H ρ σ) {i : Nat} {a : Addr} {kvs kvs' : List (List Key × D)} {us' : List (List Key × V)} (hi : ρ[i]? = some (some (.odt kvs))) (ha : σ[i]? = some (some (.ref a))) (e : us'.map (·.1) = kvs'.map (·.1)) (r : Reps Γ K G (us'.map (·.2)) (kvs'.map (·.2))) : At Γ K G₀ H₀ G (upd H a (.dT us')) (ρ.set i (some (.odt kvs'))) σ := by
 obtain ⟨v, fp, h1, h2⟩ := A.get hi
 rw [ha] at h1
 cases h1
 cases h2 with
 | odt q1 q2 q3 q4 q5 =>
  refine A.ch hi ha (.odt q1 q2 q3 q4 q5) (fun b o e hb => ?_) (.odt q1 q2 zaC e r) (fun b hb => .inl hb) (.refl _) (fun b o e => ?_) (fun _ _ _ _ => rfl)
  ·rw [zaw (fun z => hb (List.mem_singleton.mpr z))]; exact e
  ·rw [zaw (zap e q2)]; exact A.gh b o e
theorem At.chOdk (A : At Γ K G₀ H₀ G H ρ σ) {i : Nat} {a : Addr} {kvs kvs' : List (Key × D)} {us' : List (Key × V)} (hi : ρ[i]? = some (some (.odk kvs))) (ha : σ[i]? = some (some (.ref a))) (e : us'.map (·.1) = kvs'.map (·.1)) (r : Reps Γ K G (us'.map (·.2)) (kvs'.map (·.2))) : At Γ K G₀ H₀ G (upd H a (.dK us')) (ρ.set i (some (.odk kvs'))) σ := by
 obtain ⟨v, fp, h1, h2⟩ := A.get hi
 rw [ha] at h1
 cases h1
 cases h2 with
 | odk q1 q2 q3 q4 q5 =>
  refine A.ch hi ha (.odk q1 q2 q3 q4 q5) (fun b o e hb => ?_) (.odk q1 q2 zaC e r) (fun b hb => .inl hb) (.refl _) (fun b o e => ?_) (fun _ _ _ _ => rfl)
  ·rw [zaw (fun z => hb (List.mem_singleton.mpr z))]; exact e
  ·rw [zaw (zap e q2)]; exact A.gh b o e
def zq0 : Slot -> Option D
 | .odt kvs => some (.dt kvs)
 | .odk kvs => some (.dk kvs)
 | _ => none
theorem At.frzD (A : At Γ K G₀ H₀ G H ρ σ) {i : Nat} {s : Slot} {d : D} (hi : ρ[i]? = some (some s)) (hd : zq0 s = some d) : ∃ G', zca G G' /\ At Γ K G₀ H₀ G' H (ρ.set i (some (.sh d))) σ := by
 obtain ⟨v, fp, h1, h2⟩ := A.get hi
 cases h2 with
 | sh _ => cases hd
 | own _ _ _ _ => cases hd
 | obj _ _ _ _ _ _ _ => cases hd
 | tlo _ _ _ _ _ _ => cases hd
 | pin _ => cases hd
 | objd _ _ _ _ _ _ _ _ _ _ _ _ => cases hd
 | odk q1 q2 q3 q4 q5 =>
  cases hd
  rename_i a us kvs
  have sm : zca G (upd G a (.dK us)) := fun b o e => by rw [zaw (zap e q2)]; exact e
  refine ⟨upd G a (.dK us), sm, A.ch hi h1 (.odk q1 q2 q3 q4 q5) (fun b o e hb => e) (.sh (.dk zaC q4 (q5.mono sm))) (fun b hb => by cases hb) sm (fun b o e => ?_) (fun b o e hb => ?_)⟩
  ·by_cases hb : b = a
   ·subst hb; rw [zaC] at e; cases e; exact q3
   ·rw [zaw hb] at e; exact A.gh b o e
  ·rw [zaw (fun z => hb (List.mem_singleton.mpr z))]
 | odt q1 q2 q3 q4 q5 =>
  cases hd
  rename_i a us kvs
  have sm : zca G (upd G a (.dT us)) := fun b o e => by rw [zaw (zap e q2)]; exact e
  refine ⟨upd G a (.dT us), sm, A.ch hi h1 (.odt q1 q2 q3 q4 q5) (fun b o e hb => e) (.sh (.dt zaC q4 (q5.mono sm))) (fun b hb => by cases hb) sm (fun b o e => ?_) (fun b o e hb => ?_)⟩
  ·by_cases hb : b = a
   ·subst hb; rw [zaC] at e; cases e; exact q3
   ·rw [zaw hb] at e; exact A.gh b o e
  ·rw [zaw (fun z => hb (List.mem_singleton.mpr z))]
end
section
variable {Γ : Cn} {X : Cx} {a b c e value : Expr} {es : List Expr} {f fk fv : FE} {fr : FA} {pos pos' p dp : Pos} {g : FS} {x : Str} {sts : List Stmt}
def zty (i : Nat) : FS := fun ρ => some (.nx, ρ.set i (some (.odt [])))
theorem zr8 (i : Nat) (hN : X.N.Nodup) (hi : X.N[i]? = some x := by rfl) (hx : Loc X.env.scope x := by first | exact Or.inl rfl | exact Or.inr rfl) (hs : swapsWith (.Dict [] [] dp) (some (.Name x pos')) pos.line X.env = pure false := by rfl) (hf : X.fn x = true \/ X.env.scope.names.lookup x = some .local := by first | exact .inl rfl | exact .inr rfl | assumption) :
  DS Γ X (.Assign [.Name x pos'] (.Dict [] [] dp) pos) (zty i) := ⟨(zlx hN hi hx znA hs hf).imp fun E σ H => by
 rintro ⟨G₀, H₀, G, ρ, fl, ρ', A, h, k⟩ p hp
 cases h
 exact k _ G _ (.refl _) (A.setOdt hp)⟩
def zeJ (i : Nat) (fk fv : FE) : FS := fun ρ => (fv ρ).bind fun d => (fk ρ).bind fun kd => match ρ[i]? with
 | some (some (.odt kvs)) => match kd with
  | .tup t => (zeO t).bind fun ks => if kvs.length < 100000 then some (.nx, ρ.set i (some (.odt (zhJ kvs ks d)))) else none
  | _ => none
 | some (some (.odk kvs)) => (zmv kd).bind fun k => if kvs.length < 100000 then some (.nx, ρ.set i (some (.odk (zhJ kvs k d)))) else none
 | _ => none
theorem zku (i : Nat) (hu : X.A.units + 66 < cLine) {vp : Pos} {ke : Expr} (hk : DE Γ X ke fk) (hv' : DE Γ X value fv) (hN : X.N[i]? = some x := by rfl) (hv : Vis X.env.scope x := by first | exact Or.inl rfl | exact Or.inr (Or.inl rfl) | exact Or.inr (Or.inr rfl)) (hd : (x == ("__debug__" : Str)) = false := by decide)
  (hcd : (x == ("__classdict__" : Str)) = false := by decide) (hs : swapsWith value (some (.Subscript (.Name x vp) ke pos')) pos.line X.env = pure false := by rfl) :
  DS Γ X (.Assign [.Subscript (.Name x vp) ke pos'] value pos) (zeJ i fk fv) := ⟨(zlz (by omega) (zd5 hN hv hd hcd) hk.1 hv'.1 hs).imp fun E σ H => by
 rintro ⟨G₀, H₀, G, ρ, flw, ρ', A, h, k⟩
 unfold zeJ at h
 obtain ⟨d, hd, ha⟩ := oBd h
 clear h
 obtain ⟨kd, hkd, hq⟩ := oBd ha
 clear ha
 refine ⟨G₀, H₀, G, ρ, d, A, hd, fun v G1 H1 s1 r1 => ?_⟩
 have A1 := A.step s1
 split at hq
 ·rename_i kvs hi
  split at hq
  ·rename_i t
   obtain ⟨ks, hks, hq⟩ := oBd hq
   split at hq
   ·rename_i hz
    cases hq
    obtain ⟨w, fp, h1, h2⟩ := A1.get hi
    cases h2 with
    | odt q1 q2 q3 q4 q5 =>
     rename_i a us
     refine ⟨_, h1, G₀, H₀, G1, ρ, _, A1, hkd, fun u G2 H2 s2 r2 => ?_⟩
     have A2 := A1.step s2
     obtain ⟨bb, vs, rfl, hb, rb⟩ := r2.tup_inv
     have ev := zdr rb hks
     subst ev
     have ha2 : H2 a = some (.dT us) := s2.hh _ _ q3
     have hlen : us.length = kvs.length := by simpa using congrArg List.length q4
     obtain ⟨w1, w2⟩ := zkm (k := ks) (r1.mono s2.gg) q4 (q5.mono s2.gg)
     exact ⟨a, _, rfl, zol.t ha2 (s2.gh _ _ hb) (by have := sizeLine_eq; omega), k σ G2 _ (s1.gg.trans s2.gg) (A2.chOdt hi h1 w1 w2)⟩
   ·cases hq
  ·cases hq
 ·rename_i kvs hi
  obtain ⟨kk, hkk, hq⟩ := oBd hq
  split at hq
  ·rename_i hz
   cases hq
   obtain ⟨w, fp, h1, h2⟩ := A1.get hi
   cases h2 with
   | odk q1 q2 q3 q4 q5 =>
    rename_i a us
    refine ⟨_, h1, G₀, H₀, G1, ρ, _, A1, hkd, fun u G2 H2 s2 r2 => ?_⟩
    have A2 := A1.step s2
    have eu := zgs r2 hkk
    subst eu
    have ha2 : H2 a = some (.dK us) := s2.hh _ _ q3
    have hlen : us.length = kvs.length := by simpa using congrArg List.length q4
    obtain ⟨w1, w2⟩ := zkm (k := kk) (r1.mono s2.gg) q4 (q5.mono s2.gg)
    exact ⟨a, _, rfl, zol.k ha2 (by have := sizeLine_eq; omega), k σ G2 _ (s1.gg.trans s2.gg) (A2.chOdk hi h1 w1 w2)⟩
  ·cases hq
 ·cases hq⟩
def znm (i : Nat) (g : FS) : FS := fun ρ => match ρ[i]? with
 | some (some s) => match zq0 s with
  | some d => g (ρ.set i (some (.sh d)))
  | none => none
 | _ => none
theorem TDs.frzD (i : Nat) : ∀ E σ H, TDs Γ X.K (znm i g) E σ H -> TDs Γ X.K g E σ H := by
 rintro E σ H ⟨G₀, H₀, G, ρ, fl, ρ', A, h, k⟩
 unfold znm at h
 split at h
 ·rename_i s hi
  split at h
  ·rename_i d hd
   obtain ⟨G', sm, A'⟩ := A.frzD hi hd
   exact ⟨G₀, H₀, G', _, fl, ρ', A', h, fun σ1 G1 H1 sm1 A1 => k σ1 G1 H1 (sm.trans sm1) A1⟩
  ·cases h
 ·cases h
theorem zn3 (i : Nat) (h : DSs Γ X sts g) : DSs Γ X sts (znm i g) := ⟨h.1.imp (TDs.frzD i)⟩
def zl2 (f : FE) : FA := fun ρ => (f ρ).bind zgi
theorem zqo (hg : Gl X "list") (hm : X.mg "list" = none) (h : DE Γ X e f) (he : starEach [e] X.env = (false, eval e X.env) :: starEach [] X.env := by rfl) (hpl : (backTo pos (starEach [] X.env)).any (·.1) = false := by rfl) :
  DO Γ X (.Call (.Name "list" p) [e] [] pos) (zl2 f) := ⟨(zf5 zi1 hg hm (by rfl) (zdH h.1 zfu he) (by decide) (by decide) he hpl).imp fun σ H Q => by
 rintro ⟨G₀, H₀, G, ρ, ds, A, hq, k⟩
 unfold zl2 at hq
 obtain ⟨d, hd, hi⟩ := oBd hq
 clear hq
 refine ⟨G₀, H₀, G, ρ, d, A, hd, fun v G1 H1 s1 r1 => ?_⟩
 unfold zgi at hi
 split at hi
 ·cases hi
  obtain ⟨a, us, rfl, ha, ra⟩ := r1.lst_inv
  exact ⟨a, us, rfl, .inl (.inl (.inl (s1.gh _ _ ha))), fun p hp => k p us G1 H1 s1 hp ra⟩
 ·cases hi
  obtain ⟨a, us, rfl, ha, ra⟩ := r1.tup_inv
  exact ⟨a, us, rfl, .inr (.inl (.inl (s1.gh _ _ ha))), fun p hp => k p us G1 H1 s1 hp ra⟩
 ·cases hi
  obtain ⟨a, rfl, ha⟩ := r1.scr_inv
  exact ⟨a, _, rfl, .inl (s1.gh.seq ha), fun p hp => k p _ G1 H1 s1 hp (Reps.ints _)⟩
 ·cases hi⟩
end
end L2
end
section
namespace L2
open PySem PySem.Spec PyProof.Rows PyProof
section
variable {prog : Program} {w : World} {A : Around} {R : Result -> Shared -> Prop} {I : Addr} {fp wr : List Addr} {n : Nat} {P : Nat -> Value -> Prop} {St : Nat -> Heap -> Prop}
abbrev zqA (l : List Value) (c : Nat) : Obj := { cls := .type "list", dict := none, data := .seq l.toArray c, slots := #[] }
theorem zs4 (W : Walks prog w A.in1 I fp wr n P St) (bt : Nat -> Nat -> Bool) (kw : List (Str × Value)) (hc : CmpOf prog w A.in1 .Gt P bt) (S : Addr) (hSf : S ∉ fp) : ∀ (m j : Nat) (s : Shared) (u : Value) (c : Nat), n = j + 1 + m ->
  St (j + 1) s.heap -> P (argBest bt j) u -> s.heap.get? S = some (zqA [u, u] c) ->
  (∀ v h' tk, P (argBest bt (j + m)) v -> (∀ b o, b ∉ wr -> b ≠ S -> s.heap.get? b = some o -> h'.get? b = some o) -> R (.ok (.ret v)) { s with heap := h', toks := tk }) -> codeAny (model prog w) A (.builtin "max.loop" ⟨[.ref I, .none, .ref S], kw⟩) R s := by
 have sw : S ∉ wr := fun z => hSf (W.sub _ z)
 have nm : (toString "max" ++ toString ".loop" : String) = "max.loop" := by decide
 intro m
 induction m with
 | zero =>
  intro j s u c e st pu so r
  refine codeAny_builtin F.entry_max_loop (by
   rw [Around.under_plainId F.plain_max_loop _]
   show wpAny _ A.in1 (seqItems? (.ref S) >>= _) _ _ s
   refine qu (wpAny_seqItems so rfl ?_); show wpAny _ A.in1 (tryCatch (pyNext (.ref I)) _ >>= _) _ _ s
   refine qu (wpAny_tryCatch (W.done s _ _ (by rw [e]; exact st) fun h' tk kp => ?_)); show wpAny _ A.in1 (updateSeq S (fun _ => #[]) >>= _) _ _ _
   have so' := kp S _ sw so
   refine qu ?_; refine wpAny_updateSeq so' rfl (qu (wpAny_letGo (wpAny_pure ?_)))
   exact r u _ tk pu fun b o hb hS z => (Heap.get?_update_other _ _ (Ne.symm hS)).trans (kp b o hb z))
 | succ m ih =>
  intro j s u c e st pu so r
  have lt : j + 1 < n := by omega
  refine codeAny_builtin F.entry_max_loop (by
   rw [Around.under_plainId F.plain_max_loop _]
   show wpAny _ A.in1 (seqItems? (.ref S) >>= _) _ _ s
   refine qu (wpAny_seqItems so rfl ?_); show wpAny _ A.in1 (tryCatch (pyNext (.ref I)) _ >>= _) _ _ s
   refine qu (wpAny_tryCatch (W.item (j + 1) s _ _ lt st fun v h' tk pv st' kp => ?_)); have so' := kp S _ sw so
   show wpAny _ A.in1 (tryCatch (holding [v, v] (richCompare .Gt v u >>= _)) _ >>= _) _ _ _
   refine qu (wpAny_tryCatch (wpAny_holding (qu (hc (j + 1) (argBest bt j) v u _ _ _ pv pu ?_)))); refine qu (wpAny_holding (wpAny_truthy_bool ?_))
   refine qu (wpAny_letGo (wpAny_pure ?_))
   have ae : j + 1 + m = j + (m + 1) := by omega
   by_cases hb : bt (j + 1) (argBest bt j) = true
   ·have ab : argBest bt (j + 1) = j + 1 := by simp only [argBest, hb, if_true]
    simp only [hb, if_true]
    refine qu ?_; refine wpAny_updateSeq so' rfl (qu (wpAny_letGo ?_)); rw [nm]
    refine wpAny_pure ⟨plainId_quiet F.plain_max_loop _, ih (j + 1) _ v _ (by omega) (W.frame _ _ _ st' fun b hf o z => ?_) (by rw [ab]; exact pv) (Heap.get?_update_self _ so' rfl) fun v' h2 t2 p2 k2 => ?_⟩
    ·exact (Heap.get?_update_other _ _ (fun q : S = b => hSf (by rw [q]; exact hf))).trans z
    ·exact r v' h2 t2 (by rw [← ae]; exact p2) fun b o hw hS z => k2 b o hw hS ((Heap.get?_update_other _ _ (Ne.symm hS)).trans (kp b o hw z))
   ·have hb' : bt (j + 1) (argBest bt j) = false := by simpa using hb
    have ab : argBest bt (j + 1) = argBest bt j := by simp only [argBest, hb', qo, if_false]
    simp only [hb', qo, if_false]
    refine qu (wpAny_letGo ?_); rw [nm]
    refine wpAny_pure ⟨plainId_quiet F.plain_max_loop _, ih (j + 1) _ u c (by omega) st' (by rw [ab]; exact pu) so' fun v' h2 t2 p2 k2 => ?_⟩
    exact r v' h2 t2 (by rw [← ae]; exact p2) fun b o hw hS z => k2 b o hw hS (kp b o hw z))
theorem znI (W : Walks prog w A.in1 I fp wr n P St) (bt : Nat -> Nat -> Bool) (kw : List (Str × Value)) (hc : CmpOf prog w A.in1 .Gt P bt) (S : Addr) (hSf : S ∉ fp) (hn : 0 < n) {s : Shared} {c : Nat} (st : St 0 s.heap) (so : s.heap.get? S = some (zqA [] c))
  (r : ∀ v h' tk, P (argBest bt (n - 1)) v -> (∀ b o, b ∉ wr -> b ≠ S -> s.heap.get? b = some o -> h'.get? b = some o) -> R (.ok (.ret v)) { s with heap := h', toks := tk }) : codeAny (model prog w) A (.builtin "max.loop" ⟨[.ref I, .none, .ref S], kw⟩) R s := by
 have sw : S ∉ wr := fun z => hSf (W.sub _ z)
 have nm : (toString "max" ++ toString ".loop" : String) = "max.loop" := by decide
 refine codeAny_builtin F.entry_max_loop (by
  rw [Around.under_plainId F.plain_max_loop _]
  show wpAny _ A.in1 (seqItems? (.ref S) >>= _) _ _ s
  refine qu (wpAny_seqItems so rfl ?_); show wpAny _ A.in1 (tryCatch (pyNext (.ref I)) _ >>= _) _ _ s
  refine qu (wpAny_tryCatch (W.item 0 s _ _ hn st fun v h' tk pv st' kp => ?_)); have so' := kp S _ sw so
  show wpAny _ A.in1 (updateSeq S (fun _ => #[v, v]) >>= _) _ _ _
  refine qu ?_; refine wpAny_updateSeq so' rfl ?_; rw [nm]
  refine wpAny_pure ⟨plainId_quiet F.plain_max_loop _, zs4 W bt kw hc S hSf (n - 1) 0 _ v _ (by omega) (W.frame _ _ _ st' fun b hf o z => ?_) pv (Heap.get?_update_self _ so' rfl) fun v' h2 t2 p2 k2 => ?_⟩
  ·exact (Heap.get?_update_other _ _ (fun q : S = b => hSf (by rw [q]; exact hf))).trans z
  ·exact r v' h2 t2 (by rw [Nat.zero_add] at p2; exact p2) fun b o hw hS z => k2 b o hw hS ((Heap.get?_update_other _ _ (Ne.symm hS)).trans (kp b o hw z)))
theorem zpT (W : Walks prog w A.in1 I fp wr n P St) (x : Str) (d : Value) (kw : List (Str × Value)) (S : Addr) (hSf : S ∉ fp) (hn : n = 0) {s : Shared} {c : Nat} (st : St 0 s.heap) (so : s.heap.get? S = some (zqA [] c))
  (r : ∀ h' tk, (∀ b o, b ∉ wr -> b ≠ S -> s.heap.get? b = some o -> h'.get? b = some o) -> R (.ok (.ret d)) { s with heap := h', toks := tk }) : codeAny (model prog w) A (.builtin "max.loop" ⟨[.ref I, .none, .ref S], (x, d) :: kw⟩) R s := by
 subst hn
 refine codeAny_builtin F.entry_max_loop (by
  rw [Around.under_plainId F.plain_max_loop _]
  show wpAny _ A.in1 (seqItems? (.ref S) >>= _) _ _ s
  refine qu (wpAny_seqItems so rfl ?_); show wpAny _ A.in1 (tryCatch (pyNext (.ref I)) _ >>= _) _ _ s
  refine qu (wpAny_tryCatch (W.done s _ _ st fun h' tk kp => ?_))
  show wpAny _ A.in1 (rule _ >>= _) _ _ _
  refine qu (wpAny_rule ?_)
  exact wpAny_pure (r h' tk fun b o hb _ z => kp b o hb z))
end
section
variable {prog : Program} {w : World} {A : Around} {E : Value -> Shared -> Prop} {s : Shared}
theorem zmX (a v : Value) : argsOk "max" ⟨[a], [(Str.ofString "default", v)]⟩ := by unfold argsOk; kernel_rfl
theorem zmN {x d : Value} {Q : Value -> Shared -> Prop}
  (h : wpAny (model prog w) A.in1 (pyIter x) (fun it t => ∃ I fp wr n P St bt, it = .ref I /\ Walks prog w A.in1 I fp wr n P St /\ St 0 t.heap /\ (∀ b ∈ fp, b < t.heap.objs.size) /\ CmpOf prog w A.in1 .Gt P bt /\
   (n = 0 -> ∀ h' tk, (∀ b o, b ∉ wr -> t.heap.get? b = some o -> h'.get? b = some o) -> Q d { t with heap := h', toks := tk }) /\
   (0 < n -> ∀ v h' tk, P (argBest bt (n - 1)) v -> (∀ b o, b ∉ wr -> t.heap.get? b = some o -> h'.get? b = some o) -> Q v { t with heap := h', toks := tk })) E s) :
  wpAny (model prog w) A (call (.builtin "max") [x] [(Str.ofString "default", d)]) Q E s := by
 have nm : (toString "max" ++ toString ".loop" : String) = "max.loop" := by decide
 refine kmb_tree F.kind_max F.plain_max F.entry_max (zmX _ _) ?_
 show wpAny _ A.in1 (Builtin.Builtins.bindParams "max" ["key", "default"] 0 ⟨[], [(Str.ofString "default", d)]⟩ >>= _) _ _ s
 refine qu (wpAny_of_eq (show Builtin.Builtins.bindParams "max" ["key", "default"] 0 ⟨[], [(Str.ofString "default", d)]⟩ = pure [none, some d] from rfl) ?_)
 refine qu (wpAny_pure ?_); refine qu (thn h fun it t q => ?_)
 obtain ⟨I, fp, wr, n, P, St, bt, rfl, W, st, hf, hc, q0, q1⟩ := q
 have nf : t.heap.objs.size ∉ fp := fun z => Nat.lt_irrefl _ (hf _ z)
 refine qu (wpAny_newObj_type ?_); rw [nm]
 by_cases hn : n = 0
 ·exact wpAny_pure ⟨plainId_quiet F.plain_max_loop _, zpT W _ d [] t.heap.objs.size nf hn (W.frame _ _ _ st fun b _ o z => qq _ z) (Heap.get?_push_size _ rfl) fun h' tk kp => q0 hn h' tk fun b o hb z => kp b o hb (Nat.ne_of_lt (qr z)) (qq _ z)⟩
 ·exact wpAny_pure ⟨plainId_quiet F.plain_max_loop _, znI W bt _ hc t.heap.objs.size nf (by omega) (W.frame _ _ _ st fun b _ o z => qq _ z) (Heap.get?_push_size _ rfl) fun v h' tk pv kp => q1 (by omega) v h' tk pv fun b o hb z => kp b o hb (Nat.ne_of_lt (qr z)) (qq _ z)⟩
end
section
variable {Γ : Cn} {X : Cx} {e : Expr} {f : FE} {pos p : Pos}
def zjJ : List D -> Option (List Int)
 | [] => some []
 | .int x :: r => (zjJ r).map (x :: ·)
 | _ :: _ => none
theorem zkq {K : PySem.W.Frag} {G : Hp} : ∀ {vs : List V} {ds : List D} {ys : List Int}, Reps Γ K G vs ds -> zjJ ds = some ys -> vs = ys.map V.int
 | _, [], ys, r, h => by cases r; cases h; rfl
 | _, d :: ds, ys, .cons h1 h2, h => by
  cases d with
  | int x =>
   obtain ⟨zs, hz, rfl⟩ := oMd (show (zjJ ds).map (x :: ·) = some ys from h)
   rw [h1.int_inv, zkq h2 hz]; rfl
  | _ => cases h
theorem zg6 : ∀ {ns : List Int} {us : List Value}, zbX (ns.map V.int) us -> us.length = ns.length /\ ∀ (i : Nat) v, us[i]? = some v -> ∃ t, v = .int (ns.getD i 0) t
 | [], _, r => by rw [List.map_nil] at r; cases r; exact ⟨rfl, fun i v h => by simp at h⟩
 | n :: ns, _, r => by
  rw [ql] at r
  cases r with
  | cons r1 r2 =>
   obtain ⟨h1, h2⟩ := zg6 r2
   refine ⟨by simp [h1], fun i v h => ?_⟩
   cases i with
   | zero =>
    obtain ⟨t, rfl⟩ := r1
    cases h
    exact ⟨t, rfl⟩
   | succ i => exact h2 i v h
def btI (ns : List Int) (i j : Nat) : Bool := decide (ns.getD i 0 > ns.getD j 0)
def mxI (ns : List Int) : D := if ns = [] then .non else .int (ns.getD (argBest (btI ns) (ns.length - 1)) 0)
def mxV (ns : List Int) : V := if ns = [] then .non else .int (ns.getD (argBest (btI ns) (ns.length - 1)) 0)
def zpW : D -> Option D
 | .lst l => (zjJ l).map mxI
 | _ => none
def zsF (t : TE) : TE := fun σ H Q => t σ H fun v H1 => ∃ (a : Addr) (ns : List Int), [v] = [.ref a] /\ H1 a = some (.lst (ns.map V.int)) /\ Q (mxV ns) H1
theorem zpx {t : TE} {j : Nat} {cp kp : Pos} (hc : X.calm = true) (hg : Gl X "max") (hm : X.mg "max" = none) (h : PE X e t) (he : starEach [e] X.env = (false, eval e X.env) :: starEach [] X.env := by rfl) (hb : backTo pos (starEach [e] X.env) = (false, eval e X.env) :: backTo pos (starEach [] X.env) := by rfl)
  (hpl : (backTo pos (starEach [e] X.env)).any (·.1) = false := by rfl) :
  PE X (.Call (.Name "max" p) [e] [⟨some "default", .Constant .none j cp, kp⟩] pos) (zsF t) := by
 intro pins s σ H Q I q
 refine wpAny_Call_Name_kw (zgg I hg hm (u := .builtin "max") (by rfl) ?_)
 refine callWith_kw (thn (zdH h zfu he pos pins s σ H (fun vs H1 => ∃ (a : Addr) (ns : List Int), vs = [.ref a] /\ H1 a = some (.lst (ns.map V.int)) /\ Q (mxV ns) H1) I q) fun us s1 ⟨vs, H1, I1, r1, q1⟩ => ?_) hb hpl
 obtain ⟨a, ns, rfl, ha, q2⟩ := q1
 obtain ⟨u, rfl, ru⟩ := zeA r1
 cases ru
 refine kws_cons (Constant_none (kws_nil ?_))
 show wpAny _ _ (call (.builtin "max") [.ref a] [(Str.ofString "default", .none)]) _ _ _
 obtain ⟨its, rv, pl, _⟩ := I1.list (.inl (.inl ha))
 obtain ⟨vl, vi⟩ := zg6 rv
 refine zmN (wpAny_pyIter_list pl.isList ?_)
 have ne : a ≠ s1.heap.objs.size := by obtain ⟨o, _, h1, _⟩ := pl; exact Nat.ne_of_lt (qr h1)
 have hP : ∀ (i : Nat) v, its.toArray[i]? = some v -> ∃ t, v = .int (ns.getD i 0) t := fun i v hv => vi i v (by simpa using hv)
 have la : a < s1.heap.objs.size := by obtain ⟨o, _, h1, _⟩ := pl; exact qr h1
 have sz : its.toArray.size = ns.length := by simp [vl]
 refine ⟨s1.heap.objs.size, _, _, _, _, _, btI ns, rfl, Walks.list (A := X.A.in1) (show X.A.in1.handled = none from I1.ok.hd hc) s1.heap.objs.size a ne its.toArray, ⟨⟨_, Heap.get?_push_size _ rfl, rfl, rfl⟩, pl.isList.at fun o q => qq _ q⟩, fun b hb => ?_, CmpOf.ints_gt (fun i => ns.getD i 0) hP, fun hn h' tk hk => ?_, fun hn v h' tk pv hk => ?_⟩
 ·rw [Heap.size_push]
  simp only [List.mem_cons, List.not_mem_nil, or_false] at hb
  rcases hb with z | z
  ·rw [z]; exact Nat.lt_succ_self _
  ·rw [z]; exact Nat.lt_succ_of_lt la
 ·have e0 : ns = [] := List.length_eq_zero_iff.mp (by omega)
  refine ⟨.non, H1, I1.kept fun b o z => hk b o ?_ (qq _ z), rfl, ?_⟩
  ·intro z'
   have : b = s1.heap.objs.size := by simpa using z'
   exact absurd (qr z) (by rw [this]; exact Nat.lt_irrefl _)
  ·unfold mxV at q2
   rw [if_pos e0] at q2
   exact q2
 ·have e0 : ns ≠ [] := fun z => by rw [sz, z] at hn; exact absurd hn (by decide)
  obtain ⟨t, rfl⟩ := hP _ _ pv
  refine ⟨mxV ns, H1, I1.kept fun b o z => hk b o ?_ (qq _ z), ?_, q2⟩
  ·intro z'
   have : b = s1.heap.objs.size := by simpa using z'
   exact absurd (qr z) (by rw [this]; exact Nat.lt_irrefl _)
  ·unfold mxV
   rw [if_neg e0, sz]
   exact ⟨t, rfl⟩
theorem zqp {j : Nat} {cp kp : Pos} (hc : X.calm = true) (hg : Gl X "max") (hm : X.mg "max" = none) (h : DE Γ X e f) (he : starEach [e] X.env = (false, eval e X.env) :: starEach [] X.env := by rfl) (hb : backTo pos (starEach [e] X.env) = (false, eval e X.env) :: backTo pos (starEach [] X.env) := by rfl)
  (hpl : (backTo pos (starEach [e] X.env)).any (·.1) = false := by rfl) : DE Γ X (.Call (.Name "max" p) [e] [⟨some "default", .Constant .none j cp, kp⟩] pos) (b1 zpW f) := ⟨(zpx hc hg hm h.1 he hb hpl).imp fun σ H Q => by
 rintro ⟨G₀, H₀, G, ρ, z, A, hq, k⟩
 unfold b1 at hq
 obtain ⟨d, hd, hi⟩ := oBd hq
 refine ⟨G₀, H₀, G, ρ, d, A, hd, fun v G1 H1 s1 r1 => ?_⟩
 unfold zpW at hi
 split at hi
 ·obtain ⟨ns, hn, rfl⟩ := oMd hi
  obtain ⟨a, us, rfl, ha, ra⟩ := r1.lst_inv
  refine ⟨a, ns, rfl, by rw [← zkq ra hn]; exact s1.gh _ _ ha, k _ G1 H1 s1 ?_⟩
  unfold mxV mxI
  split
  ·exact .non
  ·exact .int _
 ·cases hi⟩
def zgW : D -> List D -> Option D
 | .lst l, [.str x] => (ziq l).bind fun ys => if ys.findIdx (· == x) < ys.length then some (.int (ys.findIdx (· == x) : Nat)) else none
 | _, _ => none
theorem zin : ∀ {ns : List Str} {us : List Value}, zbX (ns.map V.str) us -> us.length = ns.length /\ ∀ (i : Nat) v, us[i]? = some v -> ∃ y t, ns[i]? = some y /\ v = .str y t
 | [], _, r => by rw [List.map_nil] at r; cases r; exact ⟨rfl, fun i v h => by simp at h⟩
 | n :: ns, _, r => by
  rw [ql] at r
  cases r with
  | cons r1 r2 =>
   obtain ⟨h1, h2⟩ := zin r2
   refine ⟨by simp [h1], fun i v h => ?_⟩
   cases i with
   | zero =>
    obtain ⟨t, rfl⟩ := r1
    cases h
    exact ⟨n, t, rfl, rfl⟩
   | succ i => exact h2 i v h
theorem zlU : MtD Γ X "list" "list.index" zgW := by
 refine ⟨⟨fun v vs H Q => ∃ (a : Addr) (ys : List Str) (x : Str), v = .ref a /\ vs = [.str x] /\ H a = some (.lst (ys.map V.str)) /\ ys.findIdx (· == x) < ys.length /\ Q (.int (ys.findIdx (· == x) : Nat)) H, ?_, ?_⟩, ?_⟩
 ·intro pins s σ H x xs v us Q I rx rs h
  obtain ⟨a, ys, x, rfl, rfl, ha, hj, q⟩ := h
  cases rx
  obtain ⟨u, rfl, ru⟩ := zeA rs
  obtain ⟨tu, rfl⟩ := ru
  obtain ⟨its, n, rv, eo, hz⟩ := I.lst ha
  rw [qe] at hz
  obtain ⟨vl, vi⟩ := zin rv
  have hsz : its.toArray.size = ys.length := by simp [vl]
  have hat : ∀ (m : Nat) (hm : m < its.toArray.size), ∃ y t, ys[m]? = some y /\ its.toArray[m] = .str y t := fun m hm => vi m _ (by rw [List.getElem?_eq_getElem (by simpa using hm)]; simp)
  let ef : Value -> Bool := fun z => match z with | .str y _ => y == x | _ => false
  refine call_meets F.slot_list_index ⟨_, eo, rfl⟩ F.entry_list_index (F.args_list_index_2 _ _) (SeqAt.list_indexAt a its.toArray n none #[] (.str x tu) ef (ys.findIdx (· == x)) (by rw [hsz]; exact hj) (by unfold sizeLine at hz; omega) ?_ ?_) ⟨eo, fun y hy => ?_, ?_⟩
  ·obtain ⟨y, t, e1, e2⟩ := hat _ (by rw [hsz]; exact hj)
   rw [e2]
   have := List.findIdx_getElem (w := hj)
   rw [List.getElem?_eq_getElem hj] at e1
   cases e1
   exact this
  ·intro m hm hlt
   obtain ⟨y, t, e1, e2⟩ := hat m hm
   rw [e2]
   have hm' : m < ys.length := by rw [← hsz]; exact hm
   rw [List.getElem?_eq_getElem hm'] at e1
   cases e1
   have := List.not_of_lt_findIdx hlt
   show (ys[m] == x) = false
   simpa using this
  ·obtain ⟨m, hm, rfl⟩ := Array.mem_iff_getElem.mp hy
   obtain ⟨z, t, e1, e2⟩ := hat m hm
   rw [e2]
   exact SeqAt.EqAt.str_str z t x tu
  ·exact ⟨.int _, H, I.tok _, ⟨_, rfl⟩, q⟩
 ·intro G H v x vs ds z gh r1 r2 h Q k
  unfold zgW at h
  split at h
  ·obtain ⟨ys, hy, h⟩ := oBd h
   split at h
   ·rename_i hl
    cases h
    obtain ⟨a, ws, rfl, ha, rw'⟩ := r1.lst_inv
    obtain ⟨v, rfl, r3⟩ := r2.one
    cases r3.str_inv
    refine ⟨a, ys, _, rfl, rfl, ?_, hl, k _ G H (.refl gh) (.int _)⟩
    rw [← zj6 rw' hy]
    exact gh _ _ ha
   ·cases h
  ·cases h
 ·intro G H v x ds z gh r h
  unfold zgW at h
  split at h
  ·obtain ⟨a, ws, rfl, ha, rw'⟩ := r.lst_inv
   exact .inl ⟨rfl, ws, .inl (.inl (gh _ _ ha))⟩
  ·cases h
end
end L2
end
section
namespace L2
open PySem PySem.Spec PyProof.Rows
def TDn (Γ : Cn) (K : PySem.W.Frag) (f : FE) : TE := fun σ H Q => ∃ G₀ H₀ G ρ d, At Γ K G₀ H₀ G H ρ σ /\ f ρ = some d /\ ∀ v G' H', Step G H G' H' -> Rep Γ K G' v d -> NewL H G' v d -> Q v H'
structure DN (Γ : Cn) (X : Cx) (e : Expr) (f : FE) : Prop where
 out : PE X e (TDn Γ X.K f)
section
variable {Γ : Cn} {X : Cx} {a b c e tg iter : Expr} {es : List Expr} {fa fb fc f fe : FE} {fr fi : FA} {pos p p2 pos' : Pos} {ft : FT} {g : FG} {x : Str}
variable {scope : Scope} {N' : List Str} {fv : List (Option Nat)} {ifs : List Expr} {elt : Expr}
structure DBn (Γ : Cn) (X : Cx) (N' : List Str) (scope : Scope) (tg : Expr) (ifs : List Expr) (elt : Expr) (g : FG) (ft : FT) (fe : FE) : Prop where
 out : ∀ (cl : List (Str × Addr)) (C : Addr) (s₀ : Shared) (H₀ : Hp) (fp : List Addr), DG Γ (zc0 X N' scope cl C s₀ H₀ fp) tg g /\ DTs Γ (zc0 X N' scope cl C s₀ H₀ fp) ifs ft /\ DN Γ (zc0 X N' scope cl C s₀ H₀ fp) elt fe
end
def spN (Γ : Cn) (K : PySem.W.Frag) (n : Nat) (F : List D -> Option D) : Sp := fun vs H Q _ => ∃ G ds d, zca G H /\ Reps Γ K G vs ds /\ ds.length = n /\ F ds = some d /\ ∀ v G' H', Step G H G' H' -> Rep Γ K G' v d -> NewL H G' v d -> Q v H'
section
variable {Γ : Cn} {P : Program} {w : World} {K : PySem.W.Frag} {mg : Str -> Option Value} {base : Heap}
structure CalN (Γ : Cn) (P : Program) (w : World) (K : PySem.W.Frag) (mg : Str -> Option Value) (base : Heap) (x : Str) (n k : Nat) (F : List D -> Option D) : Prop where
 ex : ∃ f fd ps, FnOk P w K mg base CX0 k f fd ps (spN Γ K n F) /\ mg x = some (.ref f) /\ PySem.W.keepIn K (.ref f) = true /\ zdR K fd ps []
structure CalMN (Γ : Cn) (P : Program) (w : World) (K : PySem.W.Frag) (mg : Str -> Option Value) (base : Heap) (c m : Str) (n k : Nat) (F : List D -> Option D) : Prop where
 ex : ∃ C f fd ps, Γ.cls c = some C /\ Cls K C /\ Meth K C m f /\ FnOk P w K mg base CX0 k f fd ps (spN Γ K n F) /\ zdR K fd ps []
structure CalMO (Γ : Cn) (P : Program) (w : World) (K : PySem.W.Frag) (mg : Str -> Option Value) (base : Heap) (c m : Str) (n k : Nat) (F : List D -> Option (List D)) : Prop where
 ex : ∃ C f fd ps, Γ.cls c = some C /\ Cls K C /\ Meth K C m f /\ FnOk P w K mg base CX0 k f fd ps (spO Γ K n F) /\ zdR K fd ps []
end
section
variable {Γ : Cn} {X : Cx} {e o : Expr} {es : List Expr} {fo f : FE} {fr : FA} {pos p apos pos' : Pos} {c m x : Str}
end
end L2
end
section
namespace Law
open PySem L2
abbrev oS (d : D) : Option Slot := some (.sh d)
abbrev FQ := List D -> Option D
theorem dC {Γ : Cn} {X : Cx} {e : Expr} {es : List Expr} {fr : FA} {p pos : Pos} {x : Str} {n k : Nat} {F : FQ} (C : Cal Γ X.prog X.w X.K X.mg X.base x n k F) {j : Nat} (hr : Room j X.A) (ha : DA Γ X (e :: es) fr) (hn : ∀ ρ ds, fr ρ = some ds -> ds.length = n) (hk : k <= j := by decide) (hg : Gl X x := by exact rfl) (hdb : (x == ("__debug__" : Str)) = false := by decide) (he : starEach (e :: es) X.env = (false, eval e X.env) :: starEach es X.env := by rfl) (hpl : (backTo pos (starEach es X.env)).any (·.1) = false := by rfl) : DE Γ X (.Call (.Name x p) (e :: es) [] pos) (cF F fr) := zmG C hr hk hg ha hn hdb he hpl
end Law
end
section
namespace Law
open PySem L2 PySem.Spec PyProof.Rows
def top (i : Nat) : Stmt := PySem.Challenge.pw_shopbound_k26_known_orders.main.body.getD i (.Pass ⟨0, 0, 0, 0⟩)
abbrev zer : Stmt := top 52
abbrev zdn : Stmt := top 53
abbrev zdD : Stmt := top 55
abbrev zeo : Stmt := top 54
abbrev zc3 : Stmt := top 56
abbrev zdC : Stmt := top 57
abbrev zeq : Stmt := top 58
abbrev zdm : Stmt := top 59
abbrev zdF : Stmt := top 60
abbrev zdl : Stmt := top 61
abbrev zdE : Stmt := top 62
abbrev zep : Stmt := top 64
abbrev zeZ : Stmt := top 10
abbrev zei : Stmt := top 13
abbrev ze0 : Stmt := top 15
abbrev ze3 : Stmt := top 29
abbrev zf2 : Stmt := top 14
abbrev zdB : Stmt := top 30
abbrev zf1 : Stmt := top 11
abbrev ze4 : Stmt := top 31
abbrev zdy : Stmt := top 17
abbrev zdj : Stmt := top 32
abbrev zej : Stmt := top 16
abbrev zhF : Stmt := top 33
abbrev ze5 : Stmt := top 34
abbrev zf0 : Stmt := top 35
abbrev zel : Stmt := top 36
abbrev zhG : Stmt := top 37
abbrev ze6 : Stmt := top 38
abbrev ze2 : Stmt := top 39
abbrev zdA : Stmt := top 40
abbrev zf3 : Stmt := top 41
abbrev zem : Stmt := top 42
abbrev zek : Stmt := top 43
abbrev zdk : Stmt := top 44
abbrev ze1 : Stmt := top 45
abbrev zdz : Stmt := top 46
abbrev zcK : Stmt := top 47
abbrev zju : Stmt := top 49
abbrev zcS : Stmt := zhS (top 50) 0
abbrev zen : Stmt := top 63
abbrev ze7 : Stmt := top 65
abbrev zcz : Stmt := zhS (top 50) 9
abbrev zcR : Stmt := zhS (top 50) 3
abbrev zeY : Stmt := top 2
abbrev zcL : Stmt := zhS (top 50) 5
abbrev zcQ : Stmt := top 3
abbrev zc2 : Stmt := top 4
abbrev zfZ : Stmt := top 66
def zd3 (mg : Str -> Option Value) : Tok := match mg "LONGEST_NAME" with | some (.int _ t) => t | _ => 0
def zeE (mg : Str -> Option Value) : Tok := match mg "MOST_AMOUNT" with | some (.int _ t) => t | _ => 0
def zd2 (mg : Str -> Option Value) : Tok := match mg "MOST_BENCHES" with | some (.int _ t) => t | _ => 0
def zeD (mg : Str -> Option Value) : Tok := match mg "MOST_BREAKS" with | some (.int _ t) => t | _ => 0
def zd1 (mg : Str -> Option Value) : Tok := match mg "MOST_HORIZON" with | some (.int _ t) => t | _ => 0
def zfX (mg : Str -> Option Value) : Tok := match mg "MOST_JOBS" with | some (.int _ t) => t | _ => 0
def zfs (mg : Str -> Option Value) : Tok := match mg "MOST_LINKS" with | some (.int _ t) => t | _ => 0
def zeC (mg : Str -> Option Value) : Tok := match mg "MOST_SETUPS" with | some (.int _ t) => t | _ => 0
def zfr (mg : Str -> Option Value) : Tok := match mg "MOST_STEPS" with | some (.int _ t) => t | _ => 0
def zeB (mg : Str -> Option Value) : Tok := match mg "MOST_STOCKS" with | some (.int _ t) => t | _ => 0
def zfW (mg : Str -> Option Value) : Tok := match mg "MOST_WAYS" with | some (.int _ t) => t | _ => 0
structure Bn (mg : Str -> Option Value) : Prop where
 z_abs : mg "abs" = none
 z_all : mg "all" = none
 z_bool : mg "bool" = none
 z_dict : mg "dict" = none
 z_enumerate : mg "enumerate" = none
 z_int : mg "int" = none
 z_isinstance : mg "isinstance" = none
 z_len : mg "len" = none
 z_list : mg "list" = none
 z_max : mg "max" = none
 z_min : mg "min" = none
 z_range : mg "range" = none
 z_set : mg "set" = none
 z_str : mg "str" = none
 z_tuple : mg "tuple" = none
 c_LONGEST_NAME : mg "LONGEST_NAME" = some (.int 8 (zd3 mg))
 c_MOST_AMOUNT : mg "MOST_AMOUNT" = some (.int 1000000 (zeE mg))
 c_MOST_BENCHES : mg "MOST_BENCHES" = some (.int 8 (zd2 mg))
 c_MOST_BREAKS : mg "MOST_BREAKS" = some (.int 10 (zeD mg))
 c_MOST_HORIZON : mg "MOST_HORIZON" = some (.int 1000000 (zd1 mg))
 c_MOST_JOBS : mg "MOST_JOBS" = some (.int 40 (zfX mg))
 c_MOST_LINKS : mg "MOST_LINKS" = some (.int 100 (zfs mg))
 c_MOST_SETUPS : mg "MOST_SETUPS" = some (.int 100 (zeC mg))
 c_MOST_STEPS : mg "MOST_STEPS" = some (.int 40 (zfr mg))
 c_MOST_STOCKS : mg "MOST_STOCKS" = some (.int 6 (zeB mg))
 c_MOST_WAYS : mg "MOST_WAYS" = some (.int 4 (zfW mg))
def zgD : List Str := ["benches", "steps", "jobs", "setups", "links", "stocks", "horizon", "bench_by_name", "step_by_name", "setup_by_names", "job_by_step"]
end Law
end
section
set_option maxHeartbeats 4000000
namespace Law
local macro_rules | `(tactic| trivial) => `(tactic| exact ⟨rfl, rfl, rfl, by decide +kernel, rfl, by decide +kernel, by decide +kernel⟩)
open PySem L2 PySem.Spec PyProof.Rows
variable {Γ : Cn} {P : Program} {w : World} {K : PySem.W.Frag} {mg : Str -> Option Value} {base : Heap}
def zgP : FQ := zbW 0
  (zaA (sIf (toB (b2 ltD (vSh 1) (cF zcT (zaa (vSh 0) zai)))) (zbc (b2 ixD (vSh 0) (vSh 1))) zb8) (zbc (vC (.int 0))))
theorem ziD : FnScope ["_law_script", "_law_k"] ["_law_script", "_law_k"] (zal zer) := by trivial
theorem zig (F : Dfn K mg "_law_cell" zer) (B : Bn mg)  : Cal Γ P w K mg base "_law_cell" 2 1 (zgP) :=
 F.cal (k := 0) ziD (fun _ _ _ _ _ _ us hl => match us, hl with | [_, _], _ => rfl) fun f cdv A outer s H E hr =>
  (zaf (zbz (zbN zoe (zac 1) (zaz zcW rfl B.z_len (by rfl) (zab (zac 0) zae)) (zbI _)) (zak (zax (zar (zac 0) (zac 1)))) zaH) (zak (zax zad)))
def zeW : FQ := zbW 4
  (zaA (zbg 3 (b2 zet (cF zsz (zaa (vSh 0) zai)) (vC (.int 2)))) (zaA (zeH 4 (szF zai)) (zaA (zdo (itE (vSh 2)) (zcG 2 (zaI (zaG 5) (zaI (zaG 6) zcF))) (sIf (orT (toB (b2 eqD (b2 zcn (vSh 0) (vC (.int 2))) (vC (.int 1)))) (toB (b2 eqD (vSh 3) (vC (.int 0))))) (zaA (zbg 3 (b2 zbf (b2 zcn (b2 zbf (vSh 3) (vSh 0)) (vC (.int 2147483629))) (vC (.int 48271)))) (zaA (zbg 3 (b2 zbf (vSh 3) (b2 zd6 (b2 zd6 (vC (.int 7919)) (b2 zbf (vSh 1) (vSh 5))) (b2 zbf (vSh 1) (vSh 5))))) (zaA (zbg 3 (b2 zcn (b2 zd6 (vSh 3) (vSh 3)) (vC (.int 2147483587)))) (zdp 4 (b2 zcn (b2 zet (vSh 3) (vC (.int 16))) (vSh 6)))))) (zaA (zdp 4 (b2 zcn (vSh 3) (vSh 6))) (zbg 3 (b2 zet (vSh 3) (vSh 6)))))) (zgT 4 (zbc (vSh 4))))))
theorem za3 : FnScope ["_law_cell_here", "_law_k", "_law_sizes", "_law_number", "_law_found", "_law_turn", "_law_size"] ["_law_cell_here", "_law_k", "_law_sizes"] (zal zdn) := by trivial
theorem zgB (F : Dfn K mg "_law_digits" zdn) (B : Bn mg)  : Cal Γ P w K mg base "_law_digits" 3 1 (zeW) :=
 F.cal (k := 0) za3 (fun _ _ _ _ _ _ us hl => match us, hl with | [_, _, _], _ => rfl) fun f cdv A outer s H E hr =>
  (zaf (zaQ 3 za3.nd (zff (zaz zsp rfl B.z_abs (by rfl) (zab (zac 0) zae)) zad)) (zaf (zcU 4 za3.nd (zbw zae)) (zaf (zcc PassesOwn.never rfl (zdM rfl B.z_enumerate (zac 2)) (zd8 (n := 2) rfl (za4 (zaq 5 za3.nd) (za4 (zaq 6 za3.nd) zc8))) (zak (zbz (DW.dt (zcM (zbN zgw (zbQ (zac 0) zad) zad (zbI _)) (zck (zbN zgw (zac 3) zad (zbI _))))) (zaf (zaQ 3 za3.nd (za2 (zbQ (za2 (zac 3) (zac 0)) zad) zad)) (zaf (zaQ 3 za3.nd (za2 (zac 3) (zd9 (zd9 zad (za2 (zac 1) (zac 5))) (za2 (zac 1) (zac 5))))) (zaf (zaQ 3 za3.nd (zbQ (zd9 (zac 3) (zac 3)) zad)) (zak (zbk 4 (zbQ (zff (zac 3) zad) (zac 6))))))) (zaf (zbk 4 (zbQ (zac 3) (zac 6))) (zak (zaQ 3 za3.nd (zff (zac 3) (zac 6)))))))) (zcA 4 (zak (zax (zac 4)))))))
def zfF : FQ := zbW 6
  (zaA (zeH 2 (szF zai)) (zaA (zbg 3 (vC (.int 0))) (zaA (zdo (itF (vSh 0)) (zcG 2 (zaI (zaG 4) (zaI (zaG 5) zcF))) (zaA (zbg 6 (b2 zbf (vSh 3) (vSh 4))) (zaA (zbg 7 (b2 zbf (b2 zbf (vSh 6) (vC (.int 1))) (vSh 5))) (sIf (toB (b2 leD (vSh 7) (vSh 1))) (zaA (zdp 2 (zbu (szF (zaa (vSh 6) (zaa (vSh 7) zai))))) (zbg 3 (b2 zbf (vSh 7) (vC (.int 1))))) zb8)))) (zgT 2 (zbc (vSh 2))))))
theorem zbi : FnScope ["_law_row", "_law_horizon", "_law_found", "_law_free", "_law_begin", "_law_size", "_law_low", "_law_high"] ["_law_row", "_law_horizon"] (zal zdD) := by trivial
theorem zg3 (F : Dfn K mg "_law_spans" zdD) (B : Bn mg)  : Cal Γ P w K mg base "_law_spans" 2 1 (zfF) :=
 F.cal (k := 0) zbi (fun _ _ _ _ _ _ us hl => match us, hl with | [_, _], _ => rfl) fun f cdv A outer s H E hr =>
  (zaf (zcU 2 zbi.nd (zbw zae)) (zaf (zaQ 3 zbi.nd zad) (zaf (zcc PassesOwn.never rfl (zaM (zac 0)) (zd8 (n := 2) rfl (za4 (zaq 4 zbi.nd) (za4 (zaq 5 zbi.nd) zc8))) (zaf (zaQ 6 zbi.nd (za2 (zac 3) (zac 4))) (zaf (zaQ 7 zbi.nd (za2 (za2 (zac 6) zad) (zac 5))) (zak (zbz (zbN zh5 (zac 7) (zac 1) (zbI _)) (zaf (zbk 2 (zbx (zab (zac 6) (zab (zac 7) zae)))) (zak (zaQ 3 zbi.nd (za2 (zac 7) zad)))) zaH))))) (zcA 2 (zak (zax (zac 2)))))))
def zgM : FQ := zbW 1
  (zaA (zbg 1 (b2 ixD (vC (.str "abcdefghijklmnopqrstuvwxyz")) (b2 zcn (vSh 0) (vC (.int 26))))) (zbc (b2 zbf (vSh 1) (b2 zd6 (b2 ixD (vC (.str "qrstuvw")) (b2 zet (vSh 0) (vC (.int 26)))) (b2 zcn (vSh 0) (vC (.int 4)))))))
theorem zft : FnScope ["_law_k", "_law_letter"] ["_law_k"] (zal zeo) := by trivial
theorem zid (F : Dfn K mg "_law_name" zeo) (B : Bn mg)  : Cal Γ P w K mg base "_law_name" 1 1 (zgM) :=
 F.cal (k := 0) zft (fun _ _ _ _ _ _ us hl => match us, hl with | [_], _ => rfl) fun f cdv A outer s H E hr =>
  (zaf (zaQ 1 zft.nd (zar zcZ (zbQ (zac 0) zad))) (zak (zax (za2 (zac 1) (zd9 (zar zcZ (zff (zac 0) zad)) (zbQ (zac 0) zad))))))
def zee (zag : FQ) (zbp : FQ) (zas : FQ) : FQ := zbW 5
  (zaA (zeH 2 (szF zai)) (zaA (zdo (itE (vSh 0)) (zcG 2 (zaI (zaG 3) (zaI (zaG 4) zcF))) (zaA (zbg 5 (cF zag (zaa (vSh 4) (zaa (vSh 3) (zaa (zaS (szF (zaa (vC (.int 4)) (zaa (vC (.int 5)) (zaa (vC (.int 3)) (zaa (vC (.int 7)) (zaa (vC (.int 4)) (zaa (vC (.int 9)) (zaa (vC (.int 5)) zai))))))))) zai))))) (zaA (zbg 6 (slF (zaS (szF (zaa (zbu (szF (zaa (b2 ixD (vSh 5) (vC (.int 1))) (zaa (b2 ixD (vSh 5) (vC (.int 2))) zai)))) (zaa (zbu (szF (zaa (b2 ixD (vSh 5) (vC (.int 3))) (zaa (b2 ixD (vSh 5) (vC (.int 4))) zai)))) (zaa (zbu (szF (zaa (b2 ixD (vSh 5) (vC (.int 5))) (zaa (b2 ixD (vSh 5) (vC (.int 6))) zai)))) zai))))) pN (pS (b2 ixD (vSh 5) (vC (.int 0)))))) (zdp 2 (zbu (szF (zaa (cF zas (zaa (b2 zbf (vC (.int 60)) (vSh 3)) zai)) (zaa (cF zbp (zaa (vSh 6) (zaa (vSh 1) zai))) zai)))))))) (zgT 2 (zbc (vSh 2)))))
theorem zbv : FnScope ["_law_cells", "_law_horizon", "_law_found", "_law_k", "_law_cell_here", "_law_row", "_law_spans_here"] ["_law_cells", "_law_horizon"] (zal zc3) := by trivial
theorem zfN {zag : FQ} {zbp : FQ} {zas : FQ} (F : Dfn K mg "_law_benches" zc3) (B : Bn mg) (c__law_digits : Cal Γ P w K mg base "_law_digits" 3 1 zag) (c__law_spans : Cal Γ P w K mg base "_law_spans" 2 1 zbp) (c__law_name : Cal Γ P w K mg base "_law_name" 1 1 zas) : Cal Γ P w K mg base "_law_benches" 2 2 (zee zag zbp zas) :=
 F.cal (k := 1) zbv (fun _ _ _ _ _ _ us hl => match us, hl with | [_, _], _ => rfl) fun f cdv A outer s H E hr =>
  (zaf (zcU 2 zbv.nd (zbw zae)) (zaf (zcc PassesOwn.never rfl (zdM rfl B.z_enumerate (zac 0)) (zd8 (n := 2) rfl (za4 (zaq 3 zbv.nd) (za4 (zaq 4 zbv.nd) zc8))) (zaf (zaQ 5 zbv.nd (dC c__law_digits hr (zab (zac 4) (zab (zac 3) (zab (DO.de (zbw (zab zad (zab zad (zab zad (zab zad (zab zad (zab zad (zab zad zae))))))))) zae))) ln3)) (zaf (zaQ 6 zbv.nd (zbl (DO.de (zbw (zab (zbx (zab (zar (zac 5) zad) (zab (zar (zac 5) zad) zae))) (zab (zbx (zab (zar (zac 5) zad) (zab (zar (zac 5) zad) zae))) (zab (zbx (zab (zar (zac 5) zad) (zab (zar (zac 5) zad) zae))) zae))))) zb9 (zbM (zar (zac 5) zad)))) (zak (zbk 2 (zbx (zab (dC c__law_name hr (zab (za2 zad (zac 3)) zae) ln1) (zab (dC c__law_spans hr (zab (zac 6) (zab (zac 1) zae)) ln2) zae)))))))) (zcA 2 (zak (zax (zac 2))))))
def zfE (zag : FQ) (zas : FQ) : FQ := zbW 5
  (zaA (zeH 4 (szF zai)) (zaA (zdo (itE (vSh 0)) (zcG 2 (zaI (zaG 5) (zaI (zaG 6) zcF))) (zaA (zbg 7 (cF zag (zaa (vSh 6) (zaa (b2 zbf (vSh 5) (vC (.int 7))) (zaa (zaS (szF (zaa (vC (.int 3)) (zaa (cF zcT (zaa (vSh 1) zai)) (zaa (vSh 3) (zaa (cF zcT (zaa (vSh 1) zai)) (zaa (vSh 3) (zaa (vC (.int 3)) zai)))))))) zai))))) (zaA (zeH 8 (szF (zaa (zbu (szF (zaa (b2 ixD (b2 ixD (vSh 1) (b2 ixD (vSh 7) (vC (.int 1)))) (vC (.int 0))) (zaa (b2 zbf (vC (.int 1)) (b2 zcn (b2 ixD (vSh 7) (vC (.int 2))) (vSh 2))) zai)))) zai))) (zaA (sIf (zfz (toB (b2 eqD (b2 ixD (vSh 7) (vC (.int 0))) (vC (.int 0)))) (toB (b2 neA (b2 ixD (vSh 7) (vC (.int 3))) (b2 ixD (vSh 7) (vC (.int 1)))))) (zdp 8 (zbu (szF (zaa (b2 ixD (b2 ixD (vSh 1) (b2 ixD (vSh 7) (vC (.int 3)))) (vC (.int 0))) (zaa (b2 zbf (vC (.int 1)) (b2 zcn (b2 ixD (vSh 7) (vC (.int 4))) (vSh 2))) zai))))) zb8) (zgT 8 (zdp 4 (zbu (szF (zaa (cF zas (zaa (vSh 5) zai)) (zaa (b2 ixD (vC (.str "pqr")) (b2 ixD (vSh 7) (vC (.int 5)))) (zaa (vSh 8) zai))))))))))) (zgT 4 (zbc (vSh 4)))))
theorem zbY : FnScope ["_law_cells", "_law_benches_here", "_law_horizon", "_law_longest", "_law_found", "_law_k", "_law_cell_here", "_law_row", "_law_ways"] ["_law_cells", "_law_benches_here", "_law_horizon", "_law_longest"] (zal zdC) := by trivial
theorem zg2 {zag : FQ} {zas : FQ} (F : Dfn K mg "_law_steps" zdC) (B : Bn mg) (c__law_digits : Cal Γ P w K mg base "_law_digits" 3 1 zag) (c__law_name : Cal Γ P w K mg base "_law_name" 1 1 zas) : Cal Γ P w K mg base "_law_steps" 4 2 (zfE zag zas) :=
 F.cal (k := 1) zbY (fun _ _ _ _ _ _ us hl => match us, hl with | [_, _, _, _], _ => rfl) fun f cdv A outer s H E hr =>
  (zaf (zcU 4 zbY.nd (zbw zae)) (zaf (zcc PassesOwn.never rfl (zdM rfl B.z_enumerate (zac 0)) (zd8 (n := 2) rfl (za4 (zaq 5 zbY.nd) (za4 (zaq 6 zbY.nd) zc8))) (zaf (zaQ 7 zbY.nd (dC c__law_digits hr (zab (zac 6) (zab (za2 (zac 5) zad) (zab (DO.de (zbw (zab zad (zab (zaz zcW rfl B.z_len (by rfl) (zab (zac 1) zae)) (zab (zac 3) (zab (zaz zcW rfl B.z_len (by rfl) (zab (zac 1) zae)) (zab (zac 3) (zab zad zae)))))))) zae))) ln3)) (zaf (zcU 8 zbY.nd (zbw (zab (zbx (zab (zar (zar (zac 1) (zar (zac 7) zad)) zad) (zab (za2 zad (zbQ (zar (zac 7) zad) (zac 2))) zae))) zae))) (zaf (zbz (DW.dt (zgp (zbN zgw (zar (zac 7) zad) zad (zbI _)) (zgo (zbN (zhs (zp9 hr)) (zar (zac 7) zad) (zar (zac 7) zad) (zbI _))))) (zak (zbk 8 (zbx (zab (zar (zar (zac 1) (zar (zac 7) zad)) zad) (zab (za2 zad (zbQ (zar (zac 7) zad) (zac 2))) zae))))) zaH) (zcA 8 (zak (zbk 4 (zbx (zab (dC c__law_name hr (zab (zac 5) zae) ln1) (zab (zar zcZ (zar (zac 7) zad)) (zab (zac 8) zae))))))))))) (zcA 4 (zak (zax (zac 4))))))
def zgO (zag : FQ) (zas : FQ) : FQ := zbW 8
  (zaA (zeH 3 (szF zai)) (zaA (zbg 4 (zaS (zaE (itF (vSh 1)) (zaG 0) tT (b2 ixD (vSh 0) (vC (.int 0))) [none]))) (zaA (zdo (itE (vSh 0)) (zcG 2 (zaI (zaG 5) (zaI (zaG 6) zcF))) (zaA (zbg 7 (cF zag (zaa (vSh 6) (zaa (b2 zbf (vSh 5) (vC (.int 17))) (zaa (zaS (szF (zaa (vC (.int 4)) (zaa (vC (.int 3)) (zaa (vC (.int 3)) (zaa (vC (.int 2)) (zaa (vC (.int 5)) (zaa (vC (.int 7)) zai)))))))) zai))))) (zaA (zbg 8 (slF (vSh 4) pN (pS (b2 ixD (vSh 7) (vC (.int 0)))))) (zaA (zbg 4 (slF (vSh 4) (pS (b2 ixD (vSh 7) (vC (.int 0)))) pN)) (sIf (toB (b2 neA (vSh 8) (zaS (szF zai)))) (zaA (zbg 9 (cF zlT (zaa (vSh 2) (zaa (b2 zd6 (b2 ixD (vSh 7) (vC (.int 1))) (cF znT (zaa (b2 eqD (b2 ixD (vSh 7) (vC (.int 2))) (vC (.int 0))) zai))) zai)))) (zaA (zbg 10 (cF zqK (zaa (vC (.int 0)) (zaa (b2 zon (vSh 2) (b2 zd6 (b2 ixD (vSh 7) (vC (.int 4))) (cF znT (zaa (b2 eqD (b2 ixD (vSh 7) (vC (.int 2))) (vC (.int 1))) zai)))) zai)))) (zaA (zbg 8 (b2 zbf (slF (vSh 8) (pS (b2 zcn (b2 ixD (vSh 7) (vC (.int 5))) (vC (.int 2)))) pN) (slF (vSh 8) pN (pS (b2 zcn (b2 ixD (vSh 7) (vC (.int 5))) (vC (.int 2))))))) (zdp 3 (zbu (szF (zaa (cF zas (zaa (b2 zbf (vC (.int 70)) (vSh 5)) zai)) (zaa (vSh 9) (zaa (vSh 10) (zaa (b2 eqD (b2 ixD (vSh 7) (vC (.int 3))) (vC (.int 1))) (zaa (vSh 8) zai))))))))))) zb8))))) (zgT 3 (zbc (vSh 3))))))
theorem za5 : FnScope ["_law_cells", "_law_steps_here", "_law_horizon", "_law_found", "_law_left", "_law_k", "_law_cell_here", "_law_row", "_law_some", "_law_early", "_law_due"] ["_law_cells", "_law_steps_here", "_law_horizon"] (zal zeq) := by trivial
theorem zif {zag : FQ} {zas : FQ} (F : Dfn K mg "_law_jobs" zeq) (B : Bn mg) (c__law_digits : Cal Γ P w K mg base "_law_digits" 3 1 zag) (c__law_name : Cal Γ P w K mg base "_law_name" 1 1 zas) : Cal Γ P w K mg base "_law_jobs" 3 2 (zgO zag zas) :=
 F.cal (k := 1) za5 (fun _ _ _ _ _ _ us hl => match us, hl with | [_, _, _], _ => rfl) fun f cdv A outer s H E hr =>
  (zaf (zcU 3 za5.nd (zbw zae)) (zaf (zms 4 za5.nd rfl (CompScope.of rfl rfl) (FvOk.of (N' := ["_law_step"]) (fv := [none]) rfl) (zaM (zac 1)) ⟨fun _ _ _ _ _ => ⟨(zaq 0 (show (["_law_step"] : List Str).Nodup by decide +kernel)), zaK, (zar (zac 0) zad)⟩⟩) (zaf (zcc PassesOwn.never rfl (zdM rfl B.z_enumerate (zac 0)) (zd8 (n := 2) rfl (za4 (zaq 5 za5.nd) (za4 (zaq 6 za5.nd) zc8))) (zaf (zaQ 7 za5.nd (dC c__law_digits hr (zab (zac 6) (zab (za2 (zac 5) zad) (zab (DO.de (zbw (zab zad (zab zad (zab zad (zab zad (zab zad (zab zad zae)))))))) zae))) ln3)) (zaf (zaQ 8 za5.nd (zbl (zac 4) zb9 (zbM (zar (zac 7) zad)))) (zaf (zaQ 4 za5.nd (zbl (zac 4) (zbM (zar (zac 7) zad)) zb9)) (zak (zbz (zbN (zhs (zp9 hr)) (zac 8) (DO.de (zbw zae)) (zbI _)) (zaf (zaQ 9 za5.nd (zaz (zmW rfl) rfl B.z_min (by rfl) (zab (zac 2) (zab (zd9 (zar (zac 7) zad) (zdg zom rfl B.z_int (by rfl) (zab (zeP zgw (zar (zac 7) zad) zad (zbI _)) zae))) zae)))) (zaf (zaQ 10 za5.nd (zaz (zso rfl) rfl B.z_max (by rfl) (zab zad (zab (zoM (zac 2) (zd9 (zar (zac 7) zad) (zdg zom rfl B.z_int (by rfl) (zab (zeP zgw (zar (zac 7) zad) zad (zbI _)) zae)))) zae)))) (zaf (zaQ 8 za5.nd (za2 (zbl (zac 8) (zbM (zbQ (zar (zac 7) zad) zad)) zb9) (zbl (zac 8) zb9 (zbM (zbQ (zar (zac 7) zad) zad))))) (zak (zbk 3 (zbx (zab (dC c__law_name hr (zab (za2 zad (zac 5)) zae) ln1) (zab (zac 9) (zab (zac 10) (zab (zeP zgw (zar (zac 7) zad) zad (zbI _)) (zab (zac 8) zae))))))))))) zaH)))))) (zcA 3 (zak (zax (zac 3)))))))
def zeV (zag : FQ) : FQ := zbW 5
  (zaA (zeH 3 (szF zai)) (zaA (zdo (itE (cF zag (zaa (vSh 0) (zaa (vC (.int 3)) (zaa (b2 zd6 (zaS (szF (zaa (vC (.int 4)) zai))) (vC (.int 6))) zai))))) (zcG 2 (zaI (zaG 4) (zaI (zaG 5) zcF))) (zaA (zbg 6 (b2 ixD (b2 ixD (vSh 1) (b2 zcn (vSh 4) (cF zcT (zaa (vSh 1) zai)))) (vC (.int 0)))) (zaA (zbg 7 (zbu (szF (zaa (vSh 6) (zaa (b2 ixD (vC (.str "pqr")) (b2 zcn (vSh 4) (vC (.int 3)))) (zaa (b2 ixD (vC (.str "pqr")) (b2 zcn (b2 zbf (vSh 4) (vSh 5)) (vC (.int 3)))) (zaa (cF zlT (zaa (vSh 2) (zaa (vSh 5) zai))) zai))))))) (sIf (bwT 3 (zfz (toB (b2 gtD (vSh 5) (vC (.int 0)))) (toB (b2 zeM (slF (vSh 7) pN (pS (vC (.int 3)))) (zaS (zaE (itF (vSh 3)) (zaG 0) tT (slF (vSh 0) pN (pS (vC (.int 3)))) [none])))))) (zdp 3 (vSh 7)) zb8)))) (zgT 3 (zbc (vSh 3)))))
theorem zbJ : FnScope ["_law_cell_here", "_law_benches_here", "_law_horizon", "_law_found", "_law_k", "_law_many", "_law_bench", "_law_row"] ["_law_cell_here", "_law_benches_here", "_law_horizon"] (zal zdm) := by trivial
theorem zgA {zag : FQ} (F : Dfn K mg "_law_setups" zdm) (B : Bn mg) (c__law_digits : Cal Γ P w K mg base "_law_digits" 3 1 zag) : Cal Γ P w K mg base "_law_setups" 3 2 (zeV zag) :=
 F.cal (k := 1) zbJ (fun _ _ _ _ _ _ us hl => match us, hl with | [_, _, _], _ => rfl) fun f cdv A outer s H E hr =>
  (zaf (zcU 3 zbJ.nd (zbw zae)) (zaf (zcc PassesOwn.never rfl (zdM rfl B.z_enumerate (dC c__law_digits hr (zab (zac 0) (zab zad (zab (zd9 (DO.de (zbw (zab zad zae))) zad) zae))) ln3)) (zd8 (n := 2) rfl (za4 (zaq 4 zbJ.nd) (za4 (zaq 5 zbJ.nd) zc8))) (zaf (zaQ 6 zbJ.nd (zar (zar (zac 1) (zbQ (zac 4) (zaz zcW rfl B.z_len (by rfl) (zab (zac 1) zae)))) zad)) (zaf (zaQ 7 zbJ.nd (zbx (zab (zac 6) (zab (zar zcZ (zbQ (zac 4) zad)) (zab (zar zcZ (zbQ (za2 (zac 4) (zac 5)) zad)) (zab (zaz (zmW rfl) rfl B.z_min (by rfl) (zab (zac 2) (zab (zac 5) zae))) zae)))))) (zak (zbz (zmq 3 (DW.dt (zgp (zbN ztl (zac 5) zad (zbI _)) (zgo (zbN (zjO (zjj hr)) (zbl (zac 7) zb9 (zbM zad)) (DO.de (zbP rfl (CompScope.of rfl rfl) (FvOk.of (N' := ["_law_one"]) (fv := [none]) rfl) (zaM (zac 3)) ⟨fun _ _ _ _ _ => ⟨(zaq 0 (show (["_law_one"] : List Str).Nodup by decide +kernel)), zaK, (zbl (zac 0) zb9 (zbM zad))⟩⟩)) (by rfl)))))) (zak (zbk 3 (zac 7))) zaH))))) (zcA 3 (zak (zax (zac 3))))))
def zfH (zag : FQ) : FQ := zbW 5
  (zaA (zeH 3 (szF zai)) (zaA (zbg 4 (cF zag (zaa (vSh 0) (zaa (vC (.int 5)) (zaa (zaS (szF (zaa (vC (.int 3)) (zaa (vC (.int 9)) (zaa (vC (.int 9)) (zaa (vC (.int 4)) (zaa (vC (.int 9)) (zaa (vC (.int 9)) (zaa (vC (.int 4)) zai))))))))) zai))))) (zaA (zdo (itR ziF (zaa (b2 ixD (vSh 4) (vC (.int 0))) zai)) (zaG 5) (zaA (zbg 6 (b2 ixD (b2 ixD (vSh 1) (b2 zcn (b2 ixD (vSh 4) (b2 zbf (vC (.int 1)) (b2 zd6 (vC (.int 3)) (vSh 5)))) (cF zcT (zaa (vSh 1) zai)))) (vC (.int 0)))) (zaA (zbg 7 (b2 ixD (b2 ixD (vSh 1) (b2 zcn (b2 ixD (vSh 4) (b2 zbf (vC (.int 2)) (b2 zd6 (vC (.int 3)) (vSh 5)))) (cF zcT (zaa (vSh 1) zai)))) (vC (.int 0)))) (sIf (bwT 3 (zfz (toB (b2 neA (vSh 6) (vSh 7))) (toB (b2 zeM (zbu (szF (zaa (vSh 6) (zaa (vSh 7) zai)))) (zaS (zaE (itF (vSh 3)) (zaG 0) tT (slF (vSh 0) pN (pS (vC (.int 2)))) [none])))))) (zdp 3 (zbu (szF (zaa (vSh 6) (zaa (vSh 7) (zaa (cF zlT (zaa (vSh 2) (zaa (b2 ixD (vSh 4) (b2 zbf (vC (.int 3)) (b2 zd6 (vC (.int 3)) (vSh 5)))) zai))) zai)))))) zb8)))) (zgT 3 (zbc (vSh 3))))))
theorem zbZ : FnScope ["_law_cell_here", "_law_steps_here", "_law_horizon", "_law_found", "_law_row", "_law_k", "_law_one", "_law_other"] ["_law_cell_here", "_law_steps_here", "_law_horizon"] (zal zdF) := by trivial
theorem zg5 {zag : FQ} (F : Dfn K mg "_law_links" zdF) (B : Bn mg) (c__law_digits : Cal Γ P w K mg base "_law_digits" 3 1 zag) : Cal Γ P w K mg base "_law_links" 3 2 (zfH zag) :=
 F.cal (k := 1) zbZ (fun _ _ _ _ _ _ us hl => match us, hl with | [_, _, _], _ => rfl) fun f cdv A outer s H E hr =>
  (zaf (zcU 3 zbZ.nd (zbw zae)) (zaf (zaQ 4 zbZ.nd (dC c__law_digits hr (zab (zac 0) (zab zad (zab (DO.de (zbw (zab zad (zab zad (zab zad (zab zad (zab zad (zab zad (zab zad zae))))))))) zae))) ln3)) (zaf (zcc PassesOwn.never rfl (zde rfl B.z_range (zab (zar (zac 4) zad) zae)) (zaq 5 zbZ.nd) (zaf (zaQ 6 zbZ.nd (zar (zar (zac 1) (zbQ (zar (zac 4) (za2 zad (zd9 zad (zac 5)))) (zaz zcW rfl B.z_len (by rfl) (zab (zac 1) zae)))) zad)) (zaf (zaQ 7 zbZ.nd (zar (zar (zac 1) (zbQ (zar (zac 4) (za2 zad (zd9 zad (zac 5)))) (zaz zcW rfl B.z_len (by rfl) (zab (zac 1) zae)))) zad)) (zak (zbz (zmq 3 (DW.dt (zgp (zbN (zhs (zp9 hr)) (zac 6) (zac 7) (zbI _)) (zgo (zbN (zjO (zjj hr)) (zbx (zab (zac 6) (zab (zac 7) zae))) (DO.de (zbP rfl (CompScope.of rfl rfl) (FvOk.of (N' := ["_law_link"]) (fv := [none]) rfl) (zaM (zac 3)) ⟨fun _ _ _ _ _ => ⟨(zaq 0 (show (["_law_link"] : List Str).Nodup by decide +kernel)), zaK, (zbl (zac 0) zb9 (zbM zad))⟩⟩)) (by rfl)))))) (zak (zbk 3 (zbx (zab (zac 6) (zab (zac 7) (zab (zaz (zmW rfl) rfl B.z_min (by rfl) (zab (zac 2) (zab (zar (zac 4) (za2 zad (zd9 zad (zac 5)))) zae))) zae)))))) zaH))))) (zcA 3 (zak (zax (zac 3)))))))
def zeU (zag : FQ) (zas : FQ) : FQ := zbW 6
  (zaA (zbg 2 (cF zag (zaa (vSh 0) (zaa (vC (.int 9)) (zaa (zaS (szF (zaa (vC (.int 3)) (zaa (vC (.int 4)) (zaa (vC (.int 5)) (zaa (vC (.int 8)) (zaa (vC (.int 8)) (zaa (vC (.int 4)) (zaa (vC (.int 4)) zai))))))))) zai))))) (zaA (zeH 3 (szF zai)) (zaA (zdo (itR ziF (zaa (b2 ixD (vSh 2) (vC (.int 0))) zai)) (zaG 4) (zaA (zbg 5 (b2 zbf (b2 ixD (vSh 2) (vC (.int 1))) (b2 ixD (vSh 2) (vC (.int 2))))) (zaA (zbg 6 (zaS (zaE (itE (vSh 1)) (zcG 2 (zaI (zaG 0) (zaI (zaG 1) zcF))) (toB (b2 eqD (b2 zcn (b2 zet (b2 zbf (b2 ixD (vSh 2) (vC (.int 3))) (vSh 3)) (b2 ixD (zaS (szF (zaa (vC (.int 1)) (zaa (vC (.int 2)) (zaa (vC (.int 4)) zai))))) (b2 zcn (vSh 0) (vC (.int 3))))) (vC (.int 2))) (vC (.int 1)))) (zbu (szF (zaa (b2 ixD (vSh 1) (vC (.int 0))) (zaa (b2 zbf (vC (.int 1)) (b2 ixD (vSh 2) (vC (.int 5)))) zai)))) [none, none, some 2, some 4]))) (zaA (zbg 7 (zaS (zaE (itE (vSh 1)) (zcG 2 (zaI (zaG 0) (zaI (zaG 1) zcF))) (toB (b2 eqD (b2 zcn (b2 zet (b2 zbf (b2 ixD (vSh 2) (vC (.int 4))) (vSh 3)) (b2 ixD (zaS (szF (zaa (vC (.int 1)) (zaa (vC (.int 2)) (zaa (vC (.int 4)) zai))))) (b2 zcn (vSh 0) (vC (.int 3))))) (vC (.int 2))) (vC (.int 1)))) (zbu (szF (zaa (b2 ixD (vSh 1) (vC (.int 0))) (zaa (b2 zbf (vC (.int 1)) (b2 ixD (vSh 2) (vC (.int 6)))) zai)))) [none, none, some 2, some 4]))) (zdp 3 (zbu (szF (zaa (cF zas (zaa (b2 zbf (vC (.int 80)) (vSh 4)) zai)) (zaa (b2 ixD (vSh 2) (vC (.int 1))) (zaa (vSh 5) (zaa (vSh 6) (zaa (vSh 7) zai)))))))))))) (zgT 3 (zbc (vSh 3))))))
theorem zbr : FnScope ["_law_cell_here", "_law_steps_here", "_law_row", "_law_found", "_law_k", "_law_room", "_law_takes", "_law_puts"] ["_law_cell_here", "_law_steps_here"] (zal zdl) := by trivial
theorem zgz {zag : FQ} {zas : FQ} (F : Dfn K mg "_law_stocks" zdl) (B : Bn mg) (c__law_digits : Cal Γ P w K mg base "_law_digits" 3 1 zag) (c__law_name : Cal Γ P w K mg base "_law_name" 1 1 zas) : Cal Γ P w K mg base "_law_stocks" 2 2 (zeU zag zas) :=
 F.cal (k := 1) zbr (fun _ _ _ _ _ _ us hl => match us, hl with | [_, _], _ => rfl) fun f cdv A outer s H E hr =>
  (zaf (zaQ 2 zbr.nd (dC c__law_digits hr (zab (zac 0) (zab zad (zab (DO.de (zbw (zab zad (zab zad (zab zad (zab zad (zab zad (zab zad (zab zad zae))))))))) zae))) ln3)) (zaf (zcU 3 zbr.nd (zbw zae)) (zaf (zcc PassesOwn.never rfl (zde rfl B.z_range (zab (zar (zac 2) zad) zae)) (zaq 4 zbr.nd) (zaf (zaQ 5 zbr.nd (za2 (zar (zac 2) zad) (zar (zac 2) zad))) (zaf (zms 6 zbr.nd rfl (CompScope.of rfl rfl) (FvOk.of (N' := ["_law_j", "_law_step", "_law_row", "_law_k"]) (fv := [none, none, some 2, some 4]) rfl) (zdM rfl B.z_enumerate (zac 1)) ⟨fun _ _ _ _ _ => ⟨(zd8 (n := 2) rfl (za4 (zaq 0 (show (["_law_j", "_law_step", "_law_row", "_law_k"] : List Str).Nodup by decide +kernel)) (za4 (zaq 1 (show (["_law_j", "_law_step", "_law_row", "_law_k"] : List Str).Nodup by decide +kernel)) zc8))), (zhY (zbN zgw (zbQ (zff (za2 (zar (zac 2) zad) (zac 3)) (zar (DO.de (zbw (zab zad (zab zad (zab zad zae))))) (zbQ (zac 0) zad))) zad) zad (zbI _))), (zbx (zab (zar (zac 1) zad) (zab (za2 zad (zar (zac 2) zad)) zae)))⟩⟩) (zaf (zms 7 zbr.nd rfl (CompScope.of rfl rfl) (FvOk.of (N' := ["_law_j", "_law_step", "_law_row", "_law_k"]) (fv := [none, none, some 2, some 4]) rfl) (zdM rfl B.z_enumerate (zac 1)) ⟨fun _ _ _ _ _ => ⟨(zd8 (n := 2) rfl (za4 (zaq 0 (show (["_law_j", "_law_step", "_law_row", "_law_k"] : List Str).Nodup by decide +kernel)) (za4 (zaq 1 (show (["_law_j", "_law_step", "_law_row", "_law_k"] : List Str).Nodup by decide +kernel)) zc8))), (zhY (zbN zgw (zbQ (zff (za2 (zar (zac 2) zad) (zac 3)) (zar (DO.de (zbw (zab zad (zab zad (zab zad zae))))) (zbQ (zac 0) zad))) zad) zad (zbI _))), (zbx (zab (zar (zac 1) zad) (zab (za2 zad (zar (zac 2) zad)) zae)))⟩⟩) (zak (zbk 3 (zbx (zab (dC c__law_name hr (zab (za2 zad (zac 4)) zae) ln1) (zab (zar (zac 2) zad) (zab (zac 5) (zab (zac 6) (zab (zac 7) zae)))))))))))) (zcA 3 (zak (zax (zac 3)))))))
def zfG (zay : FQ) (zbe : FQ) (zbD : FQ) (zbV : FQ) (zbq : FQ) (zbF : FQ) (zbo : FQ) : FQ := zbW 6
  (zaA (zbg 4 (cF zbe (zaa (zaS (zaE (itR ziF (zaa (b2 zbf (vC (.int 1)) (b2 zcn (cF zay (zaa (vSh 0) (zaa (vC (.int 0)) zai))) (vC (.int 3)))) zai)) (zaG 0) tT (cF zay (zaa (vSh 1) (zaa (b2 zbf (vC (.int 1)) (vSh 0)) zai))) [none, some 0])) (zaa (vSh 2) zai)))) (zaA (zbg 5 (cF zbD (zaa (zaS (zaE (itR ziF (zaa (vSh 1) zai)) (zaG 0) tT (cF zay (zaa (vSh 1) (zaa (b2 zbf (vC (.int 4)) (vSh 0)) zai))) [none, some 0])) (zaa (vSh 4) (zaa (vSh 2) (zaa (vSh 3) zai)))))) (zaA (zbg 6 (cF zbV (zaa (zaS (zaE (itR ziF (zaa (vC (.int 3)) zai)) (zaG 0) tT (cF zay (zaa (vSh 1) (zaa (b2 zbf (vC (.int 14)) (vSh 0)) zai))) [none, some 0])) (zaa (vSh 5) (zaa (vSh 2) zai))))) (zaA (zbg 7 (cF zbq (zaa (cF zay (zaa (vSh 0) (zaa (vC (.int 17)) zai))) (zaa (vSh 4) (zaa (vSh 2) zai))))) (zaA (zbg 8 (cF zbF (zaa (cF zay (zaa (vSh 0) (zaa (vC (.int 18)) zai))) (zaa (vSh 5) (zaa (vSh 2) zai))))) (zaA (zbg 9 (cF zbo (zaa (cF zay (zaa (vSh 0) (zaa (vC (.int 19)) zai))) (zaa (vSh 5) zai)))) (zbc (zaS (szF (zaa (vSh 4) (zaa (vSh 5) (zaa (vSh 6) (zaa (vSh 7) (zaa (vSh 8) (zaa (vSh 9) (zaa (vSh 2) zai))))))))))))))))
theorem zbG : FnScope ["_law_script", "_law_many", "_law_horizon", "_law_longest", "_law_benches_here", "_law_steps_here", "_law_jobs_here", "_law_setups_here", "_law_links_here", "_law_stocks_here"] ["_law_script", "_law_many", "_law_horizon", "_law_longest"] (zal zdE) := by trivial
theorem zg4 {zay : FQ} {zbe : FQ} {zbD : FQ} {zbV : FQ} {zbq : FQ} {zbF : FQ} {zbo : FQ} (F : Dfn K mg "_law_lists" zdE) (B : Bn mg) (c__law_cell : Cal Γ P w K mg base "_law_cell" 2 1 zay) (c__law_benches : Cal Γ P w K mg base "_law_benches" 2 2 zbe) (c__law_steps : Cal Γ P w K mg base "_law_steps" 4 2 zbD) (c__law_jobs : Cal Γ P w K mg base "_law_jobs" 3 2 zbV) (c__law_setups : Cal Γ P w K mg base "_law_setups" 3 2 zbq) (c__law_links : Cal Γ P w K mg base "_law_links" 3 2 zbF) (c__law_stocks : Cal Γ P w K mg base "_law_stocks" 2 2 zbo) : Cal Γ P w K mg base "_law_lists" 4 3 (zfG zay zbe zbD zbV zbq zbF zbo) :=
 F.cal (k := 2) zbG (fun _ _ _ _ _ _ us hl => match us, hl with | [_, _, _, _], _ => rfl) fun f cdv A outer s H E hr =>
  (zaf (zaQ 4 zbG.nd (dC c__law_benches hr (zab (DO.de (zbP rfl (CompScope.of rfl rfl) (FvOk.of (N' := ["_law_k", "_law_script"]) (fv := [none, some 0]) rfl) (zde rfl B.z_range (zab (za2 zad (zbQ (dC c__law_cell hr (zab (zac 0) (zab zad zae)) ln2) zad)) zae)) ⟨fun _ _ _ _ _ => ⟨(zaq 0 (show (["_law_k", "_law_script"] : List Str).Nodup by decide +kernel)), zaK, (dC c__law_cell hr (zab (zac 1) (zab (za2 zad (zac 0)) zae)) ln2)⟩⟩)) (zab (zac 2) zae)) ln2)) (zaf (zaQ 5 zbG.nd (dC c__law_steps hr (zab (DO.de (zbP rfl (CompScope.of rfl rfl) (FvOk.of (N' := ["_law_k", "_law_script"]) (fv := [none, some 0]) rfl) (zde rfl B.z_range (zab (zac 1) zae)) ⟨fun _ _ _ _ _ => ⟨(zaq 0 (show (["_law_k", "_law_script"] : List Str).Nodup by decide +kernel)), zaK, (dC c__law_cell hr (zab (zac 1) (zab (za2 zad (zac 0)) zae)) ln2)⟩⟩)) (zab (zac 4) (zab (zac 2) (zab (zac 3) zae)))) ln4)) (zaf (zaQ 6 zbG.nd (dC c__law_jobs hr (zab (DO.de (zbP rfl (CompScope.of rfl rfl) (FvOk.of (N' := ["_law_k", "_law_script"]) (fv := [none, some 0]) rfl) (zde rfl B.z_range (zab zad zae)) ⟨fun _ _ _ _ _ => ⟨(zaq 0 (show (["_law_k", "_law_script"] : List Str).Nodup by decide +kernel)), zaK, (dC c__law_cell hr (zab (zac 1) (zab (za2 zad (zac 0)) zae)) ln2)⟩⟩)) (zab (zac 5) (zab (zac 2) zae))) ln3)) (zaf (zaQ 7 zbG.nd (dC c__law_setups hr (zab (dC c__law_cell hr (zab (zac 0) (zab zad zae)) ln2) (zab (zac 4) (zab (zac 2) zae))) ln3)) (zaf (zaQ 8 zbG.nd (dC c__law_links hr (zab (dC c__law_cell hr (zab (zac 0) (zab zad zae)) ln2) (zab (zac 5) (zab (zac 2) zae))) ln3)) (zaf (zaQ 9 zbG.nd (dC c__law_stocks hr (zab (dC c__law_cell hr (zab (zac 0) (zab zad zae)) ln2) (zab (zac 5) zae)) ln2)) (zak (zax (DO.de (zbw (zab (zac 4) (zab (zac 5) (zab (zac 6) (zab (zac 7) (zab (zac 8) (zab (zac 9) (zab (zac 2) zae)))))))))))))))))
def zgN (zag : FQ) : FQ := zbW 5
  (zaA (zeH 2 (zl2 (b2 ixD (vSh 1) (vC (.int 4))))) (zaA (zdo (itF (slF (vSh 0) (pS (vC (.int 23))) (pS (vC (.int 28))))) (zaG 3) (zaA (zbg 4 (cF zag (zaa (vSh 3) (zaa (vC (.int 3)) (zaa (zaS (szF (zaa (cF zcT (zaa (b2 ixD (vSh 1) (vC (.int 1))) zai)) (zaa (cF zcT (zaa (b2 ixD (vSh 1) (vC (.int 1))) zai)) (zaa (b2 zbf (b2 ixD (vSh 1) (vC (.int 6))) (vC (.int 1))) zai))))) zai))))) (zaA (zbg 5 (b2 ixD (b2 ixD (b2 ixD (vSh 1) (vC (.int 1))) (b2 ixD (vSh 4) (vC (.int 0)))) (vC (.int 0)))) (zaA (zbg 6 (b2 ixD (b2 ixD (b2 ixD (vSh 1) (vC (.int 1))) (b2 ixD (vSh 4) (vC (.int 1)))) (vC (.int 0)))) (sIf (bwT 2 (zfz (toB (b2 neA (vSh 5) (vSh 6))) (toB (b2 zeM (zbu (szF (zaa (vSh 5) (zaa (vSh 6) zai)))) (zaS (zaE (itF (vSh 2)) (zaG 0) tT (slF (vSh 0) pN (pS (vC (.int 2)))) [none])))))) (zdp 2 (zbu (szF (zaa (vSh 5) (zaa (vSh 6) (zaa (b2 ixD (vSh 4) (vC (.int 2))) zai)))))) zb8))))) (zgT 2 (zbc (b2 zbf (b2 zbf (slF (vSh 1) pN (pS (vC (.int 4)))) (zaS (szF (zaa (vSh 2) zai)))) (slF (vSh 1) (pS (vC (.int 5))) pN))))))
theorem zci : FnScope ["_law_script", "_law_lists_here", "_law_links_here", "_law_cell_here", "_law_row", "_law_one", "_law_other"] ["_law_script", "_law_lists_here"] (zal zep) := by trivial
theorem zie {zag : FQ} (F : Dfn K mg "_law_more" zep) (B : Bn mg) (c__law_digits : Cal Γ P w K mg base "_law_digits" 3 1 zag) : Cal Γ P w K mg base "_law_more" 2 2 (zgN zag) :=
 F.cal (k := 1) zci (fun _ _ _ _ _ _ us hl => match us, hl with | [_, _], _ => rfl) fun f cdv A outer s H E hr =>
  (zaf (zcU 2 zci.nd (zqo rfl B.z_list (zar (zac 1) zad))) (zaf (zcc PassesOwn.never rfl (zaM (zbl (zac 0) (zbM zad) (zbM zad))) (zaq 3 zci.nd) (zaf (zaQ 4 zci.nd (dC c__law_digits hr (zab (zac 3) (zab zad (zab (DO.de (zbw (zab (zaz zcW rfl B.z_len (by rfl) (zab (zar (zac 1) zad) zae)) (zab (zaz zcW rfl B.z_len (by rfl) (zab (zar (zac 1) zad) zae)) (zab (za2 (zar (zac 1) zad) zad) zae))))) zae))) ln3)) (zaf (zaQ 5 zci.nd (zar (zar (zar (zac 1) zad) (zar (zac 4) zad)) zad)) (zaf (zaQ 6 zci.nd (zar (zar (zar (zac 1) zad) (zar (zac 4) zad)) zad)) (zak (zbz (zmq 2 (DW.dt (zgp (zbN (zhs (zp9 hr)) (zac 5) (zac 6) (zbI _)) (zgo (zbN (zjO (zjj hr)) (zbx (zab (zac 5) (zab (zac 6) zae))) (DO.de (zbP rfl (CompScope.of rfl rfl) (FvOk.of (N' := ["_law_link"]) (fv := [none]) rfl) (zaM (zac 2)) ⟨fun _ _ _ _ _ => ⟨(zaq 0 (show (["_law_link"] : List Str).Nodup by decide +kernel)), zaK, (zbl (zac 0) zb9 (zbM zad))⟩⟩)) (by rfl)))))) (zak (zbk 2 (zbx (zab (zac 5) (zab (zac 6) (zab (zar (zac 4) zad) zae)))))) zaH)))))) (zcA 2 (zak (zax (za2 (za2 (zbl (zac 1) zb9 (zbM zad)) (DO.de (zbw (zab (zac 2) zae)))) (zbl (zac 1) (zbM zad) zb9)))))))
def zfk : FQ := zbW 0
  (zbc (zec (cF zd7 (zaa (vSh 0) (zaa (vC (.ty "int")) zai))) (zsv (cF zd7 (zaa (vSh 0) (zaa (vC (.ty "bool")) zai))))))
theorem zjn : FnScope ["thing"] ["thing"] (zal zeZ) := by trivial
theorem zi3 (F : Dfn K mg "is_whole" zeZ) (B : Bn mg)  : Cal Γ P w K mg base "is_whole" 1 1 (zfk) :=
 F.cal (k := 0) zjn (fun _ _ _ _ _ _ us hl => match us, hl with | [_], _ => rfl) fun f cdv A outer s H E hr =>
  (zak (zax (zcH (zaz zeb rfl B.z_isinstance (by rfl) (zab (zac 0) (zab (zgX rfl B.z_int (by rfl)) zae))) (zdf (zse (zaz zeb rfl B.z_isinstance (by rfl) (zab (zac 0) (zab (zgX rfl B.z_bool (by rfl)) zae))))))))
def zew (zb1 : FQ) : FQ := zbW 0
  (zbc (zec (cF zb1 (zaa (vSh 0) zai)) (chD leD leD (vSh 1) (vSh 0) (vSh 2))))
theorem zix : FnScope ["thing", "least", "most"] ["thing", "least", "most"] (zal zei) := by trivial
theorem zh7 {zb1 : FQ} (F : Dfn K mg "is_within" zei) (B : Bn mg) (c_is_whole : Cal Γ P w K mg base "is_whole" 1 1 zb1) : Cal Γ P w K mg base "is_within" 3 2 (zew zb1) :=
 F.cal (k := 1) zix (fun _ _ _ _ _ _ us hl => match us, hl with | [_, _, _], _ => rfl) fun f cdv A outer s H E hr =>
  (zak (zax (zcH (dC c_is_whole hr (zab (zac 0) zae) ln1) (zdf (zh1 zh5 zh5 (zac 1) (zac 0) (zac 2))))))
def zfl : FQ := zbW 0
  (zbc (zec (cF zd7 (zaa (vSh 0) (zaa (vC (.ty "tuple")) zai))) (b2 eqD (cF zcT (zaa (vSh 0) zai)) (vSh 1))))
theorem zjo : FnScope ["thing", "many"] ["thing", "many"] (zal ze0) := by trivial
theorem zi4 (F : Dfn K mg "is_tuple" ze0) (B : Bn mg)  : Cal Γ P w K mg base "is_tuple" 2 1 (zfl) :=
 F.cal (k := 0) zjo (fun _ _ _ _ _ _ us hl => match us, hl with | [_, _], _ => rfl) fun f cdv A outer s H E hr =>
  (zak (zax (zcH (zaz zeb rfl B.z_isinstance (by rfl) (zab (zac 0) (zab (zgX rfl B.z_tuple (by rfl)) zae))) (zdf (zeP zgw (zaz zcW rfl B.z_len (by rfl) (zab (zac 0) zae)) (zac 1) (zbI _))))))
def zfo (zam : FQ) (zan : FQ) : FQ := zbW 0
  (zaA (sIf (orT (zb6 (toB (cF zan (zaa (vSh 0) (zaa (vC (.int 2)) zai))))) (orT (zb6 (toB (cF zam (zaa (b2 ixD (vSh 0) (vC (.int 0))) (zaa (vC (.int 0)) (zaa (vSh 1) zai)))))) (zb6 (toB (cF zam (zaa (b2 ixD (vSh 0) (vC (.int 1))) (zaa (vC (.int 0)) (zaa (vSh 1) zai)))))))) (zbc (vC (.bl false))) zb8) (zbc (b2 ltD (b2 ixD (vSh 0) (vC (.int 0))) (b2 ixD (vSh 0) (vC (.int 1))))))
theorem zjr : FnScope ["row", "horizon"] ["row", "horizon"] (zal ze3) := by trivial
theorem zi7 {zam : FQ} {zan : FQ} (F : Dfn K mg "is_break" ze3) (B : Bn mg) (c_is_within : Cal Γ P w K mg base "is_within" 3 2 zam) (c_is_tuple : Cal Γ P w K mg base "is_tuple" 2 1 zan) : Cal Γ P w K mg base "is_break" 2 3 (zfo zam zan) :=
 F.cal (k := 2) zjr (fun _ _ _ _ _ _ us hl => match us, hl with | [_, _], _ => rfl) fun f cdv A outer s H E hr =>
  (zaf (zbz (DW.dt (zcM (zaL (zaJ (dC c_is_tuple hr (zab (zac 0) (zab zad zae)) ln2))) (zcM (zaL (zaJ (dC c_is_within hr (zab (zar (zac 0) zad) (zab zad (zab (zac 1) zae))) ln3))) (zck (zaL (zaJ (dC c_is_within hr (zab (zar (zac 0) zad) (zab zad (zab (zac 1) zae))) ln3))))))) (zak (zax zc9)) zaH) (zak (zax (zeP zoe (zar (zac 0) zad) (zar (zac 0) zad) (zbI _)))))
def zgH : FQ := zbW 0
  (zbc (zec (cF zd7 (zaa (vSh 0) (zaa (vC (.ty "list")) zai))) (chD leD leD (vSh 1) (cF zcT (zaa (vSh 0) zai)) (vSh 2))))
theorem zkN : FnScope ["thing", "least", "most"] ["thing", "least", "most"] (zal zf2) := by trivial
theorem zjS (F : Dfn K mg "is_list" zf2) (B : Bn mg)  : Cal Γ P w K mg base "is_list" 3 1 (zgH) :=
 F.cal (k := 0) zkN (fun _ _ _ _ _ _ us hl => match us, hl with | [_, _, _], _ => rfl) fun f cdv A outer s H E hr =>
  (zak (zax (zcH (zaz zeb rfl B.z_isinstance (by rfl) (zab (zac 0) (zab (zgX rfl B.z_list (by rfl)) zae))) (zdf (zh1 zh5 zh5 (zac 1) (zaz zcW rfl B.z_len (by rfl) (zab (zac 0) zae)) (zac 2))))))
def zfD (zb4 : FQ) (zao : FQ) : FQ := zbW 0
  (zaA (sIf (orT (zb6 (toB (cF zao (zaa (vSh 0) (zaa (vC (.int 0)) (zaa (vC (.int 10)) zai)))))) (zb6 (toB (cF zjg (zaa (zaS (zaE (itF (vSh 0)) (zaG 0) tT (cF zb4 (zaa (vSh 0) (zaa (vSh 1) zai))) [none, some 1])) zai))))) (zbc (vC (.bl false))) zb8) (zbc (cF zjg (zaa (zaS (zaE (itR zpe (zaa (vC (.int 1)) (zaa (cF zcT (zaa (vSh 0) zai)) zai))) (zaG 0) tT (b2 ltD (b2 ixD (b2 ixD (vSh 1) (b2 zon (vSh 0) (vC (.int 1)))) (vC (.int 1))) (b2 ixD (b2 ixD (vSh 1) (vSh 0)) (vC (.int 0)))) [none, some 0])) zai))))
theorem zhE : FnScope ["breaks", "horizon"] ["breaks", "horizon"] (zal zdB) := by trivial
theorem zg1 {zb4 : FQ} {zao : FQ} (F : Dfn K mg "are_breaks" zdB) (B : Bn mg) (c_is_break : Cal Γ P w K mg base "is_break" 2 3 zb4) (c_is_list : Cal Γ P w K mg base "is_list" 3 1 zao) : Cal Γ P w K mg base "are_breaks" 2 4 (zfD zb4 zao) :=
 F.cal (k := 3) zhE (fun _ _ _ _ _ _ us hl => match us, hl with | [_, _], _ => rfl) fun f cdv A outer s H E hr =>
  (zaf (zbz (DW.dt (zcM (zaL (zaJ (dC c_is_list hr (zab (zac 0) (zab zad (zab (zce rfl B.c_MOST_BREAKS) zae))) ln3))) (zck (zaL (zaJ (zaz (zdu rfl) rfl B.z_all (by rfl) (zab (DO.de (zbP rfl (CompScope.of rfl rfl) (FvOk.of (N' := ["row", "horizon"]) (fv := [none, some 1]) rfl) (zaM (zac 0)) ⟨fun _ _ _ _ _ => ⟨(zaq 0 (show (["row", "horizon"] : List Str).Nodup by decide +kernel)), zaK, (dC c_is_break hr (zab (zac 0) (zab (zac 1) zae)) ln2)⟩⟩)) zae))))))) (zak (zax zc9)) zaH) (zak (zax (zaz (zdu rfl) rfl B.z_all (by rfl) (zab (DO.de (zbP rfl (CompScope.of rfl rfl) (FvOk.of (N' := ["place", "breaks"]) (fv := [none, some 0]) rfl) (zmy rfl B.z_range (zab zad (zab (zaz zcW rfl B.z_len (by rfl) (zab (zac 0) zae)) zae))) ⟨fun _ _ _ _ _ => ⟨(zaq 0 (show (["place", "breaks"] : List Str).Nodup by decide +kernel)), zaK, (zeP zoe (zar (zar (zac 1) (zoM (zac 0) zad)) zad) (zar (zar (zac 1) (zac 0)) zad) (zbI _))⟩⟩)) zae)))))
def zjh : FQ := zbW 0
  (zaA (sIf (orT (zb6 (toB (cF zd7 (zaa (vSh 0) (zaa (vC (.ty "str")) zai))))) (zb6 (toB (chD leD leD (vC (.int 1)) (cF zcT (zaa (vSh 0) zai)) (vC (.int 8)))))) (zbc (vC (.bl false))) zb8) (zbc (cF zjg (zaa (zaS (zaE (itS (vSh 0)) (zaG 0) tT (chD leD leD (vC (.str "a")) (vSh 0) (vC (.str "z"))) [none])) zai))))
theorem zkM : FnScope ["thing"] ["thing"] (zal zf1) := by trivial
theorem zjR (F : Dfn K mg "is_name" zf1) (B : Bn mg)  : Cal Γ P w K mg base "is_name" 1 1 (zjh) :=
 F.cal (k := 0) zkM (fun _ _ _ _ _ _ us hl => match us, hl with | [_], _ => rfl) fun f cdv A outer s H E hr =>
  (zaf (zbz (DW.dt (zcM (zaL (zaJ (zaz zeb rfl B.z_isinstance (by rfl) (zab (zac 0) (zab (zgX rfl B.z_str (by rfl)) zae))))) (zck (zaL (zn2 zh5 zh5 zad (zaz zcW rfl B.z_len (by rfl) (zab (zac 0) zae)) (zce rfl B.c_LONGEST_NAME)))))) (zak (zax zc9)) zaH) (zak (zax (zaz (zdu rfl) rfl B.z_all (by rfl) (zab (DO.de (zbP rfl (CompScope.of rfl rfl) (FvOk.of (N' := ["sign"]) (fv := [none]) rfl) (zsc (zac 0)) ⟨fun _ _ _ _ _ => ⟨(zaq 0 (show (["sign"] : List Str).Nodup by decide +kernel)), zaK, (zh1 zh5 zh5 zcZ (zac 0) zcZ)⟩⟩)) zae)))))
def zfp (zbC : FQ) (zav : FQ) (zan : FQ) : FQ := zbW 0
  (zbc (zec (cF zan (zaa (vSh 0) (zaa (vC (.int 2)) zai))) (zec (cF zav (zaa (b2 ixD (vSh 0) (vC (.int 0))) zai)) (cF zbC (zaa (b2 ixD (vSh 0) (vC (.int 1))) (zaa (vSh 1) zai))))))
theorem zjs : FnScope ["row", "horizon"] ["row", "horizon"] (zal ze4) := by trivial
theorem zi8 {zbC : FQ} {zav : FQ} {zan : FQ} (F : Dfn K mg "is_bench" ze4) (B : Bn mg) (c_are_breaks : Cal Γ P w K mg base "are_breaks" 2 4 zbC) (c_is_name : Cal Γ P w K mg base "is_name" 1 1 zav) (c_is_tuple : Cal Γ P w K mg base "is_tuple" 2 1 zan) : Cal Γ P w K mg base "is_bench" 2 5 (zfp zbC zav zan) :=
 F.cal (k := 4) zjs (fun _ _ _ _ _ _ us hl => match us, hl with | [_, _], _ => rfl) fun f cdv A outer s H E hr =>
  (zak (zax (zcH (dC c_is_tuple hr (zab (zac 0) (zab zad zae)) ln2) (zcH (dC c_is_name hr (zab (zar (zac 0) zad) zae) ln1) (zdf (dC c_are_breaks hr (zab (zar (zac 0) zad) (zab (zac 1) zae)) ln2))))))
def zcI : FQ := zbW 0
  (zbc (b2 eqD (b1 ze9 (vSh 0)) (cF zcT (zaa (vSh 0) zai))))
theorem zhB : FnScope ["things"] ["things"] (zal zdy) := by trivial
theorem zgY (F : Dfn K mg "are_unlike" zdy) (B : Bn mg)  : Cal Γ P w K mg base "are_unlike" 1 1 (zcI) :=
 F.cal (k := 0) zhB (fun _ _ _ _ _ _ us hl => match us, hl with | [_], _ => rfl) fun f cdv A outer s H E hr =>
  (zak (zax (zeP zgw (zmE rfl (zjj hr) rfl B.z_len rfl B.z_set (zac 0)) (zaz zcW rfl B.z_len (by rfl) (zab (zac 0) zae)) (zbI _))))
def zeS (zb5 : FQ) (zao : FQ) (zah : FQ) : FQ := zbW 0
  (zaA (sIf (orT (zb6 (toB (cF zao (zaa (vSh 0) (zaa (vC (.int 1)) (zaa (vC (.int 8)) zai)))))) (zb6 (toB (cF zjg (zaa (zaS (zaE (itF (vSh 0)) (zaG 0) tT (cF zb5 (zaa (vSh 0) (zaa (vSh 1) zai))) [none, some 1])) zai))))) (zbc (vC (.bl false))) zb8) (zbc (cF zah (zaa (zaS (zaE (itF (vSh 0)) (zaG 0) tT (b2 ixD (vSh 0) (vC (.int 0))) [none])) zai))))
theorem zgR : FnScope ["benches", "horizon"] ["benches", "horizon"] (zal zdj) := by trivial
theorem zgx {zb5 : FQ} {zao : FQ} {zah : FQ} (F : Dfn K mg "are_benches" zdj) (B : Bn mg) (c_is_bench : Cal Γ P w K mg base "is_bench" 2 5 zb5) (c_is_list : Cal Γ P w K mg base "is_list" 3 1 zao) (c_are_unlike : Cal Γ P w K mg base "are_unlike" 1 1 zah) : Cal Γ P w K mg base "are_benches" 2 6 (zeS zb5 zao zah) :=
 F.cal (k := 5) zgR (fun _ _ _ _ _ _ us hl => match us, hl with | [_, _], _ => rfl) fun f cdv A outer s H E hr =>
  (zaf (zbz (DW.dt (zcM (zaL (zaJ (dC c_is_list hr (zab (zac 0) (zab zad (zab (zce rfl B.c_MOST_BENCHES) zae))) ln3))) (zck (zaL (zaJ (zaz (zdu rfl) rfl B.z_all (by rfl) (zab (DO.de (zbP rfl (CompScope.of rfl rfl) (FvOk.of (N' := ["row", "horizon"]) (fv := [none, some 1]) rfl) (zaM (zac 0)) ⟨fun _ _ _ _ _ => ⟨(zaq 0 (show (["row", "horizon"] : List Str).Nodup by decide +kernel)), zaK, (dC c_is_bench hr (zab (zac 0) (zab (zac 1) zae)) ln2)⟩⟩)) zae))))))) (zak (zax zc9)) zaH) (zak (zax (dC c_are_unlike hr (zab (DO.de (zbP rfl (CompScope.of rfl rfl) (FvOk.of (N' := ["row"]) (fv := [none]) rfl) (zaM (zac 0)) ⟨fun _ _ _ _ _ => ⟨(zaq 0 (show (["row"] : List Str).Nodup by decide +kernel)), zaK, (zar (zac 0) zad)⟩⟩)) zae) ln1))))
def zex (zav : FQ) : FQ := zbW 0
  (zbc (zec (cF zav (zaa (vSh 0) zai)) (b2 ziT (vSh 0) (vSh 1))))
theorem ziy : FnScope ["thing", "names"] ["thing", "names"] (zal zej) := by trivial
theorem zh8 {zav : FQ} (F : Dfn K mg "is_one_of" zej) (B : Bn mg) (c_is_name : Cal Γ P w K mg base "is_name" 1 1 zav) : Cal Γ P w K mg base "is_one_of" 2 2 (zex zav) :=
 F.cal (k := 1) ziy (fun _ _ _ _ _ _ us hl => match us, hl with | [_, _], _ => rfl) fun f cdv A outer s H E hr =>
  (zak (zax (zcH (dC c_is_name hr (zab (zac 0) zae) ln1) (zdf (zeP (zkD (zjj hr)) (zac 0) (zac 1) (by rfl))))))
def zij (zam : FQ) (zat : FQ) (zan : FQ) : FQ := zbW 0
  (zbc (zec (cF zan (zaa (vSh 0) (zaa (vC (.int 2)) zai))) (zec (cF zat (zaa (b2 ixD (vSh 0) (vC (.int 0))) (zaa (vSh 1) zai))) (cF zam (zaa (b2 ixD (vSh 0) (vC (.int 1))) (zaa (vC (.int 1)) (zaa (vSh 2) zai)))))))
theorem zls : FnScope ["row", "bench_names", "horizon"] ["row", "bench_names", "horizon"] (zal zhF) := by trivial
theorem zk7 {zam : FQ} {zat : FQ} {zan : FQ} (F : Dfn K mg "is_way" zhF) (B : Bn mg) (c_is_within : Cal Γ P w K mg base "is_within" 3 2 zam) (c_is_one_of : Cal Γ P w K mg base "is_one_of" 2 2 zat) (c_is_tuple : Cal Γ P w K mg base "is_tuple" 2 1 zan) : Cal Γ P w K mg base "is_way" 3 3 (zij zam zat zan) :=
 F.cal (k := 2) zls (fun _ _ _ _ _ _ us hl => match us, hl with | [_, _, _], _ => rfl) fun f cdv A outer s H E hr =>
  (zak (zax (zcH (dC c_is_tuple hr (zab (zac 0) (zab zad zae)) ln2) (zcH (dC c_is_one_of hr (zab (zar (zac 0) zad) (zab (zac 1) zae)) ln2) (zdf (dC c_is_within hr (zab (zar (zac 0) zad) (zab zad (zab (zac 2) zae))) ln3))))))
def zhw (zcP : FQ) (zao : FQ) (zah : FQ) : FQ := zbW 0
  (zaA (sIf (orT (zb6 (toB (cF zao (zaa (vSh 0) (zaa (vC (.int 1)) (zaa (vC (.int 4)) zai)))))) (zb6 (toB (cF zjg (zaa (zaS (zaE (itF (vSh 0)) (zaG 0) tT (cF zcP (zaa (vSh 0) (zaa (vSh 1) (zaa (vSh 2) zai)))) [none, some 1, some 2])) zai))))) (zbc (vC (.bl false))) zb8) (zbc (cF zah (zaa (zaS (zaE (itF (vSh 0)) (zaG 0) tT (b2 ixD (vSh 0) (vC (.int 0))) [none])) zai))))
theorem zjt : FnScope ["ways", "bench_names", "horizon"] ["ways", "bench_names", "horizon"] (zal ze5) := by trivial
theorem zi9 {zcP : FQ} {zao : FQ} {zah : FQ} (F : Dfn K mg "are_ways" ze5) (B : Bn mg) (c_is_way : Cal Γ P w K mg base "is_way" 3 3 zcP) (c_is_list : Cal Γ P w K mg base "is_list" 3 1 zao) (c_are_unlike : Cal Γ P w K mg base "are_unlike" 1 1 zah) : Cal Γ P w K mg base "are_ways" 3 4 (zhw zcP zao zah) :=
 F.cal (k := 3) zjt (fun _ _ _ _ _ _ us hl => match us, hl with | [_, _, _], _ => rfl) fun f cdv A outer s H E hr =>
  (zaf (zbz (DW.dt (zcM (zaL (zaJ (dC c_is_list hr (zab (zac 0) (zab zad (zab (zce rfl B.c_MOST_WAYS) zae))) ln3))) (zck (zaL (zaJ (zaz (zdu rfl) rfl B.z_all (by rfl) (zab (DO.de (zbP rfl (CompScope.of rfl rfl) (FvOk.of (N' := ["row", "bench_names", "horizon"]) (fv := [none, some 1, some 2]) rfl) (zaM (zac 0)) ⟨fun _ _ _ _ _ => ⟨(zaq 0 (show (["row", "bench_names", "horizon"] : List Str).Nodup by decide +kernel)), zaK, (dC c_is_way hr (zab (zac 0) (zab (zac 1) (zab (zac 2) zae))) ln3)⟩⟩)) zae))))))) (zak (zax zc9)) zaH) (zak (zax (dC c_are_unlike hr (zab (DO.de (zbP rfl (CompScope.of rfl rfl) (FvOk.of (N' := ["row"]) (fv := [none]) rfl) (zaM (zac 0)) ⟨fun _ _ _ _ _ => ⟨(zaq 0 (show (["row"] : List Str).Nodup by decide +kernel)), zaK, (zar (zac 0) zad)⟩⟩)) zae) ln1))))
def zgG (zav : FQ) (zan : FQ) (zcl : FQ) : FQ := zbW 0
  (zaA (sIf (orT (zb6 (toB (cF zan (zaa (vSh 0) (zaa (vC (.int 3)) zai))))) (orT (zb6 (toB (cF zav (zaa (b2 ixD (vSh 0) (vC (.int 0))) zai)))) (zb6 (toB (cF zav (zaa (b2 ixD (vSh 0) (vC (.int 1))) zai)))))) (zbc (vC (.bl false))) zb8) (zbc (cF zcl (zaa (b2 ixD (vSh 0) (vC (.int 2))) (zaa (vSh 1) (zaa (vSh 2) zai))))))
theorem zkL : FnScope ["row", "bench_names", "horizon"] ["row", "bench_names", "horizon"] (zal zf0) := by trivial
theorem zjQ {zav : FQ} {zan : FQ} {zcl : FQ} (F : Dfn K mg "is_step" zf0) (B : Bn mg) (c_is_name : Cal Γ P w K mg base "is_name" 1 1 zav) (c_is_tuple : Cal Γ P w K mg base "is_tuple" 2 1 zan) (c_are_ways : Cal Γ P w K mg base "are_ways" 3 4 zcl) : Cal Γ P w K mg base "is_step" 3 5 (zgG zav zan zcl) :=
 F.cal (k := 4) zkL (fun _ _ _ _ _ _ us hl => match us, hl with | [_, _, _], _ => rfl) fun f cdv A outer s H E hr =>
  (zaf (zbz (DW.dt (zcM (zaL (zaJ (dC c_is_tuple hr (zab (zac 0) (zab zad zae)) ln2))) (zcM (zaL (zaJ (dC c_is_name hr (zab (zar (zac 0) zad) zae) ln1))) (zck (zaL (zaJ (dC c_is_name hr (zab (zar (zac 0) zad) zae) ln1))))))) (zak (zax zc9)) zaH) (zak (zax (dC c_are_ways hr (zab (zar (zac 0) zad) (zab (zac 1) (zab (zac 2) zae))) ln3))))
def zgJ (zcu : FQ) (zao : FQ) (zah : FQ) : FQ := zbW 0
  (zaA (sIf (orT (zb6 (toB (cF zao (zaa (vSh 0) (zaa (vC (.int 1)) (zaa (vC (.int 40)) zai)))))) (zb6 (toB (cF zjg (zaa (zaS (zaE (itF (vSh 0)) (zaG 0) tT (cF zcu (zaa (vSh 0) (zaa (vSh 1) (zaa (vSh 2) zai)))) [none, some 1, some 2])) zai))))) (zbc (vC (.bl false))) zb8) (zbc (cF zah (zaa (zaS (zaE (itF (vSh 0)) (zaG 0) tT (b2 ixD (vSh 0) (vC (.int 0))) [none])) zai))))
theorem ziA : FnScope ["steps", "bench_names", "horizon"] ["steps", "bench_names", "horizon"] (zal zel) := by trivial
theorem zia {zcu : FQ} {zao : FQ} {zah : FQ} (F : Dfn K mg "are_steps" zel) (B : Bn mg) (c_is_step : Cal Γ P w K mg base "is_step" 3 5 zcu) (c_is_list : Cal Γ P w K mg base "is_list" 3 1 zao) (c_are_unlike : Cal Γ P w K mg base "are_unlike" 1 1 zah) : Cal Γ P w K mg base "are_steps" 3 6 (zgJ zcu zao zah) :=
 F.cal (k := 5) ziA (fun _ _ _ _ _ _ us hl => match us, hl with | [_, _, _], _ => rfl) fun f cdv A outer s H E hr =>
  (zaf (zbz (DW.dt (zcM (zaL (zaJ (dC c_is_list hr (zab (zac 0) (zab zad (zab (zce rfl B.c_MOST_STEPS) zae))) ln3))) (zck (zaL (zaJ (zaz (zdu rfl) rfl B.z_all (by rfl) (zab (DO.de (zbP rfl (CompScope.of rfl rfl) (FvOk.of (N' := ["row", "bench_names", "horizon"]) (fv := [none, some 1, some 2]) rfl) (zaM (zac 0)) ⟨fun _ _ _ _ _ => ⟨(zaq 0 (show (["row", "bench_names", "horizon"] : List Str).Nodup by decide +kernel)), zaK, (dC c_is_step hr (zab (zac 0) (zab (zac 1) (zab (zac 2) zae))) ln3)⟩⟩)) zae))))))) (zak (zax zc9)) zaH) (zak (zax (dC c_are_unlike hr (zab (DO.de (zbP rfl (CompScope.of rfl rfl) (FvOk.of (N' := ["row"]) (fv := [none]) rfl) (zaM (zac 0)) ⟨fun _ _ _ _ _ => ⟨(zaq 0 (show (["row"] : List Str).Nodup by decide +kernel)), zaK, (zar (zac 0) zad)⟩⟩)) zae) ln1))))
def zkH (zav : FQ) (zan : FQ) (zam : FQ) (zat : FQ) (zao : FQ) : FQ := zbW 0
  (zaA (sIf (orT (zb6 (toB (cF zan (zaa (vSh 0) (zaa (vC (.int 5)) zai))))) (orT (zb6 (toB (cF zav (zaa (b2 ixD (vSh 0) (vC (.int 0))) zai)))) (zb6 (toB (cF zd7 (zaa (b2 ixD (vSh 0) (vC (.int 3))) (zaa (vC (.ty "bool")) zai))))))) (zbc (vC (.bl false))) zb8) (zaA (sIf (orT (zb6 (toB (cF zam (zaa (b2 ixD (vSh 0) (vC (.int 1))) (zaa (vC (.int 0)) (zaa (vSh 2) zai)))))) (zb6 (toB (cF zam (zaa (b2 ixD (vSh 0) (vC (.int 2))) (zaa (vC (.int 0)) (zaa (vSh 2) zai))))))) (zbc (vC (.bl false))) zb8) (zbc (zec (cF zao (zaa (b2 ixD (vSh 0) (vC (.int 4))) (zaa (vC (.int 1)) (zaa (cF zcT (zaa (vSh 1) zai)) zai)))) (cF zjg (zaa (zaS (zaE (itF (b2 ixD (vSh 0) (vC (.int 4)))) (zaG 0) tT (cF zat (zaa (vSh 0) (zaa (vSh 1) zai))) [none, some 1])) zai))))))
theorem zlt : FnScope ["row", "step_names", "horizon"] ["row", "step_names", "horizon"] (zal zhG) := by trivial
theorem zk8 {zav : FQ} {zan : FQ} {zam : FQ} {zat : FQ} {zao : FQ} (F : Dfn K mg "is_job" zhG) (B : Bn mg) (c_is_name : Cal Γ P w K mg base "is_name" 1 1 zav) (c_is_tuple : Cal Γ P w K mg base "is_tuple" 2 1 zan) (c_is_within : Cal Γ P w K mg base "is_within" 3 2 zam) (c_is_one_of : Cal Γ P w K mg base "is_one_of" 2 2 zat) (c_is_list : Cal Γ P w K mg base "is_list" 3 1 zao) : Cal Γ P w K mg base "is_job" 3 3 (zkH zav zan zam zat zao) :=
 F.cal (k := 2) zlt (fun _ _ _ _ _ _ us hl => match us, hl with | [_, _, _], _ => rfl) fun f cdv A outer s H E hr =>
  (zaf (zbz (DW.dt (zcM (zaL (zaJ (dC c_is_tuple hr (zab (zac 0) (zab zad zae)) ln2))) (zcM (zaL (zaJ (dC c_is_name hr (zab (zar (zac 0) zad) zae) ln1))) (zck (zaL (zaJ (zaz zeb rfl B.z_isinstance (by rfl) (zab (zar (zac 0) zad) (zab (zgX rfl B.z_bool (by rfl)) zae))))))))) (zak (zax zc9)) zaH) (zaf (zbz (DW.dt (zcM (zaL (zaJ (dC c_is_within hr (zab (zar (zac 0) zad) (zab zad (zab (zac 2) zae))) ln3))) (zck (zaL (zaJ (dC c_is_within hr (zab (zar (zac 0) zad) (zab zad (zab (zac 2) zae))) ln3)))))) (zak (zax zc9)) zaH) (zak (zax (zcH (dC c_is_list hr (zab (zar (zac 0) zad) (zab zad (zab (zaz zcW rfl B.z_len (by rfl) (zab (zac 1) zae)) zae))) ln3) (zdf (zaz (zdu rfl) rfl B.z_all (by rfl) (zab (DO.de (zbP rfl (CompScope.of rfl rfl) (FvOk.of (N' := ["name", "step_names"]) (fv := [none, some 1]) rfl) (zaM (zar (zac 0) zad)) ⟨fun _ _ _ _ _ => ⟨(zaq 0 (show (["name", "step_names"] : List Str).Nodup by decide +kernel)), zaK, (dC c_is_one_of hr (zab (zac 0) (zab (zac 1) zae)) ln2)⟩⟩)) zae))))))))
def zhx (zc1 : FQ) (zao : FQ) (zah : FQ) : FQ := zbW 2
  (zaA (sIf (orT (zb6 (toB (cF zao (zaa (vSh 0) (zaa (vC (.int 0)) (zaa (vC (.int 40)) zai)))))) (zb6 (toB (cF zjg (zaa (zaS (zaE (itF (vSh 0)) (zaG 0) tT (cF zc1 (zaa (vSh 0) (zaa (vSh 1) (zaa (vSh 2) zai)))) [none, some 1, some 2])) zai))))) (zbc (vC (.bl false))) zb8) (zaA (zeH 3 (szF zai)) (zaA (zdo (itF (vSh 0)) (zaG 4) (zlc 3 (b2 ixD (vSh 4) (vC (.int 4))))) (zgT 3 (zbc (zec (cF zah (zaa (zaS (zaE (itF (vSh 0)) (zaG 0) tT (b2 ixD (vSh 0) (vC (.int 0))) [none])) zai)) (cF zah (zaa (vSh 3) zai))))))))
theorem zeg : FnScope ["jobs", "step_names", "horizon", "members", "row"] ["jobs", "step_names", "horizon"] (zal ze6) := by trivial
theorem zja {zc1 : FQ} {zao : FQ} {zah : FQ} (F : Dfn K mg "are_jobs" ze6) (B : Bn mg) (c_is_job : Cal Γ P w K mg base "is_job" 3 3 zc1) (c_is_list : Cal Γ P w K mg base "is_list" 3 1 zao) (c_are_unlike : Cal Γ P w K mg base "are_unlike" 1 1 zah) : Cal Γ P w K mg base "are_jobs" 3 4 (zhx zc1 zao zah) :=
 F.cal (k := 3) zeg (fun _ _ _ _ _ _ us hl => match us, hl with | [_, _, _], _ => rfl) fun f cdv A outer s H E hr =>
  (zaf (zbz (DW.dt (zcM (zaL (zaJ (dC c_is_list hr (zab (zac 0) (zab zad (zab (zce rfl B.c_MOST_JOBS) zae))) ln3))) (zck (zaL (zaJ (zaz (zdu rfl) rfl B.z_all (by rfl) (zab (DO.de (zbP rfl (CompScope.of rfl rfl) (FvOk.of (N' := ["row", "step_names", "horizon"]) (fv := [none, some 1, some 2]) rfl) (zaM (zac 0)) ⟨fun _ _ _ _ _ => ⟨(zaq 0 (show (["row", "step_names", "horizon"] : List Str).Nodup by decide +kernel)), zaK, (dC c_is_job hr (zab (zac 0) (zab (zac 1) (zab (zac 2) zae))) ln3)⟩⟩)) zae))))))) (zak (zax zc9)) zaH) (zaf (zcU 3 zeg.nd (zbw zae)) (zaf (zcc PassesOwn.never rfl (zaM (zac 0)) (zaq 4 zeg.nd) (zak (zgq 3 (zar (zac 4) zad)))) (zcA 3 (zak (zax (zcH (dC c_are_unlike hr (zab (DO.de (zbP rfl (CompScope.of rfl rfl) (FvOk.of (N' := ["row"]) (fv := [none]) rfl) (zaM (zac 0)) ⟨fun _ _ _ _ _ => ⟨(zaq 0 (show (["row"] : List Str).Nodup by decide +kernel)), zaK, (zar (zac 0) zad)⟩⟩)) zae) ln1) (zdf (dC c_are_unlike hr (zab (zac 3) zae) ln1)))))))))
def zfn (zat : FQ) (zan : FQ) (zam : FQ) (zav : FQ) : FQ := zbW 0
  (zaA (sIf (orT (zb6 (toB (cF zan (zaa (vSh 0) (zaa (vC (.int 4)) zai))))) (zb6 (toB (cF zat (zaa (b2 ixD (vSh 0) (vC (.int 0))) (zaa (vSh 1) zai)))))) (zbc (vC (.bl false))) zb8) (zbc (zec (cF zav (zaa (b2 ixD (vSh 0) (vC (.int 1))) zai)) (zec (cF zav (zaa (b2 ixD (vSh 0) (vC (.int 2))) zai)) (cF zam (zaa (b2 ixD (vSh 0) (vC (.int 3))) (zaa (vC (.int 1)) (zaa (vSh 2) zai))))))))
theorem zjq : FnScope ["row", "bench_names", "horizon"] ["row", "bench_names", "horizon"] (zal ze2) := by trivial
theorem zi6 {zat : FQ} {zan : FQ} {zam : FQ} {zav : FQ} (F : Dfn K mg "is_setup" ze2) (B : Bn mg) (c_is_one_of : Cal Γ P w K mg base "is_one_of" 2 2 zat) (c_is_tuple : Cal Γ P w K mg base "is_tuple" 2 1 zan) (c_is_within : Cal Γ P w K mg base "is_within" 3 2 zam) (c_is_name : Cal Γ P w K mg base "is_name" 1 1 zav) : Cal Γ P w K mg base "is_setup" 3 3 (zfn zat zan zam zav) :=
 F.cal (k := 2) zjq (fun _ _ _ _ _ _ us hl => match us, hl with | [_, _, _], _ => rfl) fun f cdv A outer s H E hr =>
  (zaf (zbz (DW.dt (zcM (zaL (zaJ (dC c_is_tuple hr (zab (zac 0) (zab zad zae)) ln2))) (zck (zaL (zaJ (dC c_is_one_of hr (zab (zar (zac 0) zad) (zab (zac 1) zae)) ln2)))))) (zak (zax zc9)) zaH) (zak (zax (zcH (dC c_is_name hr (zab (zar (zac 0) zad) zae) ln1) (zcH (dC c_is_name hr (zab (zar (zac 0) zad) zae) ln1) (zdf (dC c_is_within hr (zab (zar (zac 0) zad) (zab zad (zab (zac 2) zae))) ln3)))))))
def zfC (zb3 : FQ) (zao : FQ) (zah : FQ) : FQ := zbW 0
  (zaA (sIf (orT (zb6 (toB (cF zao (zaa (vSh 0) (zaa (vC (.int 0)) (zaa (vC (.int 100)) zai)))))) (zb6 (toB (cF zjg (zaa (zaS (zaE (itF (vSh 0)) (zaG 0) tT (cF zb3 (zaa (vSh 0) (zaa (vSh 1) (zaa (vSh 2) zai)))) [none, some 1, some 2])) zai))))) (zbc (vC (.bl false))) zb8) (zbc (cF zah (zaa (zaS (zaE (itF (vSh 0)) (zaG 0) tT (slF (vSh 0) pN (pS (vC (.int 3)))) [none])) zai))))
theorem zhD : FnScope ["setups", "bench_names", "horizon"] ["setups", "bench_names", "horizon"] (zal zdA) := by trivial
theorem zg0 {zb3 : FQ} {zao : FQ} {zah : FQ} (F : Dfn K mg "are_setups" zdA) (B : Bn mg) (c_is_setup : Cal Γ P w K mg base "is_setup" 3 3 zb3) (c_is_list : Cal Γ P w K mg base "is_list" 3 1 zao) (c_are_unlike : Cal Γ P w K mg base "are_unlike" 1 1 zah) : Cal Γ P w K mg base "are_setups" 3 4 (zfC zb3 zao zah) :=
 F.cal (k := 3) zhD (fun _ _ _ _ _ _ us hl => match us, hl with | [_, _, _], _ => rfl) fun f cdv A outer s H E hr =>
  (zaf (zbz (DW.dt (zcM (zaL (zaJ (dC c_is_list hr (zab (zac 0) (zab zad (zab (zce rfl B.c_MOST_SETUPS) zae))) ln3))) (zck (zaL (zaJ (zaz (zdu rfl) rfl B.z_all (by rfl) (zab (DO.de (zbP rfl (CompScope.of rfl rfl) (FvOk.of (N' := ["row", "bench_names", "horizon"]) (fv := [none, some 1, some 2]) rfl) (zaM (zac 0)) ⟨fun _ _ _ _ _ => ⟨(zaq 0 (show (["row", "bench_names", "horizon"] : List Str).Nodup by decide +kernel)), zaK, (dC c_is_setup hr (zab (zac 0) (zab (zac 1) (zab (zac 2) zae))) ln3)⟩⟩)) zae))))))) (zak (zax zc9)) zaH) (zak (zax (dC c_are_unlike hr (zab (DO.de (zbP rfl (CompScope.of rfl rfl) (FvOk.of (N' := ["row"]) (fv := [none]) rfl) (zaM (zac 0)) ⟨fun _ _ _ _ _ => ⟨(zaq 0 (show (["row"] : List Str).Nodup by decide +kernel)), zaK, (zbl (zac 0) zb9 (zbM zad))⟩⟩)) zae) ln1))))
def zgI (zat : FQ) (zan : FQ) (zam : FQ) : FQ := zbW 0
  (zaA (sIf (orT (zb6 (toB (cF zan (zaa (vSh 0) (zaa (vC (.int 3)) zai))))) (orT (zb6 (toB (cF zat (zaa (b2 ixD (vSh 0) (vC (.int 0))) (zaa (vSh 1) zai))))) (zb6 (toB (cF zat (zaa (b2 ixD (vSh 0) (vC (.int 1))) (zaa (vSh 1) zai))))))) (zbc (vC (.bl false))) zb8) (zbc (zec (b2 neA (b2 ixD (vSh 0) (vC (.int 0))) (b2 ixD (vSh 0) (vC (.int 1)))) (cF zam (zaa (b2 ixD (vSh 0) (vC (.int 2))) (zaa (vC (.int 0)) (zaa (vSh 2) zai)))))))
theorem zkO : FnScope ["row", "step_names", "horizon"] ["row", "step_names", "horizon"] (zal zf3) := by trivial
theorem zjT {zat : FQ} {zan : FQ} {zam : FQ} (F : Dfn K mg "is_link" zf3) (B : Bn mg) (c_is_one_of : Cal Γ P w K mg base "is_one_of" 2 2 zat) (c_is_tuple : Cal Γ P w K mg base "is_tuple" 2 1 zan) (c_is_within : Cal Γ P w K mg base "is_within" 3 2 zam) : Cal Γ P w K mg base "is_link" 3 3 (zgI zat zan zam) :=
 F.cal (k := 2) zkO (fun _ _ _ _ _ _ us hl => match us, hl with | [_, _, _], _ => rfl) fun f cdv A outer s H E hr =>
  (zaf (zbz (DW.dt (zcM (zaL (zaJ (dC c_is_tuple hr (zab (zac 0) (zab zad zae)) ln2))) (zcM (zaL (zaJ (dC c_is_one_of hr (zab (zar (zac 0) zad) (zab (zac 1) zae)) ln2))) (zck (zaL (zaJ (dC c_is_one_of hr (zab (zar (zac 0) zad) (zab (zac 1) zae)) ln2))))))) (zak (zax zc9)) zaH) (zak (zax (zcH (zeP (zhs (zp9 hr)) (zar (zac 0) zad) (zar (zac 0) zad) (zbI _)) (zdf (dC c_is_within hr (zab (zar (zac 0) zad) (zab zad (zab (zac 2) zae))) ln3))))))
def zgK (zcv : FQ) (zao : FQ) (zah : FQ) : FQ := zbW 0
  (zaA (sIf (orT (zb6 (toB (cF zao (zaa (vSh 0) (zaa (vC (.int 0)) (zaa (vC (.int 100)) zai)))))) (zb6 (toB (cF zjg (zaa (zaS (zaE (itF (vSh 0)) (zaG 0) tT (cF zcv (zaa (vSh 0) (zaa (vSh 1) (zaa (vSh 2) zai)))) [none, some 1, some 2])) zai))))) (zbc (vC (.bl false))) zb8) (zbc (cF zah (zaa (zaS (zaE (itF (vSh 0)) (zaG 0) tT (slF (vSh 0) pN (pS (vC (.int 2)))) [none])) zai))))
theorem ziB : FnScope ["links", "step_names", "horizon"] ["links", "step_names", "horizon"] (zal zem) := by trivial
theorem zib {zcv : FQ} {zao : FQ} {zah : FQ} (F : Dfn K mg "are_links" zem) (B : Bn mg) (c_is_link : Cal Γ P w K mg base "is_link" 3 3 zcv) (c_is_list : Cal Γ P w K mg base "is_list" 3 1 zao) (c_are_unlike : Cal Γ P w K mg base "are_unlike" 1 1 zah) : Cal Γ P w K mg base "are_links" 3 4 (zgK zcv zao zah) :=
 F.cal (k := 3) ziB (fun _ _ _ _ _ _ us hl => match us, hl with | [_, _, _], _ => rfl) fun f cdv A outer s H E hr =>
  (zaf (zbz (DW.dt (zcM (zaL (zaJ (dC c_is_list hr (zab (zac 0) (zab zad (zab (zce rfl B.c_MOST_LINKS) zae))) ln3))) (zck (zaL (zaJ (zaz (zdu rfl) rfl B.z_all (by rfl) (zab (DO.de (zbP rfl (CompScope.of rfl rfl) (FvOk.of (N' := ["row", "step_names", "horizon"]) (fv := [none, some 1, some 2]) rfl) (zaM (zac 0)) ⟨fun _ _ _ _ _ => ⟨(zaq 0 (show (["row", "step_names", "horizon"] : List Str).Nodup by decide +kernel)), zaK, (dC c_is_link hr (zab (zac 0) (zab (zac 1) (zab (zac 2) zae))) ln3)⟩⟩)) zae))))))) (zak (zax zc9)) zaH) (zak (zax (dC c_are_unlike hr (zab (DO.de (zbP rfl (CompScope.of rfl rfl) (FvOk.of (N' := ["row"]) (fv := [none]) rfl) (zaM (zac 0)) ⟨fun _ _ _ _ _ => ⟨(zaq 0 (show (["row"] : List Str).Nodup by decide +kernel)), zaK, (zbl (zac 0) zb9 (zbM zad))⟩⟩)) zae) ln1))))
def zey (zam : FQ) (zat : FQ) (zan : FQ) : FQ := zbW 0
  (zbc (zec (cF zan (zaa (vSh 0) (zaa (vC (.int 2)) zai))) (zec (cF zat (zaa (b2 ixD (vSh 0) (vC (.int 0))) (zaa (vSh 1) zai))) (cF zam (zaa (b2 ixD (vSh 0) (vC (.int 1))) (zaa (vC (.int 1)) (zaa (vC (.int 1000000)) zai)))))))
theorem ziz : FnScope ["row", "step_names"] ["row", "step_names"] (zal zek) := by trivial
theorem zh9 {zam : FQ} {zat : FQ} {zan : FQ} (F : Dfn K mg "is_amount" zek) (B : Bn mg) (c_is_within : Cal Γ P w K mg base "is_within" 3 2 zam) (c_is_one_of : Cal Γ P w K mg base "is_one_of" 2 2 zat) (c_is_tuple : Cal Γ P w K mg base "is_tuple" 2 1 zan) : Cal Γ P w K mg base "is_amount" 2 3 (zey zam zat zan) :=
 F.cal (k := 2) ziz (fun _ _ _ _ _ _ us hl => match us, hl with | [_, _], _ => rfl) fun f cdv A outer s H E hr =>
  (zak (zax (zcH (dC c_is_tuple hr (zab (zac 0) (zab zad zae)) ln2) (zcH (dC c_is_one_of hr (zab (zar (zac 0) zad) (zab (zac 1) zae)) ln2) (zdf (dC c_is_within hr (zab (zar (zac 0) zad) (zab zad (zab (zce rfl B.c_MOST_AMOUNT) zae))) ln3))))))
def zeT (zbH : FQ) (zao : FQ) (zah : FQ) : FQ := zbW 0
  (zaA (sIf (orT (zb6 (toB (cF zao (zaa (vSh 0) (zaa (vC (.int 0)) (zaa (cF zcT (zaa (vSh 1) zai)) zai)))))) (zb6 (toB (cF zjg (zaa (zaS (zaE (itF (vSh 0)) (zaG 0) tT (cF zbH (zaa (vSh 0) (zaa (vSh 1) zai))) [none, some 1])) zai))))) (zbc (vC (.bl false))) zb8) (zbc (cF zah (zaa (zaS (zaE (itF (vSh 0)) (zaG 0) tT (b2 ixD (vSh 0) (vC (.int 0))) [none])) zai))))
theorem zgS : FnScope ["rows", "step_names"] ["rows", "step_names"] (zal zdk) := by trivial
theorem zgy {zbH : FQ} {zao : FQ} {zah : FQ} (F : Dfn K mg "are_amounts" zdk) (B : Bn mg) (c_is_amount : Cal Γ P w K mg base "is_amount" 2 3 zbH) (c_is_list : Cal Γ P w K mg base "is_list" 3 1 zao) (c_are_unlike : Cal Γ P w K mg base "are_unlike" 1 1 zah) : Cal Γ P w K mg base "are_amounts" 2 4 (zeT zbH zao zah) :=
 F.cal (k := 3) zgS (fun _ _ _ _ _ _ us hl => match us, hl with | [_, _], _ => rfl) fun f cdv A outer s H E hr =>
  (zaf (zbz (DW.dt (zcM (zaL (zaJ (dC c_is_list hr (zab (zac 0) (zab zad (zab (zaz zcW rfl B.z_len (by rfl) (zab (zac 1) zae)) zae))) ln3))) (zck (zaL (zaJ (zaz (zdu rfl) rfl B.z_all (by rfl) (zab (DO.de (zbP rfl (CompScope.of rfl rfl) (FvOk.of (N' := ["row", "step_names"]) (fv := [none, some 1]) rfl) (zaM (zac 0)) ⟨fun _ _ _ _ _ => ⟨(zaq 0 (show (["row", "step_names"] : List Str).Nodup by decide +kernel)), zaK, (dC c_is_amount hr (zab (zac 0) (zab (zac 1) zae)) ln2)⟩⟩)) zae))))))) (zak (zax zc9)) zaH) (zak (zax (dC c_are_unlike hr (zab (DO.de (zbP rfl (CompScope.of rfl rfl) (FvOk.of (N' := ["row"]) (fv := [none]) rfl) (zaM (zac 0)) ⟨fun _ _ _ _ _ => ⟨(zaq 0 (show (["row"] : List Str).Nodup by decide +kernel)), zaK, (zar (zac 0) zad)⟩⟩)) zae) ln1))))
def zfm (zav : FQ) (zan : FQ) (zam : FQ) (zbd : FQ) : FQ := zbW 0
  (zaA (sIf (orT (zb6 (toB (cF zan (zaa (vSh 0) (zaa (vC (.int 5)) zai))))) (zb6 (toB (cF zav (zaa (b2 ixD (vSh 0) (vC (.int 0))) zai))))) (zbc (vC (.bl false))) zb8) (zaA (sIf (orT (zb6 (toB (cF zam (zaa (b2 ixD (vSh 0) (vC (.int 2))) (zaa (vC (.int 0)) (zaa (vC (.int 1000000)) zai)))))) (zb6 (toB (cF zam (zaa (b2 ixD (vSh 0) (vC (.int 1))) (zaa (vC (.int 0)) (zaa (b2 ixD (vSh 0) (vC (.int 2))) zai))))))) (zbc (vC (.bl false))) zb8) (zbc (zec (cF zbd (zaa (b2 ixD (vSh 0) (vC (.int 3))) (zaa (vSh 1) zai))) (cF zbd (zaa (b2 ixD (vSh 0) (vC (.int 4))) (zaa (vSh 1) zai)))))))
theorem zjp : FnScope ["row", "step_names"] ["row", "step_names"] (zal ze1) := by trivial
theorem zi5 {zav : FQ} {zan : FQ} {zam : FQ} {zbd : FQ} (F : Dfn K mg "is_stock" ze1) (B : Bn mg) (c_is_name : Cal Γ P w K mg base "is_name" 1 1 zav) (c_is_tuple : Cal Γ P w K mg base "is_tuple" 2 1 zan) (c_is_within : Cal Γ P w K mg base "is_within" 3 2 zam) (c_are_amounts : Cal Γ P w K mg base "are_amounts" 2 4 zbd) : Cal Γ P w K mg base "is_stock" 2 5 (zfm zav zan zam zbd) :=
 F.cal (k := 4) zjp (fun _ _ _ _ _ _ us hl => match us, hl with | [_, _], _ => rfl) fun f cdv A outer s H E hr =>
  (zaf (zbz (DW.dt (zcM (zaL (zaJ (dC c_is_tuple hr (zab (zac 0) (zab zad zae)) ln2))) (zck (zaL (zaJ (dC c_is_name hr (zab (zar (zac 0) zad) zae) ln1)))))) (zak (zax zc9)) zaH) (zaf (zbz (DW.dt (zcM (zaL (zaJ (dC c_is_within hr (zab (zar (zac 0) zad) (zab zad (zab (zce rfl B.c_MOST_AMOUNT) zae))) ln3))) (zck (zaL (zaJ (dC c_is_within hr (zab (zar (zac 0) zad) (zab zad (zab (zar (zac 0) zad) zae))) ln3)))))) (zak (zax zc9)) zaH) (zak (zax (zcH (dC c_are_amounts hr (zab (zar (zac 0) zad) (zab (zac 1) zae)) ln2) (zdf (dC c_are_amounts hr (zab (zar (zac 0) zad) (zab (zac 1) zae)) ln2)))))))
def zfB (zb2 : FQ) (zao : FQ) (zah : FQ) : FQ := zbW 0
  (zaA (sIf (orT (zb6 (toB (cF zao (zaa (vSh 0) (zaa (vC (.int 0)) (zaa (vC (.int 6)) zai)))))) (zb6 (toB (cF zjg (zaa (zaS (zaE (itF (vSh 0)) (zaG 0) tT (cF zb2 (zaa (vSh 0) (zaa (vSh 1) zai))) [none, some 1])) zai))))) (zbc (vC (.bl false))) zb8) (zbc (cF zah (zaa (zaS (zaE (itF (vSh 0)) (zaG 0) tT (b2 ixD (vSh 0) (vC (.int 0))) [none])) zai))))
theorem zhC : FnScope ["stocks", "step_names"] ["stocks", "step_names"] (zal zdz) := by trivial
theorem zgZ {zb2 : FQ} {zao : FQ} {zah : FQ} (F : Dfn K mg "are_stocks" zdz) (B : Bn mg) (c_is_stock : Cal Γ P w K mg base "is_stock" 2 5 zb2) (c_is_list : Cal Γ P w K mg base "is_list" 3 1 zao) (c_are_unlike : Cal Γ P w K mg base "are_unlike" 1 1 zah) : Cal Γ P w K mg base "are_stocks" 2 6 (zfB zb2 zao zah) :=
 F.cal (k := 5) zhC (fun _ _ _ _ _ _ us hl => match us, hl with | [_, _], _ => rfl) fun f cdv A outer s H E hr =>
  (zaf (zbz (DW.dt (zcM (zaL (zaJ (dC c_is_list hr (zab (zac 0) (zab zad (zab (zce rfl B.c_MOST_STOCKS) zae))) ln3))) (zck (zaL (zaJ (zaz (zdu rfl) rfl B.z_all (by rfl) (zab (DO.de (zbP rfl (CompScope.of rfl rfl) (FvOk.of (N' := ["row", "step_names"]) (fv := [none, some 1]) rfl) (zaM (zac 0)) ⟨fun _ _ _ _ _ => ⟨(zaq 0 (show (["row", "step_names"] : List Str).Nodup by decide +kernel)), zaK, (dC c_is_stock hr (zab (zac 0) (zab (zac 1) zae)) ln2)⟩⟩)) zae))))))) (zak (zax zc9)) zaH) (zak (zax (dC c_are_unlike hr (zab (DO.de (zbP rfl (CompScope.of rfl rfl) (FvOk.of (N' := ["row"]) (fv := [none]) rfl) (zaM (zac 0)) ⟨fun _ _ _ _ _ => ⟨(zaq 0 (show (["row"] : List Str).Nodup by decide +kernel)), zaK, (zar (zac 0) zad)⟩⟩)) zae) ln1))))
def zdv (zam : FQ) (zbn : FQ) (zbR : FQ) (zcm : FQ) (zbB : FQ) (zbS : FQ) (zbA : FQ) : FQ := zbW 2
  (zaA (sIf (zb6 (toB (cF zam (zaa (vSh 6) (zaa (vC (.int 1)) (zaa (vC (.int 1000000)) zai)))))) (zbc (vC (.str "horizon"))) zb8) (zaA (sIf (zb6 (toB (cF zbn (zaa (vSh 0) (zaa (vSh 6) zai))))) (zbc (vC (.str "benches"))) zb8) (zaA (zbg 7 (zaS (zaE (itF (vSh 0)) (zaG 0) tT (b2 ixD (vSh 0) (vC (.int 0))) [none]))) (zaA (sIf (zb6 (toB (cF zbR (zaa (vSh 1) (zaa (vSh 7) (zaa (vSh 6) zai)))))) (zbc (vC (.str "steps"))) zb8) (zaA (zbg 8 (zaS (zaE (itF (vSh 1)) (zaG 0) tT (b2 ixD (vSh 0) (vC (.int 0))) [none]))) (zaA (sIf (zb6 (toB (cF zcm (zaa (vSh 2) (zaa (vSh 8) (zaa (vSh 6) zai)))))) (zbc (vC (.str "jobs"))) zb8) (zaA (sIf (zb6 (toB (cF zbB (zaa (vSh 3) (zaa (vSh 7) (zaa (vSh 6) zai)))))) (zbc (vC (.str "setups"))) zb8) (zaA (sIf (zb6 (toB (cF zbS (zaa (vSh 4) (zaa (vSh 8) (zaa (vSh 6) zai)))))) (zbc (vC (.str "links"))) zb8) (zaA (sIf (zb6 (toB (cF zbA (zaa (vSh 5) (zaa (vSh 8) zai))))) (zbc (vC (.str "stocks"))) zb8) (zbc (vC .non)))))))))))
theorem zcy : FnScope ["benches", "steps", "jobs", "setups", "links", "stocks", "horizon", "bench_names", "step_names"] ["benches", "steps", "jobs", "setups", "links", "stocks", "horizon"] (zal zcK) := by trivial
theorem zeQ {zam : FQ} {zbn : FQ} {zbR : FQ} {zcm : FQ} {zbB : FQ} {zbS : FQ} {zbA : FQ} (F : Dfn K mg "first_bad_part" zcK) (B : Bn mg) (c_is_within : Cal Γ P w K mg base "is_within" 3 2 zam) (c_are_benches : Cal Γ P w K mg base "are_benches" 2 6 zbn) (c_are_steps : Cal Γ P w K mg base "are_steps" 3 6 zbR) (c_are_jobs : Cal Γ P w K mg base "are_jobs" 3 4 zcm) (c_are_setups : Cal Γ P w K mg base "are_setups" 3 4 zbB) (c_are_links : Cal Γ P w K mg base "are_links" 3 4 zbS) (c_are_stocks : Cal Γ P w K mg base "are_stocks" 2 6 zbA) : Cal Γ P w K mg base "first_bad_part" 7 7 (zdv zam zbn zbR zcm zbB zbS zbA) :=
 F.cal (k := 6) zcy (fun _ _ _ _ _ _ us hl => match us, hl with | [_, _, _, _, _, _, _], _ => rfl) fun f cdv A outer s H E hr =>
  (zaf (zbz (zaL (zaJ (dC c_is_within hr (zab (zac 6) (zab zad (zab (zce rfl B.c_MOST_HORIZON) zae))) ln3))) (zak (zax zcZ)) zaH) (zaf (zbz (zaL (zaJ (dC c_are_benches hr (zab (zac 0) (zab (zac 6) zae)) ln2))) (zak (zax zcZ)) zaH) (zaf (zms 7 zcy.nd rfl (CompScope.of rfl rfl) (FvOk.of (N' := ["row"]) (fv := [none]) rfl) (zaM (zac 0)) ⟨fun _ _ _ _ _ => ⟨(zaq 0 (show (["row"] : List Str).Nodup by decide +kernel)), zaK, (zar (zac 0) zad)⟩⟩) (zaf (zbz (zaL (zaJ (dC c_are_steps hr (zab (zac 1) (zab (zac 7) (zab (zac 6) zae))) ln3))) (zak (zax zcZ)) zaH) (zaf (zms 8 zcy.nd rfl (CompScope.of rfl rfl) (FvOk.of (N' := ["row"]) (fv := [none]) rfl) (zaM (zac 1)) ⟨fun _ _ _ _ _ => ⟨(zaq 0 (show (["row"] : List Str).Nodup by decide +kernel)), zaK, (zar (zac 0) zad)⟩⟩) (zaf (zbz (zaL (zaJ (dC c_are_jobs hr (zab (zac 2) (zab (zac 8) (zab (zac 6) zae))) ln3))) (zak (zax zcZ)) zaH) (zaf (zbz (zaL (zaJ (dC c_are_setups hr (zab (zac 3) (zab (zac 7) (zab (zac 6) zae))) ln3))) (zak (zax zcZ)) zaH) (zaf (zbz (zaL (zaJ (dC c_are_links hr (zab (zac 4) (zab (zac 8) (zab (zac 6) zae))) ln3))) (zak (zax zcZ)) zaH) (zaf (zbz (zaL (zaJ (dC c_are_stocks hr (zab (zac 5) (zab (zac 8) zae)) ln2))) (zak (zax zcZ)) zaH) (zak (zax zkx)))))))))))
def zdb (zaR : FQ) : FQ := zbW 0
  (zaA (sIf (toB (cF zd7 (zaa (vSh 0) (zaa (vC (.ty "list")) zai)))) (zbc (zaS (zaE (itF (vSh 0)) (zaG 0) tT (cF zaR (zaa (vSh 0) zai)) [none]))) zb8) (zaA (sIf (toB (cF zd7 (zaa (vSh 0) (zaa (vC (.ty "tuple")) zai)))) (zbc (cF zlj (zaa (zaS (zaE (itF (vSh 0)) (zaG 0) tT (cF zaR (zaa (vSh 0) zai)) [none])) zai))) zb8) (zbc (vSh 0))))
theorem znl : FnScope ["thing"] ["thing"] (zal zju) := by trivial
theorem zmQ {k : Nat} {zaR : FQ} (F : Dfn K mg "fresh" zju) (B : Bn mg) (c_fresh : Cal Γ P w K mg base "fresh" 1 k zaR) : Cal Γ P w K mg base "fresh" 1 (k + 1) (zdb zaR) :=
 F.cal (k := k) znl (fun _ _ _ _ _ _ us hl => match us, hl with | [_], _ => rfl) fun f cdv A outer s H E hr =>
  (zaf (zbz (zaJ (zaz zeb rfl B.z_isinstance (by rfl) (zab (zac 0) (zab (zgX rfl B.z_list (by rfl)) zae)))) (zak (zax (DO.de (zbP rfl (CompScope.of rfl rfl) (FvOk.of (N' := ["part"]) (fv := [none]) rfl) (zaM (zac 0)) ⟨fun _ _ _ _ _ => ⟨(zaq 0 (show (["part"] : List Str).Nodup by decide +kernel)), zaK, (zmG c_fresh hr (qt _) rfl (zab (zac 0) zae) ln1)⟩⟩)))) zaH) (zaf (zbz (zaJ (zaz zeb rfl B.z_isinstance (by rfl) (zab (zac 0) (zab (zgX rfl B.z_tuple (by rfl)) zae)))) (zak (zax (zdg znb rfl B.z_tuple (by rfl) (zab (DO.de (zbP rfl (CompScope.of rfl rfl) (FvOk.of (N' := ["part"]) (fv := [none]) rfl) (zaM (zac 0)) ⟨fun _ _ _ _ _ => ⟨(zaq 0 (show (["part"] : List Str).Nodup by decide +kernel)), zaK, (zmG c_fresh hr (qt _) rfl (zab (zac 0) zae) ln1)⟩⟩)) zae)))) zaH) (zak (zax (zac 0)))))
def zdQ (za0 : FQ) (zaR : FQ) : FQ := zqI 3 "Shop"
  (zaA (zbg 8 (cF za0 (zaa (vSh 1) (zaa (vSh 2) (zaa (vSh 3) (zaa (vSh 4) (zaa (vSh 5) (zaa (vSh 6) (zaa (vSh 7) zai))))))))) (zaA (sIf (toB (b2 zhl (vSh 8) (vC .non))) sNo zb8) (zaA (zeI "Shop" "benches" 0 (cF zaR (zaa (vSh 1) zai))) (zaA (zeI "Shop" "steps" 0 (cF zaR (zaa (vSh 2) zai))) (zaA (zeI "Shop" "jobs" 0 (cF zaR (zaa (vSh 3) zai))) (zaA (zeI "Shop" "setups" 0 (cF zaR (zaa (vSh 4) zai))) (zaA (zeI "Shop" "links" 0 (cF zaR (zaa (vSh 5) zai))) (zaA (zeI "Shop" "stocks" 0 (cF zaR (zaa (vSh 6) zai))) (zaA (zeI "Shop" "horizon" 0 (vSh 7)) (zaA (zeI "Shop" "bench_by_name" 0 (cF ziZ (zaa (zaS (zaE (itF (zgV "Shop" "benches" 0)) (zaG 0) tT (zbu (szF (zaa (b2 ixD (vSh 0) (vC (.int 0))) (zaa (vSh 0) zai)))) [none])) zai))) (zaA (zeI "Shop" "step_by_name" 0 (cF ziZ (zaa (zaS (zaE (itF (zgV "Shop" "steps" 0)) (zaG 0) tT (zbu (szF (zaa (b2 ixD (vSh 0) (vC (.int 0))) (zaa (vSh 0) zai)))) [none])) zai))) (zaA (zeI "Shop" "setup_by_names" 0 (cF zkv (zaa (zaS (zaE (itF (zgV "Shop" "setups" 0)) (zaG 0) tT (zbu (szF (zaa (slF (vSh 0) pN (pS (vC (.int 3)))) (zaa (b2 ixD (vSh 0) (vC (.int 3))) zai)))) [none])) zai))) (zaA (zqG "Shop" "job_by_step" 0) (zdo (itF (zgV "Shop" "jobs" 0)) (zaG 9) (zdo (itF (b2 ixD (vSh 9) (vC (.int 4)))) (zaG 10) (zc4 "Shop" "job_by_step" 0 (vSh 10) (vSh 9)))))))))))))))))
theorem zcd : FnScope ["self", "benches", "steps", "jobs", "setups", "links", "stocks", "horizon", "part", "row", "step"] ["self", "benches", "steps", "jobs", "setups", "links", "stocks", "horizon"] (zal zcS) := by trivial
theorem zfi {za0 : FQ} {zaR : FQ} {C : Addr} (O : ClsOk Γ K mg "Shop" C) (F : DfnM K C "Shop" "__init__" "Shop.__init__" zcS) (B : Bn mg) (c_first_bad_part : Cal Γ P w K mg base "first_bad_part" 7 7 za0) (c_fresh : Cal Γ P w K mg base "fresh" 1 8 zaR) (cf_Shop : CF Γ K "Shop" zgD) : CalI Γ P w K mg base "Shop" 7 9 (zdQ za0 zaR) :=
 DfnM.calI (k := 8) O F zcd (fun _ _ _ _ _ _ us hl => match us, hl with | [_, _, _, _, _, _, _, _], _ => rfl) fun f y cdv A outer s H E hr =>
  (zaf (zaQ 8 zcd.nd (dC (c_first_bad_part.re y) hr (zab (zac 1) (zab (zac 2) (zab (zac 3) (zab (zac 4) (zab (zac 5) (zab (zac 6) (zab (zac 7) zae))))))) ln7)) (zaf (zbz (zbN zkC (zac 8) zkx (zbI _)) (zak ztg) zaH) (zaf (zc7 0 (cf_Shop.re y) (.head _) (dC (c_fresh.re y) hr (zab (zac 1) zae) ln1)) (zaf (zc7 0 (cf_Shop.re y) (.tail _ (.head _)) (dC (c_fresh.re y) hr (zab (zac 2) zae) ln1)) (zaf (zc7 0 (cf_Shop.re y) (.tail _ (.tail _ (.head _))) (dC (c_fresh.re y) hr (zab (zac 3) zae) ln1)) (zaf (zc7 0 (cf_Shop.re y) (.tail _ (.tail _ (.tail _ (.head _)))) (dC (c_fresh.re y) hr (zab (zac 4) zae) ln1)) (zaf (zc7 0 (cf_Shop.re y) (.tail _ (.tail _ (.tail _ (.tail _ (.head _))))) (dC (c_fresh.re y) hr (zab (zac 5) zae) ln1)) (zaf (zc7 0 (cf_Shop.re y) (.tail _ (.tail _ (.tail _ (.tail _ (.tail _ (.head _)))))) (dC (c_fresh.re y) hr (zab (zac 6) zae) ln1)) (zaf (zc7 0 (cf_Shop.re y) (.tail _ (.tail _ (.tail _ (.tail _ (.tail _ (.tail _ (.head _))))))) (zac 7)) (zaf (zc7 0 (cf_Shop.re y) (.tail _ (.tail _ (.tail _ (.tail _ (.tail _ (.tail _ (.tail _ (.head _)))))))) (zdg (zj3 rfl (zjj hr)) rfl B.z_dict (by rfl) (zab (DO.de (zbP rfl (CompScope.of rfl rfl) (FvOk.of (N' := ["row"]) (fv := [none]) rfl) (zaM (zhZ 0 (cf_Shop.re y) (.head _))) ⟨fun _ _ _ _ _ => ⟨(zaq 0 (show (["row"] : List Str).Nodup by decide +kernel)), zaK, (zbx (zab (zar (zac 0) zad) (zab (zac 0) zae)))⟩⟩)) zae))) (zaf (zc7 0 (cf_Shop.re y) (.tail _ (.tail _ (.tail _ (.tail _ (.tail _ (.tail _ (.tail _ (.tail _ (.head _))))))))) (zdg (zj3 rfl (zjj hr)) rfl B.z_dict (by rfl) (zab (DO.de (zbP rfl (CompScope.of rfl rfl) (FvOk.of (N' := ["row"]) (fv := [none]) rfl) (zaM (zhZ 0 (cf_Shop.re y) (.tail _ (.head _)))) ⟨fun _ _ _ _ _ => ⟨(zaq 0 (show (["row"] : List Str).Nodup by decide +kernel)), zaK, (zbx (zab (zar (zac 0) zad) (zab (zac 0) zae)))⟩⟩)) zae))) (zaf (zc7 0 (cf_Shop.re y) (.tail _ (.tail _ (.tail _ (.tail _ (.tail _ (.tail _ (.tail _ (.tail _ (.tail _ (.head _)))))))))) (zdg (znc rfl (zjj hr)) rfl B.z_dict (by rfl) (zab (DO.de (zbP rfl (CompScope.of rfl rfl) (FvOk.of (N' := ["row"]) (fv := [none]) rfl) (zaM (zhZ 0 (cf_Shop.re y) (.tail _ (.tail _ (.tail _ (.head _)))))) ⟨fun _ _ _ _ _ => ⟨(zaq 0 (show (["row"] : List Str).Nodup by decide +kernel)), zaK, (zbx (zab (zbl (zac 0) zb9 (zbM zad)) (zab (zar (zac 0) zad) zae)))⟩⟩)) zae))) (zaf (zr7 0 (cf_Shop.re y) (.tail _ (.tail _ (.tail _ (.tail _ (.tail _ (.tail _ (.tail _ (.tail _ (.tail _ (.tail _ (.head _)))))))))))) (zak (zcc PassesOwn.never rfl (zaM (zhZ 0 (cf_Shop.re y) (.tail _ (.tail _ (.head _))))) (zaq 9 zcd.nd) (zak (zcc PassesOwn.never rfl (zaM (zar (zac 9) zad)) (zaq 10 zcd.nd) (zak (zmr 0 (zjj hr) (cf_Shop.re y) (.tail _ (.tail _ (.tail _ (.tail _ (.tail _ (.tail _ (.tail _ (.tail _ (.tail _ (.tail _ (.head _))))))))))) (zac 10) (zac 9))))))))))))))))))))
def zgL (za8 : FQ) : FQ := zbW 0
  (zbc (cF za8 (zaa (b2 ixD (vSh 0) (vC (.int 0))) (zaa (b2 ixD (vSh 0) (vC (.int 1))) (zaa (b2 ixD (vSh 0) (vC (.int 2))) (zaa (b2 ixD (vSh 0) (vC (.int 3))) (zaa (b2 ixD (vSh 0) (vC (.int 4))) (zaa (b2 ixD (vSh 0) (vC (.int 5))) (zaa (b2 ixD (vSh 0) (vC (.int 6))) zai)))))))))
theorem ziC : FnScope ["_law_lists_here"] ["_law_lists_here"] (zal zen) := by trivial
theorem zic {za8 : FQ} (F : Dfn K mg "_law_shop" zen) (B : Bn mg) (c_Shop___init__ : CalI Γ P w K mg base "Shop" 7 9 za8) : Cal Γ P w K mg base "_law_shop" 1 11 (zgL za8) :=
 F.cal (k := 10) ziC (fun _ _ _ _ _ _ us hl => match us, hl with | [_], _ => rfl) fun f cdv A outer s H E hr =>
  (zak (zax (zqq c_Shop___init__ hr (by decide) rfl (zab (zar (zac 0) zad) (zab (zar (zac 0) zad) (zab (zar (zac 0) zad) (zab (zar (zac 0) zad) (zab (zar (zac 0) zad) (zab (zar (zac 0) zad) (zab (zar (zac 0) zad) zae))))))) ln7)))
def zhy : FQ := zbW 2
  (zaA (zeH 3 (zaE (itF (b2 ixD (vSh 0) (vC (.int 4)))) (zaG 0) (toB (b2 eqA (slF (vSh 0) pN (pS (vC (.int 2)))) (zbu (szF (zaa (vSh 1) (zaa (vSh 2) zai)))))) (b2 ixD (vSh 0) (vC (.int 2))) [none, some 1, some 2])) (zaA (zdo (itF (b2 ixD (vSh 0) (vC (.int 2)))) (zaG 4) (sIf (zfz (toB (b2 ixD (vSh 4) (vC (.int 3)))) (zfz (toB (b2 ziT (vSh 1) (b2 ixD (vSh 4) (vC (.int 4))))) (zfz (toB (b2 ziT (vSh 2) (b2 ixD (vSh 4) (vC (.int 4))))) (toB (b2 ltD (mF zgW (b2 ixD (vSh 4) (vC (.int 4))) (zaa (vSh 1) zai)) (mF zgW (b2 ixD (vSh 4) (vC (.int 4))) (zaa (vSh 2) zai))))))) (zdp 3 (vC (.int 0))) zb8)) (zgT 3 (zbc (b1 zpW (vSh 3))))))
theorem zeh : FnScope ["_law_lists_here", "_law_one", "_law_other", "_law_gaps", "_law_job"] ["_law_lists_here", "_law_one", "_law_other"] (zal ze7) := by trivial
theorem zjb (F : Dfn K mg "_law_gap" ze7) (B : Bn mg)  : Cal Γ P w K mg base "_law_gap" 3 1 (zhy) :=
 F.cal (k := 0) zeh (fun _ _ _ _ _ _ us hl => match us, hl with | [_, _, _], _ => rfl) fun f cdv A outer s H E hr =>
  (zaf (zn4 3 zeh.nd rfl (CompScope.of rfl rfl) (FvOk.of (N' := ["_law_link", "_law_one", "_law_other"]) (fv := [none, some 1, some 2]) rfl) (zaM (zar (zac 0) zad)) ⟨fun _ _ _ _ _ => ⟨(zaq 0 (show (["_law_link", "_law_one", "_law_other"] : List Str).Nodup by decide +kernel)), (zhY (zbN (zsl (zp9 hr)) (zbl (zac 0) zb9 (zbM zad)) (zbx (zab (zac 1) (zab (zac 2) zae))) (zbI _))), (zar (zac 0) zad)⟩⟩) (zaf (zcc PassesOwn.never rfl (zaM (zar (zac 0) zad)) (zaq 4 zeh.nd) (zak (zbz (DW.dt (zgp (zaJ (zar (zac 4) zad)) (zgp (zbN (zkD (zjj hr)) (zac 1) (zar (zac 4) zad) (by rfl)) (zgp (zbN (zkD (zjj hr)) (zac 2) (zar (zac 4) zad) (by rfl)) (zgo (zbN zoe (zsf PySem.F.plainAttrs_list PySem.F.slot_list_index PySem.F.type_list_index zlU (zar (zac 4) zad) (zab (zac 1) zae)) (zsf PySem.F.plainAttrs_list PySem.F.slot_list_index PySem.F.type_list_index zlU (zar (zac 4) zad) (zab (zac 2) zae)) (zbI _))))))) (zak (zbk 3 zad)) zaH))) (zcA 3 (zak (zax (zqp rfl rfl B.z_max (zac 3)))))))
def zdh : FQ := zbW 0
  (zbc (zaS (zaE (itF (zqg "Shop" "steps" (vSh 0))) (zaG 0) tT (b2 ixD (vSh 0) (vC (.int 0))) [none])))
theorem zeG : FnScope ["self"] ["self"] (zal zcz) := by trivial
theorem zev {C : Addr} (O : ClsOk Γ K mg "Shop" C) (F : DfnM K C "Shop" "step_names" "Shop.step_names" zcz) (B : Bn mg) (cf_Shop : CF Γ K "Shop" zgD) : CalM Γ P w K mg base "Shop" "step_names" 1 1 (zdh) :=
 DfnM.cal (k := 0) O F zeG (fun _ _ _ _ _ _ us hl => match us, hl with | [_], _ => rfl) fun f cdv A outer s H E hr =>
  (zak (zax (DO.de (zbP rfl (CompScope.of rfl rfl) (FvOk.of (N' := ["row"]) (fv := [none]) rfl) (zaM (zmF cf_Shop (.tail _ (.head _)) (zac 0))) ⟨fun _ _ _ _ _ => ⟨(zaq 0 (show (["row"] : List Str).Nodup by decide +kernel)), zaK, (zar (zac 0) zad)⟩⟩))))
def zdP (zaR : FQ) : FQ := zbW 0
  (zbc (cF zaR (zaa (zqg "Shop" "jobs" (vSh 0)) zai)))
theorem zfJ : FnScope ["self"] ["self"] (zal zcR) := by trivial
theorem zfh {zaR : FQ} {C : Addr} (O : ClsOk Γ K mg "Shop" C) (F : DfnM K C "Shop" "job_rows" "Shop.job_rows" zcR) (B : Bn mg) (c_fresh : Cal Γ P w K mg base "fresh" 1 8 zaR) (cf_Shop : CF Γ K "Shop" zgD) : CalM Γ P w K mg base "Shop" "job_rows" 1 9 (zdP zaR) :=
 DfnM.cal (k := 8) O F zfJ (fun _ _ _ _ _ _ us hl => match us, hl with | [_], _ => rfl) fun f cdv A outer s H E hr =>
  (zak (zax (dC c_fresh hr (zab (zmF cf_Shop (.tail _ (.tail _ (.head _))) (zac 0)) zae) ln1)))
def zhv : FQ := zbW 3
  (zaA (zeH 1 (szF zai)) (zaA (zdo (itE (vSh 0)) (zcG 2 (zaI (zaG 2) (zaI (zaG 3) zcF))) (zlc 1 (zaS (zaE (itF (slF (vSh 0) (pS (b2 zbf (vSh 2) (vC (.int 1)))) pN)) (zaG 0) tT (zbu (szF (zaa (vSh 1) (zaa (vSh 0) zai)))) [none, some 3])))) (zgT 1 (zbc (vSh 1)))))
theorem zdi : FnScope ["things", "pairs", "place", "one"] ["things"] (zal zeY) := by trivial
theorem zi2 (F : Dfn K mg "pairs_of" zeY) (B : Bn mg)  : Cal Γ P w K mg base "pairs_of" 1 1 (zhv) :=
 F.cal (k := 0) zdi (fun _ _ _ _ _ _ us hl => match us, hl with | [_], _ => rfl) fun f cdv A outer s H E hr =>
  (zaf (zcU 1 zdi.nd (zbw zae)) (zaf (zcc PassesOwn.never rfl (zdM rfl B.z_enumerate (zac 0)) (zd8 (n := 2) rfl (za4 (zaq 2 zdi.nd) (za4 (zaq 3 zdi.nd) zc8))) (zak (zgq 1 (DO.de (zbP rfl (CompScope.of rfl rfl) (FvOk.of (N' := ["other", "one"]) (fv := [none, some 3]) rfl) (zaM (zbl (zac 0) (zbM (za2 (zac 2) zad)) zb9)) ⟨fun _ _ _ _ _ => ⟨(zaq 0 (show (["other", "one"] : List Str).Nodup by decide +kernel)), zaK, (zbx (zab (zac 1) (zab (zac 0) zae)))⟩⟩))))) (zcA 1 (zak (zax (zac 1))))))
def zdw (zaR : FQ) : FQ := zbW 0
  (zbc (cF zaR (zaa (zqg "Shop" "links" (vSh 0)) zai)))
theorem zeX : FnScope ["self"] ["self"] (zal zcL) := by trivial
theorem zeR {zaR : FQ} {C : Addr} (O : ClsOk Γ K mg "Shop" C) (F : DfnM K C "Shop" "link_rows" "Shop.link_rows" zcL) (B : Bn mg) (c_fresh : Cal Γ P w K mg base "fresh" 1 8 zaR) (cf_Shop : CF Γ K "Shop" zgD) : CalM Γ P w K mg base "Shop" "link_rows" 1 9 (zdw zaR) :=
 DfnM.cal (k := 8) O F zeX (fun _ _ _ _ _ _ us hl => match us, hl with | [_], _ => rfl) fun f cdv A outer s H E hr =>
  (zak (zax (dC c_fresh hr (zab (zmF cf_Shop (.tail _ (.tail _ (.tail _ (.tail _ (.head _))))) (zac 0)) zae) ln1)))
def zdO (zaW : FQ) (zby : FQ) (zaP : FQ) : FQ := zbW 6
  (zaA (zty 1) (zaA (zdo (itF (zga "Shop" "job_rows" zaW (vSh 0) zai)) (zaG 2) (sIf (toB (b2 ixD (vSh 2) (vC (.int 3)))) (zdo (itF (cF zby (zaa (b2 ixD (vSh 2) (vC (.int 4))) zai))) (zaG 3) (zeJ 1 (vSh 3) (vC (.int 0)))) zb8)) (zaA (zdo (itF (zga "Shop" "link_rows" zaP (vSh 0) zai)) (zcG 3 (zaI (zaG 4) (zaI (zaG 5) (zaI (zaG 6) zcF)))) (zeJ 1 (zbu (szF (zaa (vSh 4) (zaa (vSh 5) zai)))) (vSh 6))) (znm 1 (zbc (vSh 1))))))
theorem zba : FnScope ["shop", "gaps", "job", "pair", "one", "other", "gap"] ["shop"] (zal zcQ) := by trivial
theorem zfg {zaW : FQ} {zby : FQ} {zaP : FQ} (F : Dfn K mg "greatest_gaps" zcQ) (B : Bn mg) (c_Shop_job_rows : CalM Γ P w K mg base "Shop" "job_rows" 1 9 zaW) (c_pairs_of : Cal Γ P w K mg base "pairs_of" 1 1 zby) (c_Shop_link_rows : CalM Γ P w K mg base "Shop" "link_rows" 1 9 zaP) : Cal Γ P w K mg base "greatest_gaps" 1 10 (zdO zaW zby zaP) :=
 F.cal (k := 9) zba (fun _ _ _ _ _ _ us hl => match us, hl with | [_], _ => rfl) fun f cdv A outer s H E hr =>
  (zaf (zr8 1 zba.nd) (zaf (zcc PassesOwn.never rfl (zaM (zh0 c_Shop_job_rows hr (by decide) (zac 0))) (zaq 2 zba.nd) (zak (zbz (zaJ (zar (zac 2) zad)) (zak (zcc PassesOwn.never rfl (zaM (dC c_pairs_of hr (zab (zar (zac 2) zad) zae) ln1)) (zaq 3 zba.nd) (zak (zku 1 (zjj hr) (zac 3) zad)))) zaH))) (zaf (zcc PassesOwn.never rfl (zaM (zh0 c_Shop_link_rows hr (by decide) (zac 0))) (zd8 (n := 3) rfl (za4 (zaq 4 zba.nd) (za4 (zaq 5 zba.nd) (za4 (zaq 6 zba.nd) zc8)))) (zak (zku 1 (zjj hr) (zbx (zab (zac 4) (zab (zac 5) zae))) (zac 6)))) (zn3 1 (zak (zax (zac 1)))))))
def zed (zaT : FQ) (za7 : FQ) : List D -> Option (List D) := zqH 4
  (zaA (zbg 1 (zga "Shop" "step_names" zaT (vSh 0) zai)) (zaA (zbg 2 (cF za7 (zaa (vSh 0) zai))) (zaA (zeH 3 (szF zai)) (zaA (zdo (itF (vSh 1)) (zaG 4) (zlc 3 (zaS (zaE (itF (vSh 1)) (zaG 0) (toB (b2 zsb (zbu (szF (zaa (vSh 1) (zaa (vSh 0) zai)))) (vSh 2))) (zbu (szF (zaa (vSh 1) (zaa (vSh 0) (zaa (b2 zmA (vSh 2) (zbu (szF (zaa (vSh 1) (zaa (vSh 0) zai))))) zai))))) [none, some 4, some 2])))) (zpa 3)))))
theorem zbO : FnScope ["shop", "names", "gaps", "orders", "one"] ["shop"] (zal zc2) := by trivial
theorem zfM {zaT : FQ} {za7 : FQ} (F : Dfn K mg "known_orders" zc2) (B : Bn mg) (c_Shop_step_names : CalM Γ P w K mg base "Shop" "step_names" 1 1 zaT) (c_greatest_gaps : Cal Γ P w K mg base "greatest_gaps" 1 10 za7) : CalO Γ P w K mg base "known_orders" 1 11 (zed zaT za7) :=
 F.calO (k := 10) zbO (fun _ _ _ _ _ _ us hl => match us, hl with | [_], _ => rfl) fun f cdv A outer s H E hr =>
  (zaf (zaQ 1 zbO.nd (zh0 c_Shop_step_names hr (by decide) (zac 0))) (zaf (zaQ 2 zbO.nd (dC c_greatest_gaps hr (zab (zac 0) zae) ln1)) (zaf (zcU 3 zbO.nd (zbw zae)) (zaf (zcc PassesOwn.never rfl (zaM (zac 1)) (zaq 4 zbO.nd) (zak (zgq 3 (DO.de (zbP rfl (CompScope.of rfl rfl) (FvOk.of (N' := ["other", "one", "gaps"]) (fv := [none, some 4, some 2]) rfl) (zaM (zac 1)) ⟨fun _ _ _ _ _ => ⟨(zaq 0 (show (["other", "one", "gaps"] : List Str).Nodup by decide +kernel)), (zhY (zbN (zsm (zjj hr)) (zbx (zab (zac 1) (zab (zac 0) zae))) (zac 2) (by rfl))), (zbx (zab (zac 1) (zab (zac 0) (zab (zqr (zjj hr) (zac 2) (zbx (zab (zac 1) (zab (zac 0) zae)))) zae))))⟩⟩))))) (zak (zqh 3))))))
def zts (zay : FQ) (zbE : FQ) (zbU : FQ) (zbT : FQ) (zbL : FQ) (zaV : List D -> Option (List D)) : FQ := zbW 9
  (zaA (zbg 1 (b2 ixD (zaS (szF (zaa (vC (.int 9)) (zaa (vC (.int 40)) (zaa (b2 zpp (vC (.int 10)) (vC (.int 6))) zai))))) (b2 zcn (cF zay (zaa (vSh 0) (zaa (vC (.int 21)) zai))) (vC (.int 3))))) (zaA (zbg 2 (cF zbU (zaa (vSh 0) (zaa (cF zbE (zaa (vSh 0) (zaa (b2 zbf (vC (.int 1)) (b2 zcn (cF zay (zaa (vSh 0) (zaa (vC (.int 22)) zai))) (vC (.int 10)))) (zaa (vSh 1) (zaa (vC (.int 7)) zai))))) zai)))) (zaA (zbg 3 (cF zbT (zaa (vSh 2) zai))) (zaA (zeH 4 (szF zai)) (zaA (zdo (itF (b2 ixD (vSh 2) (vC (.int 1)))) (zaG 5) (zdo (itF (b2 ixD (vSh 2) (vC (.int 1)))) (zaG 6) (zaA (zbg 7 (cF zbL (zaa (vSh 2) (zaa (b2 ixD (vSh 5) (vC (.int 0))) (zaa (b2 ixD (vSh 6) (vC (.int 0))) zai))))) (sIf (toB (b2 zhl (vSh 7) (vC .non))) (zdp 4 (zbu (szF (zaa (b2 ixD (vSh 5) (vC (.int 0))) (zaa (b2 ixD (vSh 6) (vC (.int 0))) (zaa (vSh 7) zai)))))) zb8)))) (zaA (zdo (itR ziF (zaa (vC (.int 2)) zai)) (zaG 8) (zaA (zeH 9 (cFO zaV (zaa (vSh 3) zai))) (zaA (sIf (bwT 9 (bwT 4 (orT (zb6 (toB (cF zd7 (zaa (vSh 9) (zaa (vC (.ty "list")) zai))))) (orT (toB (b2 neA (vSh 9) (vSh 4))) (toB (b2 ziT (vC (.bl true)) (zaS (zaE (itF (vSh 9)) (zaG 0) tT (cF zd7 (zaa (b2 ixD (vSh 0) (vC (.int 2))) (zaa (vC (.ty "bool")) zai))) [none])))))))) (zbc (vC (.bl false))) zb8) (zdp 9 (vC .non))))) (zbc (vC (.bl true)))))))))
theorem zd4 : FnScope ["_law_script", "_law_horizon", "_law_lists_here", "_law_shop_here", "_law_due", "_law_one", "_law_other", "_law_gap_here", "_law_turn", "_law_found"] ["_law_script"] (zal zfZ) := by trivial
theorem zqw {zay : FQ} {zbE : FQ} {zbU : FQ} {zbT : FQ} {zbL : FQ} {zaV : List D -> Option (List D)} (B : Bn mg) (c__law_cell : Cal Γ P w K mg base "_law_cell" 2 1 zay) (c__law_lists : Cal Γ P w K mg base "_law_lists" 4 3 zbE) (c__law_more : Cal Γ P w K mg base "_law_more" 2 2 zbU) (c__law_shop : Cal Γ P w K mg base "_law_shop" 1 11 zbT) (c__law_gap : Cal Γ P w K mg base "_law_gap" 3 1 zbL) (c_known_orders : CalO Γ P w K mg base "known_orders" 1 11 zaV) (f : Addr) (cdv : Value) (A : Around) (outer : List Env) (s : Shared) (H : Hp) (E : XK) (hr : Room 11 (A.deeper (envOfC "law" (zal zfZ) s.heap.objs.size f cdv))) : DSs Γ (zkz CX0 P w K mg base ["_law_script", "_law_horizon", "_law_lists_here", "_law_shop_here", "_law_due", "_law_one", "_law_other", "_law_gap_here", "_law_turn", "_law_found"] "law" (zal zfZ) f cdv A outer s H E).nox (zbh zfZ)
  (zaA (zbg 1 (b2 ixD (zaS (szF (zaa (vC (.int 9)) (zaa (vC (.int 40)) (zaa (b2 zpp (vC (.int 10)) (vC (.int 6))) zai))))) (b2 zcn (cF zay (zaa (vSh 0) (zaa (vC (.int 21)) zai))) (vC (.int 3))))) (zaA (zbg 2 (cF zbU (zaa (vSh 0) (zaa (cF zbE (zaa (vSh 0) (zaa (b2 zbf (vC (.int 1)) (b2 zcn (cF zay (zaa (vSh 0) (zaa (vC (.int 22)) zai))) (vC (.int 10)))) (zaa (vSh 1) (zaa (vC (.int 7)) zai))))) zai)))) (zaA (zbg 3 (cF zbT (zaa (vSh 2) zai))) (zaA (zeH 4 (szF zai)) (zaA (zdo (itF (b2 ixD (vSh 2) (vC (.int 1)))) (zaG 5) (zdo (itF (b2 ixD (vSh 2) (vC (.int 1)))) (zaG 6) (zaA (zbg 7 (cF zbL (zaa (vSh 2) (zaa (b2 ixD (vSh 5) (vC (.int 0))) (zaa (b2 ixD (vSh 6) (vC (.int 0))) zai))))) (sIf (toB (b2 zhl (vSh 7) (vC .non))) (zdp 4 (zbu (szF (zaa (b2 ixD (vSh 5) (vC (.int 0))) (zaa (b2 ixD (vSh 6) (vC (.int 0))) (zaa (vSh 7) zai)))))) zb8)))) (zaA (zdo (itR ziF (zaa (vC (.int 2)) zai)) (zaG 8) (zaA (zeH 9 (cFO zaV (zaa (vSh 3) zai))) (zaA (sIf (bwT 9 (bwT 4 (orT (zb6 (toB (cF zd7 (zaa (vSh 9) (zaa (vC (.ty "list")) zai))))) (orT (toB (b2 neA (vSh 9) (vSh 4))) (toB (b2 ziT (vC (.bl true)) (zaS (zaE (itF (vSh 9)) (zaG 0) tT (cF zd7 (zaa (b2 ixD (vSh 0) (vC (.int 2))) (zaa (vC (.ty "bool")) zai))) [none])))))))) (zbc (vC (.bl false))) zb8) (zdp 9 (vC .non))))) (zbc (vC (.bl true))))))))) :=
  (zaf (zaQ 1 zd4.nd (zar (DO.de (zbw (zab zad (zab zad (zab (zsd zad zad) zae))))) (zbQ (dC c__law_cell hr (zab (zac 0) (zab zad zae)) ln2) zad))) (zaf (zaQ 2 zd4.nd (dC c__law_more hr (zab (zac 0) (zab (dC c__law_lists hr (zab (zac 0) (zab (za2 zad (zbQ (dC c__law_cell hr (zab (zac 0) (zab zad zae)) ln2) zad)) (zab (zac 1) (zab zad zae)))) ln4) zae)) ln2)) (zaf (zaQ 3 zd4.nd (dC c__law_shop hr (zab (zac 2) zae) ln1)) (zaf (zcU 4 zd4.nd (zbw zae)) (zaf (zcc PassesOwn.never rfl (zaM (zar (zac 2) zad)) (zaq 5 zd4.nd) (zak (zcc PassesOwn.never rfl (zaM (zar (zac 2) zad)) (zaq 6 zd4.nd) (zaf (zaQ 7 zd4.nd (dC c__law_gap hr (zab (zac 2) (zab (zar (zac 5) zad) (zab (zar (zac 6) zad) zae))) ln3)) (zak (zbz (zbN zkC (zac 7) zkx (zbI _)) (zak (zbk 4 (zbx (zab (zar (zac 5) zad) (zab (zar (zac 6) zad) (zab (zac 7) zae)))))) zaH)))))) (zaf (zcc PassesOwn.never rfl (zde rfl B.z_range (zab zad zae)) (zaq 8 zd4.nd) (zaf (zcU 9 zd4.nd (zr9 c_known_orders hr (by decide) rfl (zab (zac 3) zae) ln1)) (zaf (zbz (zmq 9 (zmq 4 (DW.dt (zcM (zaL (zaJ (zaz zeb rfl B.z_isinstance (by rfl) (zab (zac 9) (zab (zgX rfl B.z_list (by rfl)) zae))))) (zcM (zbN (zhs (zp9 hr)) (zac 9) (zac 4) (zbI _)) (zck (zbN (zkD (zjj hr)) zc9 (DO.de (zbP rfl (CompScope.of rfl rfl) (FvOk.of (N' := ["_law_row"]) (fv := [none]) rfl) (zaM (zac 9)) ⟨fun _ _ _ _ _ => ⟨(zaq 0 (show (["_law_row"] : List Str).Nodup by decide +kernel)), zaK, (zaz zeb rfl B.z_isinstance (by rfl) (zab (zar (zac 0) zad) (zab (zgX rfl B.z_bool (by rfl)) zae)))⟩⟩)) (by rfl)))))))) (zak (zax zc9)) zaH) (zak (zbk 9 zkx))))) (zak (zax zc9))))))))
end Law
end
section
namespace Law
open PySem L2 PySem.Spec PyProof.Rows
def zay : FQ := zgP
def zag : FQ := zeW
def zbp : FQ := zfF
def zas : FQ := zgM
def zbe : FQ := zee zag zbp zas
def zbD : FQ := zfE zag zas
def zbV : FQ := zgO zag zas
def zbq : FQ := zeV zag
def zbF : FQ := zfH zag
def zbo : FQ := zeU zag zas
def zbE : FQ := zfG zay zbe zbD zbV zbq zbF zbo
def zbU : FQ := zgN zag
def zb1 : FQ := zfk
def zam : FQ := zew zb1
def zan : FQ := zfl
def zb4 : FQ := zfo zam zan
def zao : FQ := zgH
def zbC : FQ := zfD zb4 zao
def zav : FQ := zjh
def zb5 : FQ := zfp zbC zav zan
def zah : FQ := zcI
def zbn : FQ := zeS zb5 zao zah
def zat : FQ := zex zav
def zcP : FQ := zij zam zat zan
def zcl : FQ := zhw zcP zao zah
def zcu : FQ := zgG zav zan zcl
def zbR : FQ := zgJ zcu zao zah
def zc1 : FQ := zkH zav zan zam zat zao
def zcm : FQ := zhx zc1 zao zah
def zb3 : FQ := zfn zat zan zam zav
def zbB : FQ := zfC zb3 zao zah
def zcv : FQ := zgI zat zan zam
def zbS : FQ := zgK zcv zao zah
def zbH : FQ := zey zam zat zan
def zbd : FQ := zeT zbH zao zah
def zb2 : FQ := zfm zav zan zam zbd
def zbA : FQ := zfB zb2 zao zah
def za0 : FQ := zdv zam zbn zbR zcm zbB zbS zbA
def zda : Nat -> FQ
 | 0 => fun _ => none
 | n + 1 => zdb (zda n)
def zaR : FQ := zda 8
def za8 : FQ := zdQ za0 zaR
def zbT : FQ := zgL za8
def zbL : FQ := zhy
def zaT : FQ := zdh
def zaW : FQ := zdP zaR
def zby : FQ := zhv
def zaP : FQ := zdw zaR
def za7 : FQ := zdO zaW zby zaP
def zaV : List D -> Option (List D) := zed zaT za7
def zsq : FQ := zts zay zbE zbU zbT zbL zaV
end Law
end
section
namespace Law
open PySem L2
theorem i2 : zji "int" "int" = some true := rfl
theorem i3 : zji "int" "bool" = some false := rfl
theorem i5 : zji "bool" "bool" = some true := rfl
theorem k1 : zji "list" "list" = some true := rfl
theorem k2 : zji "tuple" "list" = some false := rfl
theorem k3 : zji "tuple" "tuple" = some true := rfl
theorem k4 : zji "str" "list" = some false := rfl
theorem k5 : zji "str" "tuple" = some false := rfl
theorem k6 : zji "int" "list" = some false := rfl
theorem k7 : zji "int" "tuple" = some false := rfl
theorem k8 : zji "bool" "list" = some false := rfl
theorem k9 : zji "bool" "tuple" = some false := rfl
theorem k10 : zji "NoneType" "list" = some false := rfl
theorem k11 : zji "NoneType" "tuple" = some false := rfl
theorem sz1 : (1 <= sizeLine) = True := by simp [sizeLine]
theorem sz2 : (1 + 1 <= sizeLine) = True := by simp [sizeLine]
theorem sz3 : (1 + 1 + 1 <= sizeLine) = True := by simp [sizeLine]
theorem sz4 : (1 + 1 + 1 + 1 <= sizeLine) = True := by simp [sizeLine]
theorem sz5 : (1 + 1 + 1 + 1 + 1 <= sizeLine) = True := by simp [sizeLine]
theorem sz6 : (1 + 1 + 1 + 1 + 1 + 1 <= sizeLine) = True := by simp [sizeLine]
theorem sz7 : (1 + 1 + 1 + 1 + 1 + 1 + 1 <= sizeLine) = True := by simp [sizeLine]
section
variable {x0 x1 x2 x3 x4 : D} {r : List D}
theorem zdN {α : Type} (l : List α) (n : Nat) : atI l (n : Int) = l[n]? := by
 unfold atI ixN
 rw [if_pos (by omega)]
 by_cases h : n < l.length
 ·rw [if_pos (by omega)]; simp
 ·rw [if_neg (by omega)]; simp; omega
theorem zhk : ixD (.tup (x0 :: r)) (.int 0) = some x0 := zdN _ 0
theorem zm8 : ixD (.tup (x0 :: x1 :: r)) (.int 1) = some x1 := zdN _ 1
theorem zp6 : ixD (.tup (x0 :: x1 :: x2 :: r)) (.int 2) = some x2 := zdN _ 2
theorem zsx : ixD (.tup (x0 :: x1 :: x2 :: x3 :: r)) (.int 3) = some x3 := zdN _ 3
theorem zm7 : ixD (.tup (x0 :: x1 :: x2 :: x3 :: x4 :: r)) (.int 4) = some x4 := zdN _ 4
end
theorem zqv {fe : FE} {r : zaX} {f : D -> D} : ∀ {xs : List D} {a : Option Slot}, (∀ x ∈ xs, fe (oS x :: r) = some (f x)) -> zfL (zaG 0) tT fe xs (a :: r) = some (xs.map f)
 | [], _, _ => rfl
 | x :: xs, a, h => by
  have h1 := h x qf
  have ih := zqv (xs := xs) (a := oS x) fun y hy => h y (qg _ hy)
  simp only [zfL, zaG, List.set_cons_zero, qa, tT, if_true, h1, ih, qd, ql]
theorem zoP {fe : FE} {ft : FT} {r : zaX} {f : D -> D} {p : D -> Bool} : ∀ {xs : List D} {a : Option Slot}, (∀ x ∈ xs, ft (oS x :: r) = some (p x) /\ (p x = true -> fe (oS x :: r) = some (f x))) -> zfL (zaG 0) ft fe xs (a :: r) = some ((xs.filter p).map f)
 | [], _, _ => rfl
 | x :: xs, a, h => by
  have h1 := h x qf
  have ih := zoP (xs := xs) (a := oS x) fun y hy => h y (qg _ hy)
  simp only [zfL, zaG, List.set_cons_zero, qa, h1.1, ih, List.filter_cons]
  cases e : p x
  ·simp
  ·simp [h1.2 e]
theorem zmU : ∀ {l : List D}, (∀ x ∈ l, x = .bl true) -> ∃ bs : List Bool, zqP l = some bs /\ bs.all id = true
 | [], _ => ⟨[], rfl, rfl⟩
 | x :: r, h => by
  obtain ⟨bs, h1, h2⟩ := zmU (l := r) fun y hy => h y (qg _ hy)
  have hx := h x qf
  subst hx
  exact ⟨true :: bs, by simp [zqP, h1], by simpa using h2⟩
theorem zcf {fi : FA} {fe : FE} {fv : List (Option Nat)} {ρ r : zaX} {a : Option Slot} {xs : List D} (h1 : fi ρ = some xs) (h2 : xs.length <= sizeLine) (h3 : zdZ fv ρ = a :: r) (h : ∀ x ∈ xs, fe (oS x :: r) = some (.bl true)) :
  cF zjg (zaa (zaS (zaE fi (zaG 0) tT fe fv)) zai) ρ = some (.bl true) := by
 have c := zqv (a := a) (f := fun _ => .bl true) h
 obtain ⟨bs, e1, e2⟩ := zmU (l := xs.map fun _ => D.bl true) (by simp)
 simp only [cF, zaa, zai, zaS, zaE, h1, qa, if_pos h2, h3, c, qd, zjg, e1]
 simpa using e2
theorem zbj {fi : FA} {fe : FE} {fv : List (Option Nat)} {ρ r : zaX} {a : Option Slot} {xs : List D} {f : D -> D} (h1 : fi ρ = some xs) (h2 : xs.length <= sizeLine) (h3 : zdZ fv ρ = a :: r) (h : ∀ x ∈ xs, fe (oS x :: r) = some (f x)) :
  zaS (zaE fi (zaG 0) tT fe fv) ρ = some (.lst (xs.map f)) := by
 simp only [zaS, zaE, h1, qa, if_pos h2, h3, zqv (a := a) h, qd]
theorem zch {gg : FG} {body : FS} {xs : List D} {ρ : zaX} (I : Nat -> zaX -> Prop) (h0 : I 0 ρ) (hs : ∀ i x ρ, xs[i]? = some x -> I i ρ -> ∃ ρ1 ρ2, gg x ρ = some ρ1 /\ body ρ1 = some (.nx, ρ2) /\ I (i + 1) ρ2) :
  ∃ ρ', zho gg body xs ρ = some (.nx, ρ') /\ I xs.length ρ' := by
 have key : ∀ (ys : List D) (k : Nat) (ρ : zaX), xs.drop k = ys -> I k ρ -> ∃ ρ', zho gg body ys ρ = some (.nx, ρ') /\ I (k + ys.length) ρ' := by
  intro ys
  induction ys with
  | nil => intro k ρ _ hk; exact ⟨ρ, rfl, hk⟩
  | cons y r ih =>
   intro k ρ hd hk
   have hy : xs[k]? = some y := by
    have : (xs.drop k)[0]? = some y := by rw [hd]; rfl
    simpa using this
   obtain ⟨ρ1, ρ2, h1, h2, h3⟩ := hs k y ρ hy hk
   have hd' : xs.drop (k + 1) = r := by rw [← List.drop_drop, hd]; rfl
   obtain ⟨ρ', h4, h5⟩ := ih (k + 1) ρ2 hd' h3
   refine ⟨ρ', ?_, by rw [qh]; rwa [show k + 1 + r.length = k + (r.length + 1) by omega] at h5⟩
   simp only [zho, h1, qa, h2, h4]
 obtain ⟨ρ', h1, h2⟩ := key xs 0 ρ rfl h0
 exact ⟨ρ', h1, by rwa [Nat.zero_add] at h2⟩
theorem zsn : (2 : Int) ^ 62 = 4611686018427387904 := by decide +kernel
theorem zpd {i j : Int} (h : 0 <= i /\ i <= 1000000 /\ 0 <= j /\ j <= 1000000) : zpe [.int i, .int j] = some ((List.range (j - i).toNat).map fun k : Nat => D.int (i + k)) := by
 unfold zpe
 rw [zsn]
 exact if_pos ⟨by omega, by omega, by omega, by omega⟩
theorem ze8 {j : Int} (h : 0 <= j /\ j <= 1000000) : ziF [.int j] = some ((List.range j.toNat).map fun i : Nat => D.int (0 + i)) := by
 unfold ziF
 rw [zsn]
 exact if_pos ⟨by omega, by omega⟩
theorem zgj {g : List D -> Option (List D)} {fr : FA} {ρ : zaX} {ds r : List D} (h1 : fr ρ = some ds) (h2 : g ds = some r) : itR g fr ρ = some r := by
 unfold itR; rw [h1]; exact h2
theorem zau {g : D -> D -> Option D} {fa fb : FE} {ρ : zaX} {x y z : D} (h1 : fa ρ = some x) (h2 : fb ρ = some y) (h3 : g x y = some z) : b2 g fa fb ρ = some z := by
 unfold b2; rw [h1, qa, h2, qa]; exact h3
theorem zaU {g : FQ} {fr : FA} {ρ : zaX} {ds : List D} {z : D} (h1 : fr ρ = some ds) (h2 : g ds = some z) : cF g fr ρ = some z := by
 unfold cF; rw [h1]; exact h2
theorem zaj {f : FE} {fr : FA} {ρ : zaX} {d : D} {ds : List D} (h1 : f ρ = some d) (h2 : fr ρ = some ds) : zaa f fr ρ = some (d :: ds) := by
 unfold zaa; rw [h1, qa, h2]; rfl
theorem zaB {ρ : zaX} : zai ρ = some [] := rfl
theorem zos {n : Nat} {g : FS} {ds : List D} {d : D} {ρ' : zaX} (h : g (ds.map (fun d => some (Slot.sh d)) ++ List.replicate n none) = some (.rt d, ρ')) : zbW n g ds = some d := by
 unfold zbW; rw [h]; rfl
theorem za1 {n : Nat} {g : FS} {ds : List D} {d : D} (ρ : zaX) {ρ' : zaX} (e : ds.map (fun d => some (Slot.sh d)) ++ List.replicate n none = ρ) (h : g ρ = some (.rt d, ρ')) : zbW n g ds = some d := by
 subst e; exact zos h
theorem zaY {f : FE} {ρ : zaX} {d : D} (h : f ρ = some d) : zbc f ρ = some (.rt d, ρ) := by unfold zbc; rw [h]; rfl
theorem zaO {f : FE} {ρ : zaX} {b : Bool} (h : f ρ = some (.bl b)) : toB f ρ = some b := by unfold toB; rw [h]; rfl
theorem zgm {A : FE} {X E : FS} {ρ : zaX} (hA : A ρ = some (.bl true)) : zaA (sIf (zb6 (toB A)) X zb8) E ρ = E ρ := by
 simp only [zaA, sIf, zb6, zaO hA, qd, qa, Bool.not_true, qo, if_false, zb8]
theorem zdL {A B : FE} {X E : FS} {ρ : zaX} (hA : A ρ = some (.bl true)) (hB : B ρ = some (.bl true)) : zaA (sIf (orT (zb6 (toB A)) (zb6 (toB B))) X zb8) E ρ = E ρ := by
 simp only [zaA, sIf, orT, zb6, zaO hA, zaO hB, qd, qa, Bool.not_true, qo, if_false, zb8]
theorem zrZ {A B C : FE} {X E : FS} {ρ : zaX} (hA : A ρ = some (.bl true)) (hB : B ρ = some (.bl true)) (hC : C ρ = some (.bl true)) : zaA (sIf (orT (zb6 (toB A)) (orT (zb6 (toB B)) (zb6 (toB C)))) X zb8) E ρ = E ρ := by
 simp only [zaA, sIf, orT, zb6, zaO hA, zaO hB, zaO hC, qd, qa, Bool.not_true, qo, if_false, zb8]
theorem zoR {A B : FE} {ρ : zaX} (hA : A ρ = some (.bl true)) (hB : B ρ = some (.bl true)) : zec A B ρ = some (.bl true) := by
 simp only [zec, hA, hB, qa]
theorem zaD {i : Nat} {f : FE} {g : FS} {ρ : zaX} {d : D} (h : f ρ = some d) : zaA (zbg i f) g ρ = g (ρ.set i (oS d)) := by
 simp only [zaA, zbg, h, qd, qa]
theorem zlf (i : Int) : zb1 [.int i] = some (.bl true) := by
 simp only [zb1, zfk, zbW, zbc, zec, zsv, cF, zaa, zai, vSh, vC, zd7, tyD, ql, List.map_nil, List.cons_append, List.nil_append, List.replicate, qb, qa, qd, Bool.not_false, i2, i3]
theorem zbt (i a b : Int) (h : a <= i /\ i <= b) : zam [.int i, .int a, .int b] = some (.bl true) := by
 simp only [zam, zew, zlf, zbW, zbc, zec, cF, zaa, zai, vSh, chD, leD, ql, List.map_nil, List.cons_append, List.nil_append, List.replicate, qb, qc, qa, qd, decide_eq_true h.1, decide_eq_true h.2]
theorem zc6 (l : List D) (a b : Int) (h : a <= l.length /\ (l.length : Int) <= b) : zao [.lst l, .int a, .int b] = some (.bl true) := by
 simp only [zao, zgH, zbW, zbc, zec, cF, zaa, zai, vSh, vC, chD, zd7, tyD, zcT, leD, ql, List.map_nil, List.cons_append, List.nil_append, List.replicate, qb, qc, qa, qd, k1, decide_eq_true h.1, decide_eq_true h.2]
theorem zfQ (l : List D) (n : Int) (h : (l.length : Int) = n) : zan [.tup l, .int n] = some (.bl true) := by
 simp only [zan, zfl, zbW, zbc, zec, cF, zaa, zai, vSh, vC, b2, zd7, tyD, zcT, eqD, eqS, ql, List.map_nil, List.cons_append, List.nil_append, List.replicate, qb, qc, qa, qd, k3, decide_eq_true h]
section
variable {a b c d e : D}
theorem zst : zan [.tup [a, b], .int 2] = some (.bl true) := zfQ _ _ rfl
theorem ztu : zan [.tup [a, b, c], .int 3] = some (.bl true) := zfQ _ _ rfl
theorem ztN : zan [.tup [a, b, c, d], .int 4] = some (.bl true) := zfQ _ _ rfl
theorem ztt : zan [.tup [a, b, c, d, e], .int 5] = some (.bl true) := zfQ _ _ rfl
end
def dIv (p : Int × Int) : D := .tup [.int p.1, .int p.2]
theorem zoi (p : Int × Int) (h : Int) (h1 : 0 <= p.1) (h2 : p.1 < p.2) (h3 : p.2 <= h) : zb4 [dIv p, .int h] = some (.bl true) := by
 simp only [zb4, zfo, dIv, zbW, zaA, sIf, zbc, zb8, orT, zb6, toB, cF, zaa, zai, vSh, vC, b2, ltD, zhk, zm8, ql, List.map_nil, List.cons_append, List.nil_append, List.replicate, qb, qc, qa, qd, if_false, Bool.not_true, qo, zst, zbt p.1 0 h ⟨h1, by omega⟩, zbt p.2 0 h ⟨by omega, h3⟩, decide_eq_true h2]
def az (c : Nat) : Bool := !ltS ⟨#[c]⟩ "a" && !ltS "z" ⟨#[c]⟩
theorem zto {c : Nat} (h : az c = true) : c <= 122 := by
 have z : ("z" : Str) = ⟨#[122]⟩ := by decide +kernel
 unfold az ltS at h
 rw [z] at h
 simp only [Bool.and_eq_true, Bool.not_eq_true', decide_eq_false_iff_not] at h
 have h2 := h.2
 rcases Nat.lt_or_ge 122 c with q | q
 ·exact absurd (show ([122] : List Nat) < [c] from List.Lex.rel q) h2
 ·exact q
theorem zod (c : Nat) (r : zaX) : chD leD leD (vC (.str "a")) (vSh 0) (vC (.str "z")) (oS (.str ⟨#[c]⟩) :: r) = some (.bl (az c)) := by
 simp only [chD, vC, vSh, qb, qa, leD, az]
 cases ltS ⟨#[c]⟩ "a" <;> simp
def zaF (x : Str) : Bool := decide (1 <= x.length) && decide (x.length <= 8) && x.cps.toList.all az
theorem zlP {x : Str} (h : zaF x = true) : 1 <= x.length /\ x.length <= 8 := by
 unfold zaF at h
 simp only [Bool.and_eq_true, decide_eq_true_eq] at h
 exact h.1
theorem zki {x : Str} (h : zaF x = true) : ∀ c ∈ x.cps.toList, az c = true := by
 unfold zaF at h
 simp only [Bool.and_eq_true, List.all_eq_true] at h
 exact h.2
theorem zdK {x : Str} (h : zaF x = true) : zav [.str x] = some (.bl true) := by
 obtain ⟨h1, h2⟩ := zlP h
 have hz : x.length <= sizeLine := by unfold sizeLine; omega
 have hl : (x.cps.toList.map fun c => D.str ⟨#[c]⟩).length <= sizeLine := by simpa [Str.length] using hz
 have e1 : decide ((1 : Int) <= (x.length : Nat)) = true := decide_eq_true (by omega)
 have e2 : decide (((x.length : Nat) : Int) <= 8) = true := decide_eq_true (by omega)
 have ha := zcf (fi := itS (vSh 0)) (fe := chD leD leD (vC (.str "a")) (vSh 0) (vC (.str "z"))) (fv := [none]) (ρ := [oS (.str x)]) (r := []) (a := none) (xs := x.cps.toList.map fun c => D.str ⟨#[c]⟩)
  (by simp [itS, vSh, zlp]) hl rfl (fun y hy => by
   obtain ⟨c, hc, rfl⟩ := List.mem_map.mp hy
   rw [zod, zki h c hc])
 refine zos (ρ' := [oS (.str x)]) ((zdL ?_ ?_).trans (zaY ha))
 ·rfl
 ·show chD leD leD (vC (.int 1)) (cF zcT (zaa (vSh 0) zai)) (vC (.int 8)) [oS (.str x)] = _
  simp only [cF, zaa, zai, vSh, vC, chD, zcT, leD, qb, qa, qd, if_pos hz, e1, e2]
theorem zdS {x : Str} (h : zaF x = true) : PyData.strOk x = true := by
 unfold PyData.strOk
 rw [Array.all_eq_true']
 intro c hc
 have := zto (zki h c (by simpa using hc))
 exact decide_eq_true (by omega)
theorem zhL : ∀ (ns : List Str), zil (ns.map D.str) = some (ns.map PyData.str)
 | [] => by simp [zil]
 | x :: r => by simp [zil, pdD, zhL r]
theorem zeN : ∀ {ns : List Str}, (∀ x ∈ ns, zaF x = true) -> PyData.canLayAll0 (ns.map PyData.str) = true
 | [], _ => by simp [PyData.canLayAll0]
 | x :: r, h => by
  simp only [ql, PyData.canLayAll0, PyData.canLay0, zdS (h x qf), Bool.true_and]
  exact zeN fun y hy => h y (qg _ hy)
theorem zkG (x : Str) : ∀ (ns : List Str), ((ns.map PyData.str).any fun z => PyData.eqv z (.str x)) = decide (x ∈ ns)
 | [] => by simp
 | y :: r => by
  have ih := zkG x r
  rw [ql, List.any_cons, ih]
  simp only [PyData.eqv]
  by_cases e : y = x
  ·subst e; simp
  ·have : x ≠ y := fun z => e z.symm
   simp [e, this]
theorem zjK {x : Str} {ns : List Str} (hx : zaF x = true) (hn : ∀ y ∈ ns, zaF y = true) : ziT (.str x) (.lst (ns.map D.str)) = some (.bl (decide (x ∈ ns))) := by
 have sh : SeqAt.shaped (.str x) = true := by simp [SeqAt.shaped, PyData.canLay0, zdS hx, PyData.depth]
 simp only [ziT, inX, pdD, zhL, qd, qa, sh, zeN hn, and_self, if_true, zkG]
theorem zdc {x : Str} {ns : List Str} (hx : x ∈ ns) (hn : ∀ y ∈ ns, zaF y = true) : zat [.str x, .lst (ns.map D.str)] = some (.bl true) := by
 simp only [zat, zex, zbW, zbc, zec, cF, zaa, zai, vSh, b2, ql, List.map_nil, List.cons_append, List.nil_append, List.replicate, qb, qc, qa, qd, zdK (hn x hx), zjK (hn x hx) hn, decide_eq_true hx]
theorem zky {κ : Type} [DecidableEq κ] {l : List κ} (h : l.Nodup) : ST.dd l = l := by
 have key : ∀ (l a : List κ), (a ++ l).Nodup -> l.foldl (fun a k => if k ∈ a then a else a ++ [k]) a = a ++ l := by
  intro l
  induction l with
  | nil => intro a _; simp
  | cons x r ih =>
   intro a hn
   have hx : x ∉ a := by
    intro z
    rw [List.nodup_append] at hn
    exact hn.2.2 x z x qf rfl
   rw [List.foldl_cons, if_neg hx, ih (a ++ [x]) (by simpa using hn)]
   simp
 simpa [ST.dd] using key l [] (by simpa using h)
theorem zdX : ∀ (ns : List Str), zeO (ns.map D.str) = some (ns.map Sum.inr)
 | [] => by simp [zeO]
 | x :: r => by simp [zeO, zmv, zdX r]
theorem zcg {ns : List Str} (h : ns.Nodup) (hl : ns.length <= 300) : zah [.lst (ns.map D.str)] = some (.bl true) := by
 have hd : (ns.map (Sum.inr : Str -> Key)).Nodup := List.Pairwise.map _ (fun a b hab z => hab (Sum.inr.inj z)) h
 simp only [zah, zcI, zbW, zbc, cF, zaa, zai, vSh, b1, b2, zcT, eqD, eqS, ql, List.map_nil, List.cons_append, List.nil_append, List.replicate, qb, qa, qd, ze9, qe, if_pos hl, zdX, zky hd]
 simp
theorem zfq : ∀ (ts : List (List Str)), zef (ts.map fun t => .tup (t.map D.str)) = some (ts.map fun t => t.map Sum.inr)
 | [] => by simp [zef]
 | t :: r => by simp [zef, zdX, zfq r]
theorem zfU {ts : List (List Str)} (h : ts.Nodup) (hl : ts.length <= 300) : zah [.lst (ts.map fun t => .tup (t.map D.str))] = some (.bl true) := by
 have inj : ∀ a b : List Str, a.map (Sum.inr : Str -> Key) = b.map Sum.inr -> a = b := fun a b z => (List.map_inj_right (fun x y q => Sum.inr.inj q)).mp z
 have hd : (ts.map fun t => t.map (Sum.inr : Str -> Key)).Nodup := List.Pairwise.map _ (fun a b hab z => hab (inj a b z)) h
 cases ts with
 | nil => simp only [zah, zcI, zbW, zbc, cF, zaa, zai, vSh, b1, b2, zcT, eqD, eqS, ql, List.map_nil, List.cons_append, List.nil_append, List.replicate, qb, qa, qd, qk, ze9, zeO, ST.dd]; simp
 | cons t r =>
  have e : zeO ((t :: r).map fun t => D.tup (t.map D.str)) = none := by simp [zeO, zmv]
  simp only [zah, zcI, zbW, zbc, b2, b1, vSh, ql, List.map_nil, List.cons_append, List.nil_append, List.replicate, qb, qa, ze9, cF, zaa, zai, zcT, qd]
  rw [if_pos (by simpa using hl)]
  have e' := e
  rw [ql] at e'
  rw [e']
  have t' := zfq (t :: r)
  rw [ql] at t'
  rw [t']
  rw [qd, zky hd]
  simp [eqD, eqS]
end Law
end
section
namespace Law
open PySem L2
structure BenchT where
 nm : Str
 br : List (Int × Int)
structure StepT where
 nm : Str
 kd : Str
 ws : List (Str × Int)
structure JobT where
 nm : Str
 ea : Int
 du : Int
 od : Bool
 ms : List Str
structure SetT where
 b : Str
 p : Str
 q : Str
 n : Int
structure LinkT where
 a : Str
 b : Str
 g : Int
structure StockT where
 nm : Str
 lo : Int
 hi : Int
 tk : List (Str × Int)
 pt : List (Str × Int)
def dW (w : Str × Int) : D := .tup [.str w.1, .int w.2]
def zaZ (b : BenchT) : D := .tup [.str b.nm, .lst (b.br.map dIv)]
def zaN (s : StepT) : D := .tup [.str s.nm, .str s.kd, .lst (s.ws.map dW)]
def zbK (j : JobT) : D := .tup [.str j.nm, .int j.ea, .int j.du, .bl j.od, .lst (j.ms.map D.str)]
def zea (u : SetT) : D := .tup [.str u.b, .str u.p, .str u.q, .int u.n]
def za9 (l : LinkT) : D := .tup [.str l.a, .str l.b, .int l.g]
def zb7 (k : StockT) : D := .tup [.str k.nm, .int k.lo, .int k.hi, .lst (k.tk.map dW), .lst (k.pt.map dW)]
structure GoodB (h : Int) (b : BenchT) : Prop where
 nm : zaF b.nm = true
 len : b.br.length <= 10
 iv : ∀ p ∈ b.br, 0 <= p.1 /\ p.1 < p.2 /\ p.2 <= h
 gap : ∀ (i : Nat) p q, b.br[i]? = some p -> b.br[i + 1]? = some q -> p.2 < q.1
structure GoodS (bn : List Str) (h : Int) (s : StepT) : Prop where
 nm : zaF s.nm = true
 kd : zaF s.kd = true
 l1 : 1 <= s.ws.length
 l4 : s.ws.length <= 4
 ws : ∀ w ∈ s.ws, w.1 ∈ bn /\ 1 <= w.2 /\ w.2 <= h
 nd : (s.ws.map (·.1)).Nodup
structure GoodJ (sn : List Str) (h : Int) (j : JobT) : Prop where
 nm : zaF j.nm = true
 ea : 0 <= j.ea /\ j.ea <= h
 du : 0 <= j.du /\ j.du <= h
 l1 : 1 <= j.ms.length
 ln : j.ms.length <= sn.length
 ms : ∀ m ∈ j.ms, m ∈ sn
structure GoodU (bn : List Str) (h : Int) (u : SetT) : Prop where
 b : u.b ∈ bn
 p : zaF u.p = true
 q : zaF u.q = true
 n : 1 <= u.n /\ u.n <= h
structure GoodL (sn : List Str) (h : Int) (l : LinkT) : Prop where
 a : l.a ∈ sn
 b : l.b ∈ sn
 ne : l.a ≠ l.b
 g : 0 <= l.g /\ l.g <= h
structure GoodA (sn : List Str) (am : List (Str × Int)) : Prop where
 ln : am.length <= sn.length
 ws : ∀ w ∈ am, w.1 ∈ sn /\ 1 <= w.2 /\ w.2 <= 1000000
 nd : (am.map (·.1)).Nodup
structure GoodK (sn : List Str) (k : StockT) : Prop where
 nm : zaF k.nm = true
 lo : 0 <= k.lo /\ k.lo <= k.hi
 hi : 0 <= k.hi /\ k.hi <= 1000000
 tk : GoodA sn k.tk
 pt : GoodA sn k.pt
structure Good (bs : List BenchT) (ss : List StepT) (js : List JobT) (us : List SetT) (ls : List LinkT) (ks : List StockT) (hz : Int) : Prop where
 hh : 1 <= hz /\ hz <= 1000000
 bl : 1 <= bs.length /\ bs.length <= 8
 b : ∀ x ∈ bs, GoodB hz x
 bn : (bs.map (·.nm)).Nodup
 sl : 1 <= ss.length /\ ss.length <= 40
 s : ∀ x ∈ ss, GoodS (bs.map (·.nm)) hz x
 sn : (ss.map (·.nm)).Nodup
 jl : js.length <= 40
 j : ∀ x ∈ js, GoodJ (ss.map (·.nm)) hz x
 jn : (js.map (·.nm)).Nodup
 jm : (js.flatMap (·.ms)).Nodup
 ul : us.length <= 100
 u : ∀ x ∈ us, GoodU (bs.map (·.nm)) hz x
 un : (us.map fun u => [u.b, u.p, u.q]).Nodup
 ll : ls.length <= 100
 l : ∀ x ∈ ls, GoodL (ss.map (·.nm)) hz x
 ln : (ls.map fun l => [l.a, l.b]).Nodup
 kl : ks.length <= 6
 k : ∀ x ∈ ks, GoodK (ss.map (·.nm)) x
 kn : (ks.map (·.nm)).Nodup
theorem ixL (l : List D) (n : Nat) : ixD (.lst l) (.int (n : Int)) = l[n]? := zdN l n
theorem szN {n k : Nat} (h : n <= k) (hk : k <= 1000) : n <= sizeLine := by unfold sizeLine; omega
section
variable {h : Int} {bn sn : List Str}
theorem zr0 {br : List (Int × Int)} (len : br.length <= 10) (gap : ∀ (i : Nat) p q, br[i]? = some p -> br[i + 1]? = some q -> p.2 < q.1) :
  cF zjg (zaa (zaS (zaE (itR zpe (zaa (vC (.int 1)) (zaa (cF zcT (zaa (vSh 0) zai)) zai))) (zaG 0) tT (b2 ltD (b2 ixD (b2 ixD (vSh 1) (b2 zon (vSh 0) (vC (.int 1)))) (vC (.int 1))) (b2 ixD (b2 ixD (vSh 1) (vSh 0)) (vC (.int 0)))) [none, some 0])) zai) [oS (.lst (br.map dIv)), oS (.int h)] = some (.bl true) := by
 have e0 : itR zpe (zaa (vC (.int 1)) (zaa (cF zcT (zaa (vSh 0) zai)) zai)) [oS (.lst (br.map dIv)), oS (.int h)] = some ((List.range (((br.map dIv).length : Int) - 1).toNat).map fun k : Nat => D.int (1 + k)) := by
  exact zgj rfl (zpd (i := 1) (j := ((br.map dIv).length : Nat)) (by rw [qe]; omega))
 refine zcf (r := [oS (.lst (br.map dIv))]) (a := none) e0 ?_ rfl fun x hx => ?_
 ·simp only [qe, List.length_range]
  exact szN (k := 10) (by omega) (by decide)
 ·obtain ⟨k, hk, rfl⟩ := List.mem_map.mp hx
  rw [List.mem_range, qe] at hk
  have hk1 : k < br.length := by omega
  have hk2 : k + 1 < br.length := by omega
  have e1 : br[k]? = some br[k] := by simp [hk1]
  have e2 : br[k + 1]? = some br[k + 1] := by simp [hk2]
  have g := gap k _ _ e1 e2
  have a1 : ixD (.lst (br.map dIv)) (.int (1 + (k : Int) - 1)) = some (dIv br[k]) := by
   have : (1 + (k : Int) - 1) = ((k : Nat) : Int) := by omega
   rw [this, ixL, qj, e1]; rfl
  have a2 : ixD (.lst (br.map dIv)) (.int (1 + (k : Int))) = some (dIv br[k + 1]) := by
   have : (1 + (k : Int)) = ((k + 1 : Nat) : Int) := by omega
   rw [this, ixL, qj, e2]; rfl
  simp only [vSh, vC, b2, ltD, zon, qb, qc, qa, a1, a2]
  simp only [dIv, zhk, zm8, qa, decide_eq_true g]
theorem zmS {br : List (Int × Int)} (len : br.length <= 10) (iv : ∀ p ∈ br, 0 <= p.1 /\ p.1 < p.2 /\ p.2 <= h) (gap : ∀ (i : Nat) p q, br[i]? = some p -> br[i + 1]? = some q -> p.2 < q.1) :
  zbC [.lst (br.map dIv), .int h] = some (.bl true) := by
 refine za1 [oS (.lst (br.map dIv)), oS (.int h)] rfl ((zdL ?_ (zcf (r := [oS (.int h)]) (a := none) (xs := br.map dIv) rfl (by rw [qe]; exact szN len (by decide)) rfl fun x hx => ?_)).trans (zaY (zr0 len gap)))
 ·exact zc6 _ 0 10 ⟨by omega, by rw [qe]; omega⟩
 ·obtain ⟨p, hp, rfl⟩ := List.mem_map.mp hx
  obtain ⟨h1, h2, h3⟩ := iv p hp
  exact zoi p h h1 h2 h3
theorem zoj {b : BenchT} (g : GoodB h b) : zb5 [zaZ b, .int h] = some (.bl true) := by
 simp only [zb5, zfp, zaZ, zbW, zbc, zec, cF, zaa, zai, vSh, vC, b2, zhk, zm8, ql, List.map_nil, List.cons_append, List.nil_append, List.replicate, qb, qc, qa, qd, zst, zdK g.nm, zmS g.len g.iv g.gap]
theorem zcN {α : Type} {f : α -> D} {nm : α -> Str} {xs : List α} {i : Nat} {ρ : zaX} {fv : List (Option Nat)} (hf : ∀ x, ∃ r, f x = .tup (.str (nm x) :: r)) (h1 : vSh i ρ = some (.lst (xs.map f))) (h2 : xs.length <= sizeLine) (h3 : zdZ fv ρ = [none]) :
  zaS (zaE (itF (vSh i)) (zaG 0) tT (b2 ixD (vSh 0) (vC (.int 0))) fv) ρ = some (.lst ((xs.map nm).map D.str)) := by
 have hc := zbj (fi := itF (vSh i)) (fe := b2 ixD (vSh 0) (vC (.int 0))) (fv := fv) (ρ := ρ) (r := []) (a := none) (xs := xs.map f) (f := fun d => match d with | .tup (x :: _) => x | _ => .non) (by unfold itF; rw [h1]; rfl) (by rw [qe]; exact h2) h3 (fun x hx => by
  obtain ⟨y, _, rfl⟩ := List.mem_map.mp hx
  obtain ⟨r, e⟩ := hf y
  simp only [b2, vSh, vC, qb, qa, e, zhk])
 rw [hc]
 congr 2
 rw [qm, qm]
 refine List.map_congr_left fun x _ => ?_
 obtain ⟨r, e⟩ := hf x
 simp [e]
theorem zk9 {bs : List BenchT} (l1 : 1 <= bs.length) (l8 : bs.length <= 8) (g : ∀ x ∈ bs, GoodB h x) (nd : (bs.map (·.nm)).Nodup) : zbn [.lst (bs.map zaZ), .int h] = some (.bl true) := by
 refine za1 [oS (.lst (bs.map zaZ)), oS (.int h)] rfl ((zdL ?_ (zcf (r := [oS (.int h)]) (a := none) (xs := bs.map zaZ) rfl (by rw [qe]; exact szN l8 (by decide)) rfl fun x hx => ?_)).trans (zaY ?_))
 ·exact zc6 _ 1 8 ⟨by rw [qe]; omega, by rw [qe]; omega⟩
 ·obtain ⟨p, hp, rfl⟩ := List.mem_map.mp hx
  exact zoj (g p hp)
 ·have := zcN (i := 0) (fv := [none]) (ρ := [oS (.lst (bs.map zaZ)), oS (.int h)]) (f := zaZ) (nm := (·.nm)) (xs := bs) (fun x => ⟨_, rfl⟩) rfl (szN l8 (by decide)) rfl
  simp only [cF, zaa, zai, this, qa, qd]
  exact zcg nd (by rw [qe]; omega)
theorem zqS {w : Str × Int} (hb : ∀ y ∈ bn, zaF y = true) (g : w.1 ∈ bn /\ 1 <= w.2 /\ w.2 <= h) : zcP [dW w, .lst (bn.map D.str), .int h] = some (.bl true) := by
 simp only [zcP, zij, dW, zbW, zbc, zec, cF, zaa, zai, vSh, vC, b2, zhk, zm8, ql, List.map_nil, List.cons_append, List.nil_append, List.replicate, qb, qc, qa, qd, zst, zdc g.1 hb, zbt w.2 1 h g.2]
theorem zoU {ws : List (Str × Int)} (hb : ∀ y ∈ bn, zaF y = true) (l1 : 1 <= ws.length) (l4 : ws.length <= 4) (g : ∀ w ∈ ws, w.1 ∈ bn /\ 1 <= w.2 /\ w.2 <= h) (nd : (ws.map (·.1)).Nodup) : zcl [.lst (ws.map dW), .lst (bn.map D.str), .int h] = some (.bl true) := by
 refine za1 [oS (.lst (ws.map dW)), oS (.lst (bn.map D.str)), oS (.int h)] rfl ((zdL ?_ (zcf (r := [oS (.lst (bn.map D.str)), oS (.int h)]) (a := none) (xs := ws.map dW) rfl (by rw [qe]; exact szN l4 (by decide)) rfl fun x hx => ?_)).trans (zaY ?_))
 ·exact zc6 _ 1 4 ⟨by rw [qe]; omega, by rw [qe]; omega⟩
 ·obtain ⟨p, hp, rfl⟩ := List.mem_map.mp hx
  exact zqS hb (g p hp)
 ·have := zcN (i := 0) (fv := [none]) (ρ := [oS (.lst (ws.map dW)), oS (.lst (bn.map D.str)), oS (.int h)]) (f := dW) (nm := (·.1)) (xs := ws) (fun x => ⟨_, rfl⟩) rfl (szN l4 (by decide)) rfl
  simp only [cF, zaa, zai, this, qa, qd]
  exact zcg nd (by rw [qe]; omega)
theorem zo1 {s : StepT} (hb : ∀ y ∈ bn, zaF y = true) (g : GoodS bn h s) : zcu [zaN s, .lst (bn.map D.str), .int h] = some (.bl true) := by
 simp only [zcu, zgG, zaN, zbW, zaA, sIf, zbc, zb8, orT, zb6, toB, cF, zaa, zai, vSh, vC, b2, zhk, zm8, zp6, ql, List.map_nil, List.cons_append, List.nil_append, List.replicate, qb, qc, qa, qd, if_false, Bool.not_true, qo, ztu, zdK g.nm, zdK g.kd, zoU hb g.l1 g.l4 g.ws g.nd]
theorem zne {ss : List StepT} (hb : ∀ y ∈ bn, zaF y = true) (l1 : 1 <= ss.length) (l4 : ss.length <= 40) (g : ∀ s ∈ ss, GoodS bn h s) (nd : (ss.map (·.nm)).Nodup) : zbR [.lst (ss.map zaN), .lst (bn.map D.str), .int h] = some (.bl true) := by
 refine za1 [oS (.lst (ss.map zaN)), oS (.lst (bn.map D.str)), oS (.int h)] rfl ((zdL ?_ (zcf (r := [oS (.lst (bn.map D.str)), oS (.int h)]) (a := none) (xs := ss.map zaN) rfl (by rw [qe]; exact szN l4 (by decide)) rfl fun x hx => ?_)).trans (zaY ?_))
 ·exact zc6 _ 1 40 ⟨by rw [qe]; omega, by rw [qe]; omega⟩
 ·obtain ⟨p, hp, rfl⟩ := List.mem_map.mp hx
  exact zo1 hb (g p hp)
 ·have := zcN (i := 0) (fv := [none]) (ρ := [oS (.lst (ss.map zaN)), oS (.lst (bn.map D.str)), oS (.int h)]) (f := zaN) (nm := (·.nm)) (xs := ss) (fun x => ⟨_, rfl⟩) rfl (szN l4 (by decide)) rfl
  simp only [cF, zaa, zai, this, qa, qd]
  exact zcg nd (by rw [qe]; omega)
end
end Law
end
section
namespace Law
open PySem L2
theorem zjy (a b : Str) : neA (.str a) (.str b) = some (.bl (!decide (a = b))) := rfl
theorem ztj {a b c d : D} : zha none (some 3) (.tup [a, b, c, d]) = some (.tup [a, b, c]) := rfl
theorem zsy {a b c : D} : zha none (some 2) (.tup [a, b, c]) = some (.tup [a, b]) := rfl
theorem zhV {α β : Type} {f : α -> List β} {m : Nat} : ∀ {l : List α}, (∀ x ∈ l, (f x).length <= m) -> (l.flatMap f).length <= l.length * m
 | [], _ => by simp
 | x :: r, h => by
  have h1 := h x qf
  have h2 := zhV (l := r) fun y hy => h y (qg _ hy)
  rw [List.flatMap_cons, qi, qh, Nat.succ_mul]
  omega
section
variable {h : Int} {bn sn : List Str}
theorem zrS {j : JobT} (hs : ∀ y ∈ sn, zaF y = true) (hl : sn.length <= 40) (g : GoodJ sn h j) : zc1 [zbK j, .lst (sn.map D.str), .int h] = some (.bl true) := by
 refine za1 [oS (zbK j), oS (.lst (sn.map D.str)), oS (.int h)] rfl ((zrZ ?_ ?_ ?_).trans ((zdL ?_ ?_).trans (zaY (zoR ?_ (zcf (r := [oS (.lst (sn.map D.str))]) (a := none) (xs := j.ms.map D.str) ?_ ?_ rfl fun x hx => ?_)))))
 ·exact ztt
 ·simp only [zbK, cF, zaa, zai, vSh, vC, b2, zhk, qb, qa, qd, zdK g.nm]
 ·simp only [zbK, cF, zaa, zai, vSh, vC, b2, zd7, tyD, zsx, qb, qa, qd, i5]
 ·simp only [zbK, cF, zaa, zai, vSh, vC, b2, zm8, qb, qc, qa, qd, zbt _ 0 h g.ea]
 ·simp only [zbK, cF, zaa, zai, vSh, vC, b2, zp6, qb, qc, qa, qd, zbt _ 0 h g.du]
 ·simp only [zbK, cF, zaa, zai, vSh, vC, b2, zcT, zm7, qb, qc, qa, qd]
  exact zc6 _ _ _ ⟨by rw [qe]; have := g.l1; omega, by rw [qe, qe]; have := g.ln; omega⟩
 ·simp only [zbK, vSh, vC, b2, itF, zgi, zm7, qb, qa]
 ·rw [qe]; exact szN (Nat.le_trans g.ln hl) (by decide)
 ·obtain ⟨m, hm, rfl⟩ := List.mem_map.mp hx
  simp only [cF, zaa, zai, vSh, qb, qc, qa, qd, zdc (g.ms m hm) hs]
theorem zkS {js : List JobT} {S H : Option Slot} (hl : js.length <= 40) (g : ∀ j ∈ js, j.ms.length <= 40) :
  ∃ z, zho (zaG 4) (zlc 3 (b2 ixD (vSh 4) (vC (.int 4)))) (js.map zbK) [oS (.lst (js.map zbK)), S, H, some (.own []), none] = some (.nx, [oS (.lst (js.map zbK)), S, H, some (.own ((js.flatMap (·.ms)).map D.str)), z]) := by
 obtain ⟨ρ', h1, z, h2⟩ := zch (gg := zaG 4) (body := zlc 3 (b2 ixD (vSh 4) (vC (.int 4)))) (xs := js.map zbK) (ρ := [oS (.lst (js.map zbK)), S, H, some (.own []), none])
  (fun i ρ => ∃ z, ρ = [oS (.lst (js.map zbK)), S, H, some (.own (((js.take i).flatMap (·.ms)).map D.str)), z]) ⟨none, by simp⟩ (fun i x ρ hx hI => by
   obtain ⟨z, rfl⟩ := hI
   rw [qj] at hx
   obtain ⟨j, hj, rfl⟩ := oMd hx
   have hm : j ∈ js := List.mem_of_getElem? hj
   have t1 : ((js.take i).flatMap (·.ms)).length <= (js.take i).length * 40 := zhV fun y hy => g y (List.mem_of_mem_take hy)
   have t2 : (js.take i).length <= 40 := by rw [List.length_take]; omega
   have t3 := g j hm
   have tk : js.take (i + 1) = js.take i ++ [j] := by rw [List.take_add_one, hj]; rfl
   have sz : (((js.take i).flatMap (·.ms)).map D.str).length + (j.ms.map D.str).length <= sizeLine := by
    rw [qe, qe]; unfold sizeLine; omega
   refine ⟨_, [oS (.lst (js.map zbK)), S, H, some (.own (((js.take (i + 1)).flatMap (·.ms)).map D.str)), oS (zbK j)], rfl, ?_, _, rfl⟩
   have e : b2 ixD (vSh 4) (vC (.int 4)) [oS (.lst (js.map zbK)), S, H, some (.own (((js.take i).flatMap (·.ms)).map D.str)), oS (zbK j)] = some (.lst (j.ms.map D.str)) := by
    simp only [zbK, vSh, vC, b2, zm7, qb, qc, qa]
   simp only [zlc, List.set_cons_zero, List.set_cons_succ, qb, qc, e, qa, if_pos sz, tk]
   simp)
 refine ⟨z, ?_⟩
 rw [h1, h2, qe, List.take_length]
theorem zp2 {js : List JobT} (hs : ∀ y ∈ sn, zaF y = true) (hl : sn.length <= 40) (l4 : js.length <= 40) (g : ∀ j ∈ js, GoodJ sn h j) (nd : (js.map (·.nm)).Nodup) (nm : (js.flatMap (·.ms)).Nodup) (ml : (js.flatMap (·.ms)).length <= 300) : zcm [.lst (js.map zbK), .lst (sn.map D.str), .int h] = some (.bl true) := by
 obtain ⟨z, hz⟩ := zkS (js := js) (S := oS (.lst (sn.map D.str))) (H := oS (.int h)) l4 fun j hj => Nat.le_trans (g j hj).ln hl
 refine za1 [oS (.lst (js.map zbK)), oS (.lst (sn.map D.str)), oS (.int h), none, none] (ρ' := [oS (.lst (js.map zbK)), oS (.lst (sn.map D.str)), oS (.int h), oS (.lst ((js.flatMap (·.ms)).map D.str)), z]) rfl ((zdL ?_ (zcf (r := [oS (.lst (sn.map D.str)), oS (.int h)]) (a := none) (xs := js.map zbK) rfl (by rw [qe]; exact szN l4 (by decide)) rfl fun x hx => ?_)).trans ?_)
 ·exact zc6 _ 0 40 ⟨by omega, by rw [qe]; omega⟩
 ·obtain ⟨p, hp, rfl⟩ := List.mem_map.mp hx
  simp only [cF, zaa, zai, vSh, qb, qc, qa, qd, zrS hs hl (g p hp)]
 ·have nn := zcN (i := 0) (fv := [none]) (ρ := [oS (.lst (js.map zbK)), oS (.lst (sn.map D.str)), oS (.int h), oS (.lst ((js.flatMap (·.ms)).map D.str)), z]) (f := zbK) (nm := (·.nm)) (xs := js) (fun x => ⟨_, rfl⟩) rfl (szN l4 (by decide)) rfl
  have u1 : cF zah (zaa (zaS (zaE (itF (vSh 0)) (zaG 0) tT (b2 ixD (vSh 0) (vC (.int 0))) [none])) zai) [oS (.lst (js.map zbK)), oS (.lst (sn.map D.str)), oS (.int h), oS (.lst ((js.flatMap (·.ms)).map D.str)), z] = some (.bl true) :=
   zaU (zaj nn zaB) (zcg nd (by rw [qe]; omega))
  have u2 : cF zah (zaa (vSh 3) zai) [oS (.lst (js.map zbK)), oS (.lst (sn.map D.str)), oS (.int h), oS (.lst ((js.flatMap (·.ms)).map D.str)), z] = some (.bl true) :=
   zaU (zaj rfl zaB) (zcg nm ml)
  have r := zaY (zoR u1 u2)
  have z0 : (0 <= sizeLine) = True := by simp
  simp only [zaA, zeH, szF, zai, qa, qd, qk, z0, if_true, List.set_cons_zero, List.set_cons_succ, zdo, itF, vSh, qb, zgi]
  rw [hz]
  simp only [qa, zgT, qb, qc, List.set_cons_zero, List.set_cons_succ]
  exact r
theorem znj {u : SetT} (hb : ∀ y ∈ bn, zaF y = true) (g : GoodU bn h u) : zb3 [zea u, .lst (bn.map D.str), .int h] = some (.bl true) := by
 simp only [zb3, zfn, zea, zbW, zaA, sIf, zbc, zb8, zec, orT, zb6, toB, cF, zaa, zai, vSh, vC, b2, zhk, zm8, zp6, zsx, ql, List.map_nil, List.cons_append, List.nil_append, List.replicate, qb, qc, qa, qd, if_false, Bool.not_true, qo, ztN, zdc g.b hb, zdK g.p, zdK g.q, zbt _ 1 h g.n]
theorem zlq {us : List SetT} (hb : ∀ y ∈ bn, zaF y = true) (l4 : us.length <= 100) (g : ∀ u ∈ us, GoodU bn h u) (nd : (us.map fun u => [u.b, u.p, u.q]).Nodup) : zbB [.lst (us.map zea), .lst (bn.map D.str), .int h] = some (.bl true) := by
 refine za1 [oS (.lst (us.map zea)), oS (.lst (bn.map D.str)), oS (.int h)] rfl ((zdL ?_ (zcf (r := [oS (.lst (bn.map D.str)), oS (.int h)]) (a := none) (xs := us.map zea) rfl (by rw [qe]; exact szN l4 (by decide)) rfl fun x hx => ?_)).trans (zaY (zaU (zaj (zbj (r := []) (a := none) (xs := us.map zea) (f := fun d => match d with | .tup [a, b, c, d] => .tup [a, b, c] | _ => .non) rfl (by rw [qe]; exact szN l4 (by decide)) rfl fun x hx => ?_) zaB) ?_)))
 ·exact zc6 _ 0 100 ⟨by omega, by rw [qe]; omega⟩
 ·obtain ⟨p, hp, rfl⟩ := List.mem_map.mp hx
  simp only [cF, zaa, zai, vSh, qb, qc, qa, qd, znj hb (g p hp)]
 ·obtain ⟨p, hp, rfl⟩ := List.mem_map.mp hx
  simp only [vSh, vC, slF, pN, pS, qb, qa, zea, ztj]
 ·have := zfU nd (by rw [qe]; omega)
  rw [qm] at this ⊢
  exact this
theorem zp1 {l : LinkT} (hs : ∀ y ∈ sn, zaF y = true) (g : GoodL sn h l) : zcv [za9 l, .lst (sn.map D.str), .int h] = some (.bl true) := by
 have := g.ne
 simp only [zcv, zgI, za9, zbW, zaA, sIf, zbc, zb8, zec, orT, zb6, toB, cF, zaa, zai, vSh, vC, b2, zhk, zm8, zp6, ql, List.map_nil, List.cons_append, List.nil_append, List.replicate, qb, qc, qa, qd, if_false, Bool.not_true, Bool.not_false, qo, ztu, zdc g.a hs, zdc g.b hs, zjy, decide_eq_false g.ne, zbt _ 0 h g.g]
theorem znP {ls : List LinkT} (hs : ∀ y ∈ sn, zaF y = true) (l4 : ls.length <= 100) (g : ∀ l ∈ ls, GoodL sn h l) (nd : (ls.map fun l => [l.a, l.b]).Nodup) : zbS [.lst (ls.map za9), .lst (sn.map D.str), .int h] = some (.bl true) := by
 refine za1 [oS (.lst (ls.map za9)), oS (.lst (sn.map D.str)), oS (.int h)] rfl ((zdL ?_ (zcf (r := [oS (.lst (sn.map D.str)), oS (.int h)]) (a := none) (xs := ls.map za9) rfl (by rw [qe]; exact szN l4 (by decide)) rfl fun x hx => ?_)).trans (zaY (zaU (zaj (zbj (r := []) (a := none) (xs := ls.map za9) (f := fun d => match d with | .tup [a, b, c] => .tup [a, b] | _ => .non) rfl (by rw [qe]; exact szN l4 (by decide)) rfl fun x hx => ?_) zaB) ?_)))
 ·exact zc6 _ 0 100 ⟨by omega, by rw [qe]; omega⟩
 ·obtain ⟨p, hp, rfl⟩ := List.mem_map.mp hx
  simp only [cF, zaa, zai, vSh, qb, qc, qa, qd, zp1 hs (g p hp)]
 ·obtain ⟨p, hp, rfl⟩ := List.mem_map.mp hx
  simp only [vSh, vC, slF, pN, pS, qb, qa, za9, zsy]
 ·have := zfU nd (by rw [qe]; omega)
  rw [qm] at this ⊢
  exact this
theorem zmY {w : Str × Int} (hs : ∀ y ∈ sn, zaF y = true) (g : w.1 ∈ sn /\ 1 <= w.2 /\ w.2 <= 1000000) : zbH [dW w, .lst (sn.map D.str)] = some (.bl true) := by
 simp only [zbH, zey, dW, zbW, zbc, zec, cF, zaa, zai, vSh, vC, b2, zhk, zm8, ql, List.map_nil, List.cons_append, List.nil_append, List.replicate, qb, qc, qa, qd, zst, zdc g.1 hs, zbt w.2 1 1000000 g.2]
theorem zhu {ws : List (Str × Int)} (hs : ∀ y ∈ sn, zaF y = true) (hl : sn.length <= 40) (g : GoodA sn ws) : zbd [.lst (ws.map dW), .lst (sn.map D.str)] = some (.bl true) := by
 have l4 : ws.length <= 40 := Nat.le_trans g.ln hl
 refine za1 [oS (.lst (ws.map dW)), oS (.lst (sn.map D.str))] rfl ((zdL ?_ (zcf (r := [oS (.lst (sn.map D.str))]) (a := none) (xs := ws.map dW) rfl (by rw [qe]; exact szN l4 (by decide)) rfl fun x hx => ?_)).trans (zaY ?_))
 ·have e := zc6 (ws.map dW) 0 ((sn.map D.str).length : Nat) ⟨by omega, by rw [qe, qe]; have := g.ln; omega⟩
  simp only [cF, zaa, zai, vSh, vC, zcT, qb, qc, qa, qd]
  exact e
 ·obtain ⟨p, hp, rfl⟩ := List.mem_map.mp hx
  simp only [cF, zaa, zai, vSh, qb, qc, qa, qd, zmY hs (g.ws p hp)]
 ·have := zcN (i := 0) (fv := [none]) (ρ := [oS (.lst (ws.map dW)), oS (.lst (sn.map D.str))]) (f := dW) (nm := (·.1)) (xs := ws) (fun x => ⟨_, rfl⟩) rfl (szN l4 (by decide)) rfl
  exact zaU (zaj this zaB) (zcg g.nd (by rw [qe]; omega))
theorem znd {k : StockT} (hs : ∀ y ∈ sn, zaF y = true) (hl : sn.length <= 40) (g : GoodK sn k) : zb2 [zb7 k, .lst (sn.map D.str)] = some (.bl true) := by
 simp only [zb2, zfm, zb7, zbW, zaA, sIf, zbc, zb8, zec, orT, zb6, toB, cF, zaa, zai, vSh, vC, b2, zhk, zm8, zp6, zsx, zm7, ql, List.map_nil, List.cons_append, List.nil_append, List.replicate, qb, qc, qa, qd, if_false, Bool.not_true, qo, ztt, zdK g.nm, zbt _ 0 1000000 g.hi, zbt _ 0 _ g.lo, zhu hs hl g.tk, zhu hs hl g.pt]
theorem zlm {ks : List StockT} (hs : ∀ y ∈ sn, zaF y = true) (hl : sn.length <= 40) (l4 : ks.length <= 6) (g : ∀ k ∈ ks, GoodK sn k) (nd : (ks.map (·.nm)).Nodup) : zbA [.lst (ks.map zb7), .lst (sn.map D.str)] = some (.bl true) := by
 refine za1 [oS (.lst (ks.map zb7)), oS (.lst (sn.map D.str))] rfl ((zdL ?_ (zcf (r := [oS (.lst (sn.map D.str))]) (a := none) (xs := ks.map zb7) rfl (by rw [qe]; exact szN l4 (by decide)) rfl fun x hx => ?_)).trans (zaY ?_))
 ·exact zc6 _ 0 6 ⟨by omega, by rw [qe]; omega⟩
 ·obtain ⟨p, hp, rfl⟩ := List.mem_map.mp hx
  simp only [cF, zaa, zai, vSh, qb, qc, qa, qd, znd hs hl (g p hp)]
 ·have := zcN (i := 0) (fv := [none]) (ρ := [oS (.lst (ks.map zb7)), oS (.lst (sn.map D.str))]) (f := zb7) (nm := (·.nm)) (xs := ks) (fun x => ⟨_, rfl⟩) rfl (szN l4 (by decide)) rfl
  exact zaU (zaj this zaB) (zcg nd (by rw [qe]; omega))
end
section
variable {bs : List BenchT} {ss : List StepT} {js : List JobT} {us : List SetT} {ls : List LinkT} {ks : List StockT} {h : Int}
theorem Good.bnn (g : Good bs ss js us ls ks h) : ∀ y ∈ bs.map (·.nm), zaF y = true := fun y hy => by
 obtain ⟨b, hb, rfl⟩ := List.mem_map.mp hy
 exact (g.b b hb).nm
theorem Good.snn (g : Good bs ss js us ls ks h) : ∀ y ∈ ss.map (·.nm), zaF y = true := fun y hy => by
 obtain ⟨b, hb, rfl⟩ := List.mem_map.mp hy
 exact (g.s b hb).nm
theorem zlI (g : Good bs ss js us ls ks h) (ml : (js.flatMap (·.ms)).length <= 300) : za0 [.lst (bs.map zaZ), .lst (ss.map zaN), .lst (js.map zbK), .lst (us.map zea), .lst (ls.map za9), .lst (ks.map zb7), .int h] = some .non := by
 have hb := g.bnn
 have hs := g.snn
 have hl : (ss.map (·.nm)).length <= 40 := by rw [qe]; exact g.sl.2
 have n1 : ∀ z : Option Slot, zaS (zaE (itF (vSh 0)) (zaG 0) tT (b2 ixD (vSh 0) (vC (.int 0))) [none]) [oS (.lst (bs.map zaZ)), oS (.lst (ss.map zaN)), oS (.lst (js.map zbK)), oS (.lst (us.map zea)), oS (.lst (ls.map za9)), oS (.lst (ks.map zb7)), oS (.int h), none, none] = some (.lst ((bs.map (·.nm)).map D.str)) := fun z =>
  zcN (f := zaZ) (nm := (·.nm)) (xs := bs) (fun x => ⟨_, rfl⟩) rfl (szN g.bl.2 (by decide)) rfl
 have n2 : zaS (zaE (itF (vSh 1)) (zaG 0) tT (b2 ixD (vSh 0) (vC (.int 0))) [none]) [oS (.lst (bs.map zaZ)), oS (.lst (ss.map zaN)), oS (.lst (js.map zbK)), oS (.lst (us.map zea)), oS (.lst (ls.map za9)), oS (.lst (ks.map zb7)), oS (.int h), oS (.lst ((bs.map (·.nm)).map D.str)), none] = some (.lst ((ss.map (·.nm)).map D.str)) :=
  zcN (f := zaN) (nm := (·.nm)) (xs := ss) (fun x => ⟨_, rfl⟩) rfl (szN g.sl.2 (by decide)) rfl
 refine za1 [oS (.lst (bs.map zaZ)), oS (.lst (ss.map zaN)), oS (.lst (js.map zbK)), oS (.lst (us.map zea)), oS (.lst (ls.map za9)), oS (.lst (ks.map zb7)), oS (.int h), none, none] rfl ((zgm ?_).trans ((zgm ?_).trans ((zaD (n1 none)).trans ((zgm ?_).trans ((zaD n2).trans ((zgm ?_).trans ((zgm ?_).trans ((zgm ?_).trans ((zgm ?_).trans (zaY rfl))))))))))
 ·exact zbt h 1 1000000 g.hh
 ·exact zk9 g.bl.1 g.bl.2 g.b g.bn
 ·exact zne hb g.sl.1 g.sl.2 g.s g.sn
 ·exact zp2 hs hl g.jl g.j g.jn g.jm ml
 ·exact zlq hb g.ul g.u g.un
 ·exact znP hs g.ll g.l g.ln
 ·exact zlm hs hl g.kl g.k g.kn
end
end Law
end
section
namespace Law
open PySem L2
def Pl : Nat -> D -> Prop
 | 0, _ => False
 | n + 1, .lst l => l.length <= sizeLine /\ ∀ x ∈ l, Pl n x
 | n + 1, .tup l => l.length <= sizeLine /\ ∀ x ∈ l, Pl n x
 | _ + 1, .non => True
 | _ + 1, .bl _ => True
 | _ + 1, .int _ => True
 | _ + 1, .str _ => True
 | _ + 1, _ => False
theorem zcJ {ft : FT} {X E : FS} {ρ : zaX} (h : ft ρ = some false) : zaA (sIf ft X zb8) E ρ = E ρ := by
 simp only [zaA, sIf, h, qa, qo, if_false, zb8]
theorem zjl {ft : FT} {A B E : FS} {ρ ρ' : zaX} {d : D} (h : ft ρ = some true) (h2 : A ρ = some (.rt d, ρ')) : zaA (sIf ft A B) E ρ = some (.rt d, ρ') := by
 simp only [zaA, sIf, h, qa, if_true, h2]
theorem zhU : ∀ (n : Nat) (d : D), Pl n d -> zda n [d] = some d
 | 0, _, h => h.elim
 | n + 1, .lst l, h => by
  refine za1 [oS (.lst l)] rfl (zjl (zaO (b := true) ?_) (zaY ?_))
  ·simp only [cF, zaa, zai, vSh, vC, zd7, tyD, qb, qa, qd, k1]
  ·have := zbj (fi := itF (vSh 0)) (fe := cF (zda n) (zaa (vSh 0) zai)) (fv := [none]) (ρ := [oS (.lst l)]) (r := []) (a := none) (xs := l) (f := fun x => x) rfl h.1 rfl (fun x hx => by simp only [cF, zaa, zai, vSh, qb, qa, qd, zhU n x (h.2 x hx)])
   rw [List.map_id'] at this
   exact this
 | n + 1, .tup l, h => by
  refine za1 [oS (.tup l)] rfl ((zcJ (zaO (b := false) ?_)).trans (zjl (zaO (b := true) ?_) (zaY (zaU (zaj (d := .lst l) ?_ zaB) rfl))))
  ·simp only [cF, zaa, zai, vSh, vC, zd7, tyD, qb, qa, qd, k2]
  ·simp only [cF, zaa, zai, vSh, vC, zd7, tyD, qb, qa, qd, k3]
  ·have := zbj (fi := itF (vSh 0)) (fe := cF (zda n) (zaa (vSh 0) zai)) (fv := [none]) (ρ := [oS (.tup l)]) (r := []) (a := none) (xs := l) (f := fun x => x) rfl h.1 rfl (fun x hx => by simp only [cF, zaa, zai, vSh, qb, qa, qd, zhU n x (h.2 x hx)])
   rw [List.map_id'] at this
   exact this
 | n + 1, .non, h => by
  show zdb (zda n) [.non] = some .non
  unfold zdb
  refine za1 [oS .non] rfl ((zcJ (zaO (b := false) ?_)).trans ((zcJ (zaO (b := false) ?_)).trans (zaY (f := vSh 0) rfl))) <;> simp only [cF, zaa, zai, vSh, vC, zd7, tyD, qb, qa, qd, k10, k11]
 | n + 1, .bl b, h => by
  show zdb (zda n) [.bl b] = some (.bl b)
  unfold zdb
  refine za1 [oS (.bl b)] rfl ((zcJ (zaO (b := false) ?_)).trans ((zcJ (zaO (b := false) ?_)).trans (zaY (f := vSh 0) rfl))) <;> simp only [cF, zaa, zai, vSh, vC, zd7, tyD, qb, qa, qd, k8, k9]
 | n + 1, .int b, h => by
  show zdb (zda n) [.int b] = some (.int b)
  unfold zdb
  refine za1 [oS (.int b)] rfl ((zcJ (zaO (b := false) ?_)).trans ((zcJ (zaO (b := false) ?_)).trans (zaY (f := vSh 0) rfl))) <;> simp only [cF, zaa, zai, vSh, vC, zd7, tyD, qb, qa, qd, k6, k7]
 | n + 1, .str b, h => by
  show zdb (zda n) [.str b] = some (.str b)
  unfold zdb
  refine za1 [oS (.str b)] rfl ((zcJ (zaO (b := false) ?_)).trans ((zcJ (zaO (b := false) ?_)).trans (zaY (f := vSh 0) rfl))) <;> simp only [cF, zaa, zai, vSh, vC, zd7, tyD, qb, qa, qd, k4, k4, k5]
theorem zfw {d : D} (h : Pl 8 d) : zaR [d] = some d := zhU 8 d h
theorem zdG {n : Nat} {α : Type} {f : α -> D} {xs : List α} (hl : xs.length <= 1000) (h : ∀ x ∈ xs, Pl n (f x)) : Pl (n + 1) (.lst (xs.map f)) :=
 ⟨by rw [qe]; exact szN hl (by decide), fun x hx => by
  obtain ⟨y, hy, rfl⟩ := List.mem_map.mp hx
  exact h y hy⟩
theorem zri {n : Nat} {xs : List Str} (hl : xs.length <= 1000) : Pl (n + 2) (.lst (xs.map D.str)) := zdG hl fun x _ => (trivial : Pl (n + 1) (.str x))
theorem zsR {n : Nat} {xs : List (Str × Int)} (hl : xs.length <= 1000) : Pl (n + 3) (.lst (xs.map dW)) := zdG hl fun x _ => ⟨by simp [sizeLine], by
 intro y hy
 simp only [List.mem_cons, List.not_mem_nil, or_false] at hy
 rcases hy with rfl | rfl <;> trivial⟩
theorem znv {n : Nat} {h : Int} {b : BenchT} (g : GoodB h b) : Pl (n + 4) (zaZ b) := ⟨by simp [sizeLine], by
 intro y hy
 simp only [List.mem_cons, List.not_mem_nil, or_false] at hy
 rcases hy with rfl | rfl
 ·trivial
 ·exact zdG (by have := g.len; omega) fun x _ => ⟨by simp [sizeLine], by
   intro y hy
   simp only [List.mem_cons, List.not_mem_nil, or_false] at hy
   rcases hy with rfl | rfl <;> trivial⟩⟩
theorem zps {n : Nat} {bn : List Str} {h : Int} {s : StepT} (g : GoodS bn h s) : Pl (n + 4) (zaN s) := ⟨by simp [sizeLine], by
 intro y hy
 simp only [List.mem_cons, List.not_mem_nil, or_false] at hy
 rcases hy with rfl | rfl | rfl
 ·trivial
 ·trivial
 ·exact zsR (by have := g.l4; omega)⟩
theorem zox {n : Nat} {sn : List Str} {h : Int} {j : JobT} (hl : sn.length <= 40) (g : GoodJ sn h j) : Pl (n + 3) (zbK j) := ⟨by simp [sizeLine], by
 intro y hy
 simp only [List.mem_cons, List.not_mem_nil, or_false] at hy
 rcases hy with rfl | rfl | rfl | rfl | rfl
 ·trivial
 ·trivial
 ·trivial
 ·trivial
 ·exact zri (by have := g.ln; omega)⟩
theorem zrj {n : Nat} {u : SetT} : Pl (n + 2) (zea u) := ⟨by simp [sizeLine], by
 intro y hy
 simp only [List.mem_cons, List.not_mem_nil, or_false] at hy
 rcases hy with rfl | rfl | rfl | rfl <;> trivial⟩
theorem zlB {n : Nat} {u : LinkT} : Pl (n + 2) (za9 u) := ⟨by simp [sizeLine], by
 intro y hy
 simp only [List.mem_cons, List.not_mem_nil, or_false] at hy
 rcases hy with rfl | rfl | rfl <;> trivial⟩
theorem znu {n : Nat} {sn : List Str} {k : StockT} (hl : sn.length <= 40) (g : GoodK sn k) : Pl (n + 4) (zb7 k) := ⟨by simp [sizeLine], by
 intro y hy
 simp only [List.mem_cons, List.not_mem_nil, or_false] at hy
 rcases hy with rfl | rfl | rfl | rfl | rfl
 ·trivial
 ·trivial
 ·trivial
 ·exact zsR (by have := g.tk.ln; omega)
 ·exact zsR (by have := g.pt.ln; omega)⟩
theorem zhf {α : Type} {nm : α -> Str} {f : α -> D} : ∀ (xs : List α), zhg (xs.map fun x => .tup [.str (nm x), f x]) = some (xs.map fun x => (.inr (nm x), f x))
 | [] => rfl
 | x :: r => by simp only [ql, zhg, zmv, qa, zhf r, qd]
theorem zhe {α : Type} {t : α -> List Str} {f : α -> D} : ∀ (xs : List α), zf6 (xs.map fun x => .tup [.tup ((t x).map D.str), f x]) = some (xs.map fun x => ((t x).map Sum.inr, f x))
 | [] => rfl
 | x :: r => by simp only [ql, zf6, zdX, qa, zhe r, qd]
theorem zhi {κ : Type} [DecidableEq κ] {ps : List (κ × D)} (h : (ps.map (·.1)).Nodup) : zsw ps = ps := by
 have key : ∀ (l a : List (κ × D)), ((a ++ l).map (·.1)).Nodup -> l.foldl (fun acc kv => zhJ acc kv.1 kv.2) a = a ++ l := by
  intro l
  induction l with
  | nil => intro a _; simp
  | cons x r ih =>
   intro a hn
   have hx : (a.any fun kv => decide (kv.1 = x.1)) = false := by
    rw [List.any_eq_false]
    intro y hy z
    rw [List.map_append, List.nodup_append] at hn
    exact hn.2.2 y.1 (List.mem_map_of_mem hy) x.1 (by simp) (of_decide_eq_true z)
   rw [List.foldl_cons]
   have e : zhJ a x.1 x.2 = a ++ [x] := by
    unfold zhJ
    rw [hx]
    rfl
   rw [e, ih (a ++ [x]) (by simpa using hn)]
   simp
 simpa [zsw] using key ps [] (by simpa using h)
theorem zfS {β : Type} : ∀ {fs : List (Str × β)} {i : Nat} {k : Str} {d : β}, (fs.map (·.1)).Nodup -> fs[i]? = some (k, d) -> fs.lookup k = some d
 | [], i, k, d, _, h => by simp at h
 | (a, b) :: r, 0, k, d, _, h => by
  simp only [qb, Option.some.injEq, Prod.mk.injEq] at h
  obtain ⟨rfl, rfl⟩ := h
  simp [List.lookup]
 | (a, b) :: r, i + 1, k, d, nd, h => by
  rw [qc] at h
  rw [ql, List.nodup_cons] at nd
  have ne : k ≠ a := by
   intro z
   subst z
   exact nd.1 (List.mem_map_of_mem (f := (·.1)) (List.mem_of_getElem? h))
  have hb : (k == a) = false := by simpa using ne
  simp only [List.lookup, hb]
  exact zfS nd.2 h
theorem zgc {β : Type} : ∀ {fs : List (Str × β)} {k : Str}, k ∉ fs.map (·.1) -> fs.lookup k = none
 | [], _, _ => rfl
 | (a, b) :: r, k, h => by
  rw [ql, List.mem_cons, not_or] at h
  have hb : (k == a) = false := by simpa using h.1
  simp only [List.lookup, hb]
  exact zgc h.2
end Law
end
section
namespace Law
open PySem L2
def zm6 (j : JobT) (acc : List (Key × D)) (m : Str) : List (Key × D) := zhJ acc (.inr m) (zbK j)
def jkv (js : List JobT) : List (Key × D) := js.foldl (fun acc j => j.ms.foldl (zm6 j) acc) []
theorem zfR {κ : Type} [DecidableEq κ] (kvs : List (κ × D)) (k : κ) (v : D) : (zhJ kvs k v).length <= kvs.length + 1 := by
 unfold zhJ
 split
 ·rw [qe]; omega
 ·rw [qi]; simp
theorem zgl (j : JobT) : ∀ (ms : List Str) (acc : List (Key × D)), (ms.foldl (zm6 j) acc).length <= acc.length + ms.length
 | [], acc => by simp
 | m :: r, acc => by
  rw [List.foldl_cons]
  have h1 := zgl j r (zm6 j acc m)
  have h2 : (zm6 j acc m).length <= acc.length + 1 := zfR _ _ _
  rw [qh]; omega
theorem zmb {m : Nat} : ∀ {js : List JobT} (acc : List (Key × D)), (∀ j ∈ js, j.ms.length <= m) -> (js.foldl (fun acc j => j.ms.foldl (zm6 j) acc) acc).length <= acc.length + js.length * m
 | [], acc, _ => by simp
 | j :: r, acc, h => by
  rw [List.foldl_cons]
  have h1 := zmb (js := r) (j.ms.foldl (zm6 j) acc) fun y hy => h y (qg _ hy)
  have h2 := zgl j j.ms acc
  have h3 := h j qf
  rw [qh, Nat.succ_mul]; omega
def zml (bs : List BenchT) (ss : List StepT) (js : List JobT) (us : List SetT) (ls : List LinkT) (ks : List StockT) (h : Int) : List (Str × D) :=
 [("benches", .lst (bs.map zaZ)), ("steps", .lst (ss.map zaN)), ("jobs", .lst (js.map zbK)), ("setups", .lst (us.map zea)), ("links", .lst (ls.map za9)), ("stocks", .lst (ks.map zb7)), ("horizon", .int h),
 ("bench_by_name", .dk (bs.map fun b => (.inr b.nm, zaZ b))), ("step_by_name", .dk (ss.map fun s => (.inr s.nm, zaN s))), ("setup_by_names", .dt (us.map fun u => ([u.b, u.p, u.q].map Sum.inr, .int u.n)))]
def zqN (bs : List BenchT) (ss : List StepT) (js : List JobT) (us : List SetT) (ls : List LinkT) (ks : List StockT) (h : Int) : List (Str × D) := zml bs ss js us ls ks h ++ [(("job_by_step" : Str), D.dk (jkv js))]
def zcC (bs : List BenchT) (ss : List StepT) (js : List JobT) (us : List SetT) (ls : List LinkT) (ks : List StockT) (h : Int) : D := .ins "Shop" (zqN bs ss js us ls ks h)
def zfv : List Str := ["benches", "steps", "jobs", "setups", "links", "stocks", "horizon", "bench_by_name", "step_by_name", "setup_by_names", "job_by_step"]
theorem zhQ : zfv.Nodup := by decide +kernel
theorem zlO {α : Type} {l : List α} (h : l.Nodup) (n : Nat) : (l.take n).Nodup := List.Sublist.nodup (List.take_sublist n l) h
section
variable {fs : List (Str × D)} {f : Str} {fv : FE} {r : zaX} {g : FS} {d : D}
theorem zc5 (n : Nat) (hk : zfv[n]? = some f) (hf : fs.map (·.1) = zfv.take n) (h : fv (some (.obj "Shop" fs) :: r) = some d) : zaA (zeI "Shop" f 0 fv) g (some (.obj "Shop" fs) :: r) = g (some (.obj "Shop" (fs ++ [(f, d)])) :: r) := by
 have hno : fs.lookup f = none := zgc (by
  rw [hf]
  intro z
  obtain ⟨i, hi⟩ := List.getElem?_of_mem z
  have hin : i < n := by
   rcases Nat.lt_or_ge i n with q | q
   ·exact q
   ·rw [List.getElem?_eq_none (by rw [List.length_take]; omega)] at hi; cases hi
  rw [List.getElem?_take_of_lt hin] at hi
  have := (List.getElem?_inj (List.getElem?_eq_some_iff.mp hi).1 zhQ).mp (hi.trans hk.symm)
  omega)
 have hlen : fs.length < 100 := by
  have := congrArg List.length hf
  rw [qe, List.length_take] at this
  have k : zfv.length = 11 := rfl
  omega
 simp only [zaA, zeI, h, qa, qb, hno, hlen, and_self, if_true, List.set_cons_zero]
theorem zhN (n i : Nat) (hf : fs.map (·.1) = zfv.take n) (h : fs[i]? = some (f, d)) : zgV "Shop" f 0 (some (.obj "Shop" fs) :: r) = some d := by
 have e : fs.lookup f = some d := zfS (by rw [hf]; exact zlO zhQ n) h
 show (if some ("Shop" : Str) = some ("Shop" : Str) then fs.lookup f else none) = some d
 rw [if_pos rfl, e]
end
theorem zmw {α : Type} {f : α -> D} {nm : α -> Str} {xs : List α} {fo : FE} {ρ : zaX} (hf : ∀ x, ∃ r, f x = .tup (.str (nm x) :: r)) (h1 : fo ρ = some (.lst (xs.map f))) (h2 : xs.length <= 1000) (nd : (xs.map nm).Nodup) :
  cF ziZ (zaa (zaS (zaE (itF fo) (zaG 0) tT (zbu (szF (zaa (b2 ixD (vSh 0) (vC (.int 0))) (zaa (vSh 0) zai)))) [none])) zai) ρ = some (.dk (xs.map fun x => (.inr (nm x), f x))) := by
 have hc := zbj (fi := itF fo) (fe := zbu (szF (zaa (b2 ixD (vSh 0) (vC (.int 0))) (zaa (vSh 0) zai)))) (fv := [none]) (ρ := ρ) (r := []) (a := none) (xs := xs.map f) (f := fun d => .tup [match d with | .tup (x :: _) => x | _ => .non, d]) (by unfold itF; rw [h1]; rfl) (by rw [qe]; exact szN h2 (by decide)) rfl (fun x hx => by
  obtain ⟨y, _, rfl⟩ := List.mem_map.mp hx
  obtain ⟨r, e⟩ := hf y
  simp only [zaa, zai, vSh, vC, b2, zbu, szF, zhk, qb, qa, qd, if_true, qh, qk, Nat.zero_add, sz2, e])
 have e : (xs.map f).map (fun d => D.tup [match d with | .tup (x :: _) => x | _ => .non, d]) = xs.map fun x => .tup [.str (nm x), f x] := by
  rw [qm]
  refine List.map_congr_left fun x _ => ?_
  obtain ⟨r, e⟩ := hf x
  simp [e]
 rw [e] at hc
 have kn : ((xs.map fun x => ((.inr (nm x) : Key), f x)).map (·.1)).Nodup := by
  rw [qm]
  have := List.Pairwise.map (S := fun a b : Key => a ≠ b) (Sum.inr : Str -> Key) (fun a b hab z => hab (Sum.inr.inj z)) nd
  rw [qm] at this
  exact this
 refine zaU (zaj hc zaB) ?_
 show (if _ then _ else _) = _
 rw [if_pos (by rw [qe]; exact h2), zhf, qd, zhi kn]
theorem zoa {us : List SetT} {fo : FE} {ρ : zaX} (h1 : fo ρ = some (.lst (us.map zea))) (h2 : us.length <= 1000) (nd : (us.map fun u => [u.b, u.p, u.q]).Nodup) :
  cF zkv (zaa (zaS (zaE (itF fo) (zaG 0) tT (zbu (szF (zaa (slF (vSh 0) pN (pS (vC (.int 3)))) (zaa (b2 ixD (vSh 0) (vC (.int 3))) zai)))) [none])) zai) ρ = some (.dt (us.map fun u => ([u.b, u.p, u.q].map Sum.inr, .int u.n))) := by
 have hc := zbj (fi := itF fo) (fe := zbu (szF (zaa (slF (vSh 0) pN (pS (vC (.int 3)))) (zaa (b2 ixD (vSh 0) (vC (.int 3))) zai)))) (fv := [none]) (ρ := ρ) (r := []) (a := none) (xs := us.map zea) (f := fun d => match d with | .tup [a, b, c, d] => .tup [.tup [a, b, c], d] | _ => .non) (by unfold itF; rw [h1]; rfl) (by rw [qe]; exact szN h2 (by decide)) rfl (fun x hx => by
  obtain ⟨y, _, rfl⟩ := List.mem_map.mp hx
  simp only [zaa, zai, vSh, vC, b2, zbu, szF, slF, pN, pS, zsx, qb, qa, qd, if_true, qh, qk, Nat.zero_add, sz2, zea, ztj])
 rw [qm] at hc
 have kn : ((us.map fun u => ([u.b, u.p, u.q].map (Sum.inr : Str -> Key), D.int u.n)).map (·.1)).Nodup := by
  rw [qm]
  have inj : ∀ a b : List Str, a.map (Sum.inr : Str -> Key) = b.map Sum.inr -> a = b := fun a b z => (List.map_inj_right (fun x y q => Sum.inr.inj q)).mp z
  have := List.Pairwise.map (S := fun a b : List Key => a ≠ b) (List.map (Sum.inr : Str -> Key)) (fun a b hab z => hab (inj a b z)) nd
  rw [qm] at this
  exact this
 refine zaU (zaj hc zaB) ?_
 show (if _ then _ else _) = _
 have e := zhe (t := fun u : SetT => [u.b, u.p, u.q]) (f := fun u => .int u.n) us
 rw [if_pos (by rw [qe]; exact h2)]
 have e2 : zf6 (us.map ((fun d => match d with | .tup [a, b, c, d] => D.tup [.tup [a, b, c], d] | _ => .non) ∘ zea)) = some (us.map fun u => ([u.b, u.p, u.q].map Sum.inr, .int u.n)) := e
 rw [e2, qd, zhi kn]
section
variable {bs : List BenchT} {ss : List StepT} {js : List JobT} {us : List SetT} {ls : List LinkT} {ks : List StockT} {h : Int}
theorem zgn : (zml bs ss js us ls ks h).map (·.1) = zfv.take 10 := rfl
theorem ziW : (zqN bs ss js us ls ks h).map (·.1) = zfv := rfl
abbrev r9 (bs : List BenchT) (ss : List StepT) (js : List JobT) (us : List SetT) (ls : List LinkT) (ks : List StockT) (h : Int) (a b : Option Slot) : zaX := [oS (.lst (bs.map zaZ)), oS (.lst (ss.map zaN)), oS (.lst (js.map zbK)), oS (.lst (us.map zea)), oS (.lst (ls.map za9)), oS (.lst (ks.map zb7)), oS (.int h), oS .non, a, b]
abbrev ob (bs : List BenchT) (ss : List StepT) (js : List JobT) (us : List SetT) (ls : List LinkT) (ks : List StockT) (h : Int) (kvs : List (Key × D)) : Option Slot := some (.objd "Shop" (zml bs ss js us ls ks h) "job_by_step" kvs)
theorem zrb {j : JobT} {m : Str} {kvs : List (Key × D)} (hl : kvs.length < 100000) : zc4 "Shop" "job_by_step" 0 (vSh 10) (vSh 9) (ob bs ss js us ls ks h kvs :: r9 bs ss js us ls ks h (oS (zbK j)) (oS (.str m))) = some (.nx, ob bs ss js us ls ks h (zm6 j kvs m) :: r9 bs ss js us ls ks h (oS (zbK j)) (oS (.str m))) := by
 have hno : (zml bs ss js us ls ks h).lookup ("job_by_step" : Str) = none := zgc (by rw [zgn]; decide +kernel)
 simp only [zc4, vSh, qb, qc, qa, zmv, hno, hl, and_self, if_true, List.set_cons_zero, zm6]
theorem znU {j : JobT} {acc : List (Key × D)} {z : Option Slot} (hl : acc.length + j.ms.length < 100000) : ∃ z', zdo (itF (b2 ixD (vSh 9) (vC (.int 4)))) (zaG 10) (zc4 "Shop" "job_by_step" 0 (vSh 10) (vSh 9)) (ob bs ss js us ls ks h acc :: r9 bs ss js us ls ks h (oS (zbK j)) z) = some (.nx, ob bs ss js us ls ks h (j.ms.foldl (zm6 j) acc) :: r9 bs ss js us ls ks h (oS (zbK j)) z') := by
 obtain ⟨ρ', h1, z', h2⟩ := zch (gg := zaG 10) (body := zc4 "Shop" "job_by_step" 0 (vSh 10) (vSh 9)) (xs := j.ms.map D.str) (ρ := ob bs ss js us ls ks h acc :: r9 bs ss js us ls ks h (oS (zbK j)) z)
  (fun i ρ => ∃ z, ρ = ob bs ss js us ls ks h ((j.ms.take i).foldl (zm6 j) acc) :: r9 bs ss js us ls ks h (oS (zbK j)) z) ⟨z, by simp⟩ (fun i x ρ hx hI => by
   obtain ⟨z, rfl⟩ := hI
   rw [qj] at hx
   obtain ⟨m, hm, rfl⟩ := oMd hx
   have tk : j.ms.take (i + 1) = j.ms.take i ++ [m] := by rw [List.take_add_one, hm]; rfl
   have hlen := zgl j (j.ms.take i) acc
   rw [List.length_take] at hlen
   refine ⟨_, _, rfl, zrb (by omega), oS (.str m), ?_⟩
   rw [tk, List.foldl_append]; rfl)
 refine ⟨z', ?_⟩
 have e : itF (b2 ixD (vSh 9) (vC (.int 4))) (ob bs ss js us ls ks h acc :: r9 bs ss js us ls ks h (oS (zbK j)) z) = some (j.ms.map D.str) := by
  simp only [vSh, vC, b2, itF, zgi, zm7, qb, qc, qa, zbK]
 unfold zdo
 rw [e, qa, h1, h2, qe, List.take_length]
theorem znE (hj : js.length <= 40) (hm : ∀ j ∈ js, j.ms.length <= 40) : ∃ z z', zho (zaG 9) (zdo (itF (b2 ixD (vSh 9) (vC (.int 4)))) (zaG 10) (zc4 "Shop" "job_by_step" 0 (vSh 10) (vSh 9))) (js.map zbK) (ob bs ss js us ls ks h [] :: r9 bs ss js us ls ks h none none) = some (.nx, ob bs ss js us ls ks h (jkv js) :: r9 bs ss js us ls ks h z z') := by
 obtain ⟨ρ', h1, z, z', h2⟩ := zch (gg := zaG 9) (body := zdo (itF (b2 ixD (vSh 9) (vC (.int 4)))) (zaG 10) (zc4 "Shop" "job_by_step" 0 (vSh 10) (vSh 9))) (xs := js.map zbK) (ρ := ob bs ss js us ls ks h [] :: r9 bs ss js us ls ks h none none)
  (fun i ρ => ∃ z z', ρ = ob bs ss js us ls ks h (jkv (js.take i)) :: r9 bs ss js us ls ks h z z') ⟨none, none, by simp [jkv]⟩ (fun i x ρ hx hI => by
   obtain ⟨z, z', rfl⟩ := hI
   rw [qj] at hx
   obtain ⟨j, hjm, rfl⟩ := oMd hx
   have tk : js.take (i + 1) = js.take i ++ [j] := by rw [List.take_add_one, hjm]; rfl
   have hlen := zmb (m := 40) (js := js.take i) [] fun y hy => hm y (List.mem_of_mem_take hy)
   rw [List.length_take, qk] at hlen
   have h4 := hm j (List.mem_of_getElem? hjm)
   obtain ⟨w, hw⟩ := znU (bs := bs) (ss := ss) (js := js) (us := us) (ls := ls) (ks := ks) (h := h) (j := j) (acc := jkv (js.take i)) (z := z') (by unfold jkv; omega)
   refine ⟨_, _, rfl, hw, oS (zbK j), w, ?_⟩
   rw [tk]
   unfold jkv
   rw [List.foldl_append]; rfl)
 refine ⟨z, z', ?_⟩
 rw [h1, h2, qe, List.take_length]
theorem zp7 (g : Good bs ss js us ls ks h) (ml : (js.flatMap (·.ms)).length <= 300) : za8 [.lst (bs.map zaZ), .lst (ss.map zaN), .lst (js.map zbK), .lst (us.map zea), .lst (ls.map za9), .lst (ks.map zb7), .int h] = some (zcC bs ss js us ls ks h) := by
 have hl : (ss.map (·.nm)).length <= 40 := by rw [qe]; exact g.sl.2
 have f1 := zfw (d := .lst (bs.map zaZ)) (zdG (by have := g.bl.2; omega) fun x hx => znv (g.b x hx))
 have f2 := zfw (d := .lst (ss.map zaN)) (zdG (by have := g.sl.2; omega) fun x hx => zps (g.s x hx))
 have f3 := zfw (d := .lst (js.map zbK)) (zdG (by have := g.jl; omega) fun x hx => zox hl (g.j x hx))
 have f4 := zfw (d := .lst (us.map zea)) (zdG (by have := g.ul; omega) fun x hx => zrj)
 have f5 := zfw (d := .lst (ls.map za9)) (zdG (by have := g.ll; omega) fun x hx => zlB)
 have f6 := zfw (d := .lst (ks.map zb7)) (zdG (by have := g.kl; omega) fun x hx => znu hl (g.k x hx))
 obtain ⟨z, z', ho⟩ := znE (bs := bs) (ss := ss) (us := us) (ls := ls) (ks := ks) (h := h) g.jl fun j hj => Nat.le_trans (g.j j hj).ln hl
 have key : ∀ (G : FS) (ρ' : zaX), G (some (.obj "Shop" []) :: [oS (.lst (bs.map zaZ)), oS (.lst (ss.map zaN)), oS (.lst (js.map zbK)), oS (.lst (us.map zea)), oS (.lst (ls.map za9)), oS (.lst (ks.map zb7)), oS (.int h), none, none, none]) = some (.nx, ob bs ss js us ls ks h (jkv js) :: ρ') ->
   zqI 3 "Shop" G [.lst (bs.map zaZ), .lst (ss.map zaN), .lst (js.map zbK), .lst (us.map zea), .lst (ls.map za9), .lst (ks.map zb7), .int h] = some (zcC bs ss js us ls ks h) := fun G ρ' e => by
  unfold zqI
  show (G (some (.obj "Shop" []) :: [oS (.lst (bs.map zaZ)), oS (.lst (ss.map zaN)), oS (.lst (js.map zbK)), oS (.lst (us.map zea)), oS (.lst (ls.map za9)), oS (.lst (ks.map zb7)), oS (.int h), none, none, none])).bind _ = _
  rw [e]
  rfl
 refine key _ (r9 bs ss js us ls ks h z z') ((zaD (zaU rfl (zlI g ml))).trans ?_)
 show zaA _ _ (some (.obj "Shop" []) :: r9 bs ss js us ls ks h none none) = _
 refine (zcJ (zaO (b := false) rfl)).trans ?_
 refine (zc5 0 rfl rfl (zaU rfl f1)).trans ?_
 refine (zc5 1 rfl rfl (zaU rfl f2)).trans ?_
 refine (zc5 2 rfl rfl (zaU rfl f3)).trans ?_
 refine (zc5 3 rfl rfl (zaU rfl f4)).trans ?_
 refine (zc5 4 rfl rfl (zaU rfl f5)).trans ?_
 refine (zc5 5 rfl rfl (zaU rfl f6)).trans ?_
 refine (zc5 6 rfl rfl (d := .int h) rfl).trans ?_
 refine (zc5 7 rfl rfl (zmw (f := zaZ) (nm := (·.nm)) (xs := bs) (fun x => ⟨_, rfl⟩) (zhN 7 0 rfl rfl) (by have := g.bl.2; omega) g.bn)).trans ?_
 refine (zc5 8 rfl rfl (zmw (f := zaN) (nm := (·.nm)) (xs := ss) (fun x => ⟨_, rfl⟩) (zhN 8 1 rfl rfl) (by have := g.sl.2; omega) g.sn)).trans ?_
 refine (zc5 9 rfl rfl (zoa (us := us) (zhN 9 3 rfl rfl) (by have := g.ul; omega) g.un)).trans ?_
 have hno : (zml bs ss js us ls ks h).lookup ("job_by_step" : Str) = none := zgc (by rw [zgn]; decide +kernel)
 have hle : (zml bs ss js us ls ks h).length < 100 := by simp [zml]
 have e1 : zqG "Shop" "job_by_step" 0 (some (.obj "Shop" (zml bs ss js us ls ks h)) :: r9 bs ss js us ls ks h none none) = some (.nx, ob bs ss js us ls ks h [] :: r9 bs ss js us ls ks h none none) := by
  simp only [zqG, qb, hno, hle, and_self, if_true, List.set_cons_zero]
 have e2 : itF (zgV "Shop" "jobs" 0) (ob bs ss js us ls ks h [] :: r9 bs ss js us ls ks h none none) = some (js.map zbK) := by
  have lk : (zml bs ss js us ls ks h).lookup ("jobs" : Str) = some (.lst (js.map zbK)) := zfS (i := 2) (by rw [zgn]; exact zlO zhQ 10) rfl
  have n1 : ("jobs" : Str) ≠ "job_by_step" := by decide +kernel
  have e : zgV "Shop" "jobs" 0 (ob bs ss js us ls ks h [] :: r9 bs ss js us ls ks h none none) = some (.lst (js.map zbK)) := by
   show (if some ("Shop" : Str) = some ("Shop" : Str) then (if ("jobs" : Str) = "job_by_step" then none else (zml bs ss js us ls ks h).lookup ("jobs" : Str)) else none) = _
   rw [if_pos rfl, if_neg n1, lk]
  unfold itF
  rw [e]; rfl
 show zaA (zqG "Shop" "job_by_step" 0) (zdo (itF (zgV "Shop" "jobs" 0)) (zaG 9) (zdo (itF (b2 ixD (vSh 9) (vC (.int 4)))) (zaG 10) (zc4 "Shop" "job_by_step" 0 (vSh 10) (vSh 9)))) (some (.obj "Shop" (zml bs ss js us ls ks h)) :: r9 bs ss js us ls ks h none none) = _
 unfold zaA
 rw [e1, qa]
 show zdo _ _ _ _ = _
 unfold zdo
 rw [e2, qa]
 exact ho
end
end Law
end
section
namespace Law
open PySem L2
theorem zfb {ft : FT} {g g' : FS} {ρ : zaX} {b : Bool} (h : ft ρ = some b) : sIf ft g g' ρ = if b = true then g ρ else g' ρ := by unfold sIf; rw [h]; rfl
theorem zcb {g g' : FS} {ρ ρ1 : zaX} (h : g ρ = some (.nx, ρ1)) : zaA g g' ρ = g' ρ1 := by unfold zaA; rw [h]; rfl
theorem zj9 {i : Nat} {f : FE} {ρ : zaX} {d : D} (h : f ρ = some d) : zbg i f ρ = some (.nx, ρ.set i (oS d)) := by unfold zbg; rw [h]; rfl
theorem zht {i : Nat} {f : FE} {ρ : zaX} {ds : List D} {d : D} (h1 : ρ[i]? = some (some (.own ds))) (h2 : f ρ = some d) (h3 : ds.length < sizeLine) : zdp i f ρ = some (.nx, ρ.set i (some (.own (ds ++ [d])))) := by
 unfold zdp
 rw [h1]
 show (f ρ).bind _ = _
 rw [h2, qa, if_pos h3]
theorem zdI {i : Nat} {g : FS} {ρ : zaX} : zaA (zeH i (szF zai)) g ρ = g (ρ.set i (some (.own []))) := by
 have z0 : (0 <= sizeLine) = True := by simp
 simp only [zaA, zeH, szF, zai, qa, qd, qk, z0, if_true]
theorem zdt {i : Nat} {g : FS} {ρ : zaX} {ds : List D} (h1 : ρ[i]? = some (some (.own ds))) : zgT i g ρ = g (ρ.set i (oS (.lst ds))) := by unfold zgT; rw [h1]
theorem zcx {fi : FA} {gg : FG} {body : FS} {ρ : zaX} {xs : List D} (h : fi ρ = some xs) : zdo fi gg body ρ = zho gg body xs ρ := by unfold zdo; rw [h]; rfl
theorem zcq {a b : Int} (h : 0 < b) : zcn (.int a) (.int b) = some (.int (a % b)) := if_pos h
theorem zhW {a b : Int} (h : 0 < b /\ b < 1073741824) : zet (.int a) (.int b) = some (.int (a / b)) := if_pos h
theorem ztn : (2 : Int) ^ 64 = 18446744073709551616 := by decide +kernel
theorem zhh {a b : Int} (h : (-1000000000000 < a /\ a < 1000000000000) \/ (-1000000000000 < b /\ b < 1000000000000)) : zd6 (.int a) (.int b) = some (.int (a * b)) := by
 show (if _ then _ else _) = _
 rw [ztn]
 exact if_pos (by omega)
theorem zeu (ns : List Int) (k : Nat) : zay [.scr ns, .int (k : Int)] = some (.int (ns.getD k 0)) := by
 have e : toB (b2 ltD (vSh 1) (cF zcT (zaa (vSh 0) zai))) [oS (.scr ns), oS (.int k)] = some (decide (k < ns.length)) := by
  simp only [toB, cF, zaa, zai, vSh, b2, zcT, ltD, qb, qc, qa, qd]
  congr 1
  exact decide_eq_decide.mpr (by omega)
 by_cases h : k < ns.length
 ·refine za1 [oS (.scr ns), oS (.int k)] rfl (zjl (e.trans (by rw [decide_eq_true h])) (zaY ?_))
  show (atI ns (k : Int)).map D.int = _
  rw [zdN]
  simp [List.getD, h]
 ·refine za1 [oS (.scr ns), oS (.int k)] rfl ((zcJ (e.trans (by rw [decide_eq_false h]))).trans (zaY ?_))
  have : ns.getD k 0 = 0 := by simp [List.getD, Nat.le_of_not_lt h]
  rw [this]
  rfl
abbrev dE (c : Int) (k : Nat) (sz : List Int) (n : Int) (ds : List Int) (a b : Option Slot) : zaX := [oS (.int c), oS (.int k), oS (.lst (sz.map D.int)), oS (.int n), some (.own (ds.map D.int)), a, b]
def zjL : FS := sIf (orT (toB (b2 eqD (b2 zcn (vSh 0) (vC (.int 2))) (vC (.int 1)))) (toB (b2 eqD (vSh 3) (vC (.int 0))))) (zaA (zbg 3 (b2 zbf (b2 zcn (b2 zbf (vSh 3) (vSh 0)) (vC (.int 2147483629))) (vC (.int 48271)))) (zaA (zbg 3 (b2 zbf (vSh 3) (b2 zd6 (b2 zd6 (vC (.int 7919)) (b2 zbf (vSh 1) (vSh 5))) (b2 zbf (vSh 1) (vSh 5))))) (zaA (zbg 3 (b2 zcn (b2 zd6 (vSh 3) (vSh 3)) (vC (.int 2147483587)))) (zdp 4 (b2 zcn (b2 zet (vSh 3) (vC (.int 16))) (vSh 6)))))) (zaA (zdp 4 (b2 zcn (vSh 3) (vSh 6))) (zbg 3 (b2 zet (vSh 3) (vSh 6))))
theorem zn9 {c n s : Int} {k t : Nat} {sz ds : List Int} (hk : k <= 1000) (ht : t <= 100) (hs : 0 < s /\ s < 1073741824) (hl : ds.length <= 100) : ∃ n' d, zjL (dE c k sz n ds (oS (.int t)) (oS (.int s))) = some (.nx, dE c k sz n' (ds ++ [d]) (oS (.int t)) (oS (.int s))) /\ 0 <= d /\ d < s := by
 have e1 : toB (b2 eqD (b2 zcn (vSh 0) (vC (.int 2))) (vC (.int 1))) (dE c k sz n ds (oS (.int t)) (oS (.int s))) = some (decide (c % 2 = 1)) :=
  zaO (zau (zau rfl rfl (zcq (by decide))) rfl rfl)
 have e2 : toB (b2 eqD (vSh 3) (vC (.int 0))) (dE c k sz n ds (oS (.int t)) (oS (.int s))) = some (decide (n = 0)) := zaO (zau rfl rfl rfl)
 have e3 : orT (toB (b2 eqD (b2 zcn (vSh 0) (vC (.int 2))) (vC (.int 1)))) (toB (b2 eqD (vSh 3) (vC (.int 0)))) (dE c k sz n ds (oS (.int t)) (oS (.int s))) = some (decide (c % 2 = 1) || decide (n = 0)) := by
  unfold orT
  rw [e1, qa, e2]
  cases decide (c % 2 = 1) <;> rfl
 have hsz : (ds.map D.int).length < sizeLine := by rw [qe]; unfold sizeLine; omega
 unfold zjL
 rw [zfb e3]
 split
 ·have q1 : 0 <= (n + c) % 2147483629 := Int.emod_nonneg _ (by decide)
  have q2 : (n + c) % 2147483629 < 2147483629 := Int.emod_lt_of_pos _ (by decide)
  have q3 : 0 <= (k : Int) + t /\ (k : Int) + t <= 1100 := by omega
  have q4 : 0 <= 7919 * ((k : Int) + t) * ((k : Int) + t) := Int.mul_nonneg (by omega) q3.1
  have q5 : 7919 * ((k : Int) + t) * ((k : Int) + t) <= 7919 * 1100 * 1100 := Int.mul_le_mul (by omega) q3.2 q3.1 (by decide)
  let n2 : Int := (n + c) % 2147483629 + 48271 + 7919 * ((k : Int) + t) * ((k : Int) + t)
  refine ⟨n2 * n2 % 2147483587, n2 * n2 % 2147483587 / 16 % s, (zaD (zau (zau (zau rfl rfl rfl) rfl (zcq (by decide))) rfl rfl)).trans ((zaD (zau rfl (zau (zau rfl (zau rfl rfl rfl) (zhh (.inl (by decide)))) (zau rfl rfl rfl) (zhh (.inr (by omega)))) rfl)).trans ((zaD (zau (zau rfl rfl (zhh (.inl (by omega)))) rfl (zcq (by decide)))).trans (zht rfl (zau (zau rfl rfl (zhW (by decide))) rfl (zcq hs.1)) hsz))) |>.trans ?_, Int.emod_nonneg _ (by omega), Int.emod_lt_of_pos _ hs.1⟩
  simp [dE]
  exact ⟨rfl, rfl⟩
 ·refine ⟨n / s, n % s, (zcb (zht rfl (zau rfl rfl (zcq hs.1)) hsz)).trans (zj9 (zau rfl rfl (zhW hs))) |>.trans ?_, Int.emod_nonneg _ (by omega), Int.emod_lt_of_pos _ hs.1⟩
  simp [dE]
theorem zdW {xs : List D} {i : Nat} {d : D} (h : (xs.mapIdx fun i d => D.tup [.int i, d])[i]? = some d) : ∃ x, xs[i]? = some x /\ d = .tup [.int i, x] := by
 rw [List.getElem?_mapIdx] at h
 obtain ⟨x, hx, rfl⟩ := oMd h
 exact ⟨x, hx, rfl⟩
theorem zcV (c : Int) (k : Nat) (hk : k <= 1000) (sz : List Int) (hs : ∀ s ∈ sz, 0 < s /\ s < 1073741824) (hl : sz.length <= 100) :
  ∃ ds : List Int, zag [.int c, .int (k : Int), .lst (sz.map D.int)] = some (.lst (ds.map D.int)) /\ ds.length = sz.length /\ ∀ (i : Nat) s, sz[i]? = some s -> ∃ d, ds[i]? = some d /\ 0 <= d /\ d < s := by
 obtain ⟨n0, hn0⟩ : ∃ n0 : Int, b2 zet (cF zsz (zaa (vSh 0) zai)) (vC (.int 2)) [oS (.int c), oS (.int k), oS (.lst (sz.map D.int)), none, none, none, none] = some (.int n0) := ⟨_, zau (zaU (zaj rfl zaB) rfl) rfl (zhW (by decide))⟩
 obtain ⟨ρ', h1, n, ds, a, b, h2, h3, h4⟩ := zch (gg := zcG 2 (zaI (zaG 5) (zaI (zaG 6) zcF))) (body := zjL) (xs := (sz.map D.int).mapIdx fun i d => D.tup [.int i, d]) (ρ := dE c k sz n0 [] none none)
  (fun i ρ => ∃ n ds a b, ρ = dE c k sz n ds a b /\ ds.length = i /\ ∀ (j : Nat) s, j < i -> sz[j]? = some s -> ∃ d, ds[j]? = some d /\ 0 <= d /\ d < s) ⟨n0, [], none, none, rfl, rfl, fun j s hj => by omega⟩ (fun i x ρ hx hI => by
   obtain ⟨n, ds, a, b, rfl, hlen, hb⟩ := hI
   obtain ⟨y, hy, rfl⟩ := zdW hx
   rw [qj] at hy
   obtain ⟨s, hsi, rfl⟩ := oMd hy
   have hi : i < sz.length := (List.getElem?_eq_some_iff.mp hsi).1
   obtain ⟨n', d, e1, e2, e3⟩ := zn9 (c := c) (n := n) (k := k) (t := i) (sz := sz) (ds := ds) hk (by omega) (hs s (List.mem_of_getElem? hsi)) (by omega)
   refine ⟨_, _, rfl, e1, n', ds ++ [d], _, _, rfl, by rw [qi, hlen]; rfl, fun j s' hj hs' => ?_⟩
   by_cases hji : j = i
   ·subst hji
    rw [hsi] at hs'
    cases hs'
    exact ⟨d, by rw [List.getElem?_append_right (by omega), hlen, Nat.sub_self]; rfl, e2, e3⟩
   ·obtain ⟨d', q1, q2⟩ := hb j s' (by omega) hs'
    exact ⟨d', by rw [qv (by omega)]; exact q1, q2⟩)
 rw [List.length_mapIdx, qe] at h3 h4
 refine ⟨ds, ?_, h3, fun i s hi => h4 i s (List.getElem?_eq_some_iff.mp hi).1 hi⟩
 refine za1 [oS (.int c), oS (.int k), oS (.lst (sz.map D.int)), none, none, none, none] rfl ((zaD hn0).trans (zdI.trans ((zcb ((zcx (xs := (sz.map D.int).mapIdx fun i d => D.tup [.int i, d]) rfl).trans (h1.trans (by rw [h2])))).trans ((zdt rfl).trans (zaY (f := vSh 4) rfl)))))
end Law
end
section
namespace Law
open PySem L2
def nm (k : Nat) : Str := match zas [.int (k : Int)] with
 | some (.str x) => x
 | _ => ⟨#[]⟩
def ztH (k : Nat) : Bool := match zas [.int (k : Int)] with
 | some (.str x) => zaF x
 | _ => false
theorem zrJ : ∀ k, k < 90 -> ztH k = true := by decide +kernel
theorem ziL {k : Nat} (h : k < 90) : zas [.int (k : Int)] = some (.str (nm k)) /\ zaF (nm k) = true := by
 have := zrJ k h
 unfold ztH at this
 unfold nm
 split at this
 ·rename_i x e
  rw [e]
  exact ⟨rfl, this⟩
 ·cases this
theorem zpP : ∀ i, i < 10 -> ∀ j, j < 10 -> nm i = nm j -> i = j := by decide +kernel
theorem zpO : ∀ i, i < 3 -> ∀ j, j < 3 -> nm (60 + i) = nm (60 + j) -> i = j := by decide +kernel
theorem zpN : ∀ i, i < 3 -> ∀ j, j < 3 -> nm (70 + i) = nm (70 + j) -> i = j := by decide +kernel
theorem zpM : ∀ i, i < 3 -> ∀ j, j < 3 -> nm (80 + i) = nm (80 + j) -> i = j := by decide +kernel
def pqr (i : Nat) : Str := if i = 0 then "p" else if i = 1 then "q" else "r"
theorem zhd : ∀ i, i < 3 -> zaF (pqr i) = true := by decide +kernel
theorem zlA {i : Int} (h0 : 0 <= i) (h : i < 3) : ixD (.str "pqr") (.int i) = some (.str (pqr i.toNat)) := by
 have : i = 0 \/ i = 1 \/ i = 2 := by omega
 rcases this with rfl | rfl | rfl <;> rfl
theorem zsh {xs : List D} {d : Int} (h : 0 <= d) : zha none (some d) (.lst xs) = some (.lst (xs.take d.toNat)) := by
 show some (D.lst (zhq xs none (some d))) = _
 unfold zhq HT.sIx
 simp only
 rw [if_neg (by omega), List.drop_zero, Nat.sub_zero]
 congr 2
 rw [Nat.min_def]
 split
 ·rfl
 ·rw [List.take_of_length_le (qt _), List.take_of_length_le (by omega)]
theorem zsg {xs : List D} {d : Int} (h : 0 <= d) : zha (some d) none (.lst xs) = some (.lst (xs.drop d.toNat)) := by
 show some (D.lst (zhq xs (some d) none)) = _
 unfold zhq HT.sIx
 simp only
 rw [if_neg (by omega)]
 congr 2
 rw [Nat.min_def]
 split
 ·rw [List.take_of_length_le (by rw [List.length_drop]; omega)]
 ·rw [List.drop_of_length_le (qt _), List.drop_of_length_le (by omega)]; simp
theorem zni {f : FE} {g : FE} {ρ : zaX} {xs : List D} {d : Int} (h1 : f ρ = some (.lst xs)) (h2 : g ρ = some (.int d)) (h : 0 <= d) : slF f pN (pS g) ρ = some (.lst (xs.take d.toNat)) := by
 unfold slF pN pS
 rw [h1, h2]
 exact zsh h
theorem znh {f : FE} {g : FE} {ρ : zaX} {xs : List D} {d : Int} (h1 : f ρ = some (.lst xs)) (h2 : g ρ = some (.int d)) (h : 0 <= d) : slF f (pS g) pN ρ = some (.lst (xs.drop d.toNat)) := by
 unfold slF pN pS
 rw [h1, h2]
 exact zsg h
structure GoodI (h : Int) (br : List (Int × Int)) : Prop where
 iv : ∀ p ∈ br, 0 <= p.1 /\ p.1 < p.2 /\ p.2 <= h
 gap : ∀ (i : Nat) p q, br[i]? = some p -> br[i + 1]? = some q -> p.2 < q.1
abbrev sE (rs : List (Int × Int)) (h : Int) (br : List (Int × Int)) (f : Int) (a b c d : Option Slot) : zaX := [oS (.lst (rs.map dIv)), oS (.int h), some (.own (br.map dIv)), oS (.int f), a, b, c, d]
def zoq : FS := zaA (zbg 6 (b2 zbf (vSh 3) (vSh 4))) (zaA (zbg 7 (b2 zbf (b2 zbf (vSh 6) (vC (.int 1))) (vSh 5))) (sIf (toB (b2 leD (vSh 7) (vSh 1))) (zaA (zdp 2 (zbu (szF (zaa (vSh 6) (zaa (vSh 7) zai))))) (zbg 3 (b2 zbf (vSh 7) (vC (.int 1))))) zb8))
theorem zcp {f g : FE} {ρ : zaX} {x y : D} (h1 : f ρ = some x) (h2 : g ρ = some y) : zbu (szF (zaa f (zaa g zai))) ρ = some (.tup [x, y]) := by
 simp only [zbu, szF, zaa, zai, h1, h2, qa, qd, qh, qk, Nat.zero_add, sz2, if_true]
theorem zfV {f g e : FE} {ρ : zaX} {x y z : D} (h1 : f ρ = some x) (h2 : g ρ = some y) (h3 : e ρ = some z) : zbu (szF (zaa f (zaa g (zaa e zai)))) ρ = some (.tup [x, y, z]) := by
 simp only [zbu, szF, zaa, zai, h1, h2, h3, qa, qd, qh, qk, Nat.zero_add, sz3, if_true]
theorem zoX {f g e a : FE} {ρ : zaX} {x y z w : D} (h1 : f ρ = some x) (h2 : g ρ = some y) (h3 : e ρ = some z) (h4 : a ρ = some w) : zbu (szF (zaa f (zaa g (zaa e (zaa a zai))))) ρ = some (.tup [x, y, z, w]) := by
 simp only [zbu, szF, zaa, zai, h1, h2, h3, h4, qa, qd, qh, qk, Nat.zero_add, sz4, if_true]
theorem zlk {f g e a b : FE} {ρ : zaX} {x y z w u : D} (h1 : f ρ = some x) (h2 : g ρ = some y) (h3 : e ρ = some z) (h4 : a ρ = some w) (h5 : b ρ = some u) : zbu (szF (zaa f (zaa g (zaa e (zaa a (zaa b zai)))))) ρ = some (.tup [x, y, z, w, u]) := by
 simp only [zbu, szF, zaa, zai, h1, h2, h3, h4, h5, qa, qd, qh, qk, Nat.zero_add, sz5, if_true]
theorem zng (rs : List (Int × Int)) (h : Int) (hr : ∀ p ∈ rs, 0 <= p.1 /\ 0 <= p.2) (hl : rs.length <= 3) : ∃ br : List (Int × Int), zbp [.lst (rs.map dIv), .int h] = some (.lst (br.map dIv)) /\ br.length <= rs.length /\ GoodI h br := by
 obtain ⟨ρ', h1, br, f, a, b, c, d, h2, h3, h4, h5, h6⟩ := zch (gg := zcG 2 (zaI (zaG 4) (zaI (zaG 5) zcF))) (body := zoq) (xs := rs.map dIv) (ρ := sE rs h [] 0 none none none none)
  (fun i ρ => ∃ br f a b c d, ρ = sE rs h br f a b c d /\ br.length <= i /\ GoodI h br /\ 0 <= f /\ ∀ p ∈ br, p.2 < f) ⟨[], 0, none, none, none, none, rfl, qt _, ⟨fun p hp => (by cases hp), fun i p q hp => (by simp at hp)⟩, Int.le_refl _, fun p hp => (by cases hp)⟩ (fun i x ρ hx hI => by
   obtain ⟨br, f, a, b, c, d, rfl, hlen, hg, hf, hlt⟩ := hI
   rw [qj] at hx
   obtain ⟨p, hp, rfl⟩ := oMd hx
   obtain ⟨p1, p2⟩ := hr p (List.mem_of_getElem? hp)
   have hi : i < rs.length := (List.getElem?_eq_some_iff.mp hp).1
   have hsz : (br.map dIv).length < sizeLine := by rw [qe]; unfold sizeLine; omega
   have pre : ∀ ρ2, (sIf (toB (b2 leD (vSh 7) (vSh 1))) (zaA (zdp 2 (zbu (szF (zaa (vSh 6) (zaa (vSh 7) zai))))) (zbg 3 (b2 zbf (vSh 7) (vC (.int 1))))) zb8) (sE rs h br f (oS (.int p.1)) (oS (.int p.2)) (oS (.int (f + p.1))) (oS (.int (f + p.1 + 1 + p.2)))) = some (.nx, ρ2) -> zoq (sE rs h br f (oS (.int p.1)) (oS (.int p.2)) c d) = some (.nx, ρ2) := fun ρ2 q =>
    (zaD (zau rfl rfl rfl)).trans ((zaD (zau (zau rfl rfl rfl) rfl rfl)).trans q)
   have e : toB (b2 leD (vSh 7) (vSh 1)) (sE rs h br f (oS (.int p.1)) (oS (.int p.2)) (oS (.int (f + p.1))) (oS (.int (f + p.1 + 1 + p.2)))) = some (decide (f + p.1 + 1 + p.2 <= h)) := zaO (zau rfl rfl rfl)
   by_cases hh : f + p.1 + 1 + p.2 <= h
   ·rw [decide_eq_true hh] at e
    refine ⟨_, _, rfl, pre _ ((zfb e).trans ((if_pos rfl).trans ((zcb (zht rfl (zcp rfl rfl) hsz)).trans (zj9 (zau rfl rfl rfl))))), br ++ [(f + p.1, f + p.1 + 1 + p.2)], f + p.1 + 1 + p.2 + 1, oS (.int p.1), oS (.int p.2), oS (.int (f + p.1)), oS (.int (f + p.1 + 1 + p.2)), ?_, ?_, ⟨fun q hq => ?_, fun j q q' hq hq' => ?_⟩, by omega, fun q hq => ?_⟩
    ·simp [sE, dIv]
    ·rw [qi]; simp; omega
    ·rcases List.mem_append.mp hq with z | z
     ·exact hg.iv q z
     ·rw [List.mem_singleton.mp z]; exact ⟨by omega, by omega, hh⟩
    ·have hj : j + 1 < br.length + 1 := by
      have := (List.getElem?_eq_some_iff.mp hq').1
      simpa using this
     rw [qv (by omega)] at hq
     by_cases hj2 : j + 1 < br.length
     ·rw [qv hj2] at hq'
      exact hg.gap j q q' hq hq'
     ·rw [List.getElem?_append_right (by omega), show j + 1 - br.length = 0 by omega] at hq'
      cases hq'
      have := hlt q (List.mem_of_getElem? hq)
      show q.2 < f + p.1
      omega
    ·rcases List.mem_append.mp hq with z | z
     ·have := hlt q z; omega
     ·rw [List.mem_singleton.mp z]; show f + p.1 + 1 + p.2 < _; omega
   ·rw [decide_eq_false hh] at e
    exact ⟨_, _, rfl, pre _ ((zfb e).trans rfl), br, f, _, _, _, _, rfl, by omega, hg, hf, hlt⟩)
 rw [qe] at h3
 refine ⟨br, za1 [oS (.lst (rs.map dIv)), oS (.int h), none, none, none, none, none, none] rfl (zdI.trans ((zaD (d := .int 0) rfl).trans ((zcb ((zcx (xs := rs.map dIv) rfl).trans (h1.trans (by rw [h2])))).trans ((zdt rfl).trans (zaY (f := vSh 2) rfl))))), h3, h4⟩
theorem zds {α : Type} {g : α -> D} {xs : List α} {x : α} {i : Nat} {f : FE} {ρ : zaX} (h1 : ρ[i]? = some (some (.own (xs.map g)))) (h2 : f ρ = some (g x)) (h3 : xs.length <= 1000) : zdp i f ρ = some (.nx, ρ.set i (some (.own ((xs ++ [x]).map g)))) := by
 rw [zht h1 h2 (by rw [qe]; unfold sizeLine; omega), List.map_append]; rfl
theorem zhP {f g e : FE} {ρ : zaX} {x y z : D} (h1 : f ρ = some x) (h2 : g ρ = some y) (h3 : e ρ = some z) : zaS (szF (zaa f (zaa g (zaa e zai)))) ρ = some (.lst [x, y, z]) := by
 simp only [zaS, szF, zaa, zai, h1, h2, h3, qa, qd, qh, qk, Nat.zero_add, sz3, if_true]
theorem zb0 {f : FE} {ρ : zaX} {ds : List Int} {n : Nat} {d : Int} (h1 : f ρ = some (.lst (ds.map D.int))) (h2 : ds[n]? = some d) : b2 ixD f (vC (.int (n : Int))) ρ = some (.int d) :=
 zau h1 rfl (by rw [ixL, qj, h2]; rfl)
structure BenchAt (h : Int) (i : Nat) (b : BenchT) : Prop where
 nm : b.nm = nm (60 + i)
 len : b.br.length <= 3
 good : GoodI h b.br
abbrev bE (cs : List Int) (h : Int) (bs : List BenchT) (a b c d : Option Slot) : zaX := [oS (.lst (cs.map D.int)), oS (.int h), some (.own (bs.map zaZ)), a, b, c, d]
def ztJ : FE := zaS (szF (zaa (vC (.int 4)) (zaa (vC (.int 5)) (zaa (vC (.int 3)) (zaa (vC (.int 7)) (zaa (vC (.int 4)) (zaa (vC (.int 9)) (zaa (vC (.int 5)) zai))))))))
theorem zqy (ρ : zaX) : ztJ ρ = some (.lst (([4, 5, 3, 7, 4, 9, 5] : List Int).map D.int)) := rfl
def zoQ : FS := zaA (zbg 5 (cF zag (zaa (vSh 4) (zaa (vSh 3) (zaa ztJ zai))))) (zaA (zbg 6 (slF (zaS (szF (zaa (zbu (szF (zaa (b2 ixD (vSh 5) (vC (.int 1))) (zaa (b2 ixD (vSh 5) (vC (.int 2))) zai)))) (zaa (zbu (szF (zaa (b2 ixD (vSh 5) (vC (.int 3))) (zaa (b2 ixD (vSh 5) (vC (.int 4))) zai)))) (zaa (zbu (szF (zaa (b2 ixD (vSh 5) (vC (.int 5))) (zaa (b2 ixD (vSh 5) (vC (.int 6))) zai)))) zai))))) pN (pS (b2 ixD (vSh 5) (vC (.int 0)))))) (zdp 2 (zbu (szF (zaa (cF zas (zaa (b2 zbf (vC (.int 60)) (vSh 3)) zai)) (zaa (cF zbp (zaa (vSh 6) (zaa (vSh 1) zai))) zai))))))
theorem zqx {cs : List Int} {h c : Int} {bs : List BenchT} {i : Nat} {y z : Option Slot} (hi : i < 3) (hl : bs.length <= 3) : ∃ b u v, zoQ (bE cs h bs (oS (.int i)) (oS (.int c)) y z) = some (.nx, bE cs h (bs ++ [b]) (oS (.int i)) (oS (.int c)) u v) /\ BenchAt h i b := by
 obtain ⟨ds, e, hd, hb⟩ := zcV c i (by omega) [4, 5, 3, 7, 4, 9, 5] (by decide) (by decide)
 obtain ⟨d0, q0, p0, _⟩ := hb 0 4 rfl
 obtain ⟨d1, q1, p1, _⟩ := hb 1 5 rfl
 obtain ⟨d2, q2, p2, _⟩ := hb 2 3 rfl
 obtain ⟨d3, q3, p3, _⟩ := hb 3 7 rfl
 obtain ⟨d4, q4, p4, _⟩ := hb 4 4 rfl
 obtain ⟨d5, q5, p5, _⟩ := hb 5 9 rfl
 obtain ⟨d6, q6, p6, _⟩ := hb 6 5 rfl
 have hrs : ∀ p ∈ ([(d1, d2), (d3, d4), (d5, d6)] : List (Int × Int)).take d0.toNat, 0 <= p.1 /\ 0 <= p.2 := fun p hp => by
  have := List.mem_of_mem_take hp
  simp only [List.mem_cons, List.not_mem_nil, or_false] at this
  rcases this with rfl | rfl | rfl
  ·exact ⟨p1, p2⟩
  ·exact ⟨p3, p4⟩
  ·exact ⟨p5, p6⟩
 obtain ⟨br, es, hbl, hbg⟩ := zng (([(d1, d2), (d3, d4), (d5, d6)] : List (Int × Int)).take d0.toNat) h hrs (by rw [List.length_take]; simp; omega)
 have hn := (ziL (k := 60 + i) (by omega)).1
 have hn' : zas [.int (60 + (i : Int))] = some (.str (nm (60 + i))) := by
  rw [← hn]; congr 2
 refine ⟨⟨nm (60 + i), br⟩, _, _, (zaD (d := .lst (ds.map D.int)) (zaU (zaj rfl (zaj rfl (zaj (zqy _) zaB))) e)).trans ((zaD (d := .lst ((([(d1, d2), (d3, d4), (d5, d6)] : List (Int × Int)).take d0.toNat).map dIv)) ?_).trans (zds rfl (zcp (zaU (zaj (zau rfl rfl rfl) zaB) hn') (zaU (zaj rfl (zaj rfl zaB)) es)) (by omega))), rfl, by rw [List.length_take] at hbl; simp at hbl; show br.length <= 3; omega, hbg⟩
 rw [List.map_take]
 exact zni (xs := [dIv (d1, d2), dIv (d3, d4), dIv (d5, d6)]) (zhP (zcp (zb0 rfl q1) (zb0 rfl q2)) (zcp (zb0 rfl q3) (zb0 rfl q4)) (zcp (zb0 rfl q5) (zb0 rfl q6))) (zb0 rfl q0) p0
theorem zjG (cs : List Int) (h : Int) (hl : cs.length <= 3) : ∃ bs : List BenchT, zbe [.lst (cs.map D.int), .int h] = some (.lst (bs.map zaZ)) /\ bs.length = cs.length /\ ∀ (i : Nat) b, bs[i]? = some b -> BenchAt h i b := by
 obtain ⟨ρ', h1, bs, a, b, c, d, h2, h3, h4⟩ := zch (gg := zcG 2 (zaI (zaG 3) (zaI (zaG 4) zcF))) (body := zoQ) (xs := (cs.map D.int).mapIdx fun i d => D.tup [.int i, d]) (ρ := bE cs h [] none none none none)
  (fun i ρ => ∃ bs a b c d, ρ = bE cs h bs a b c d /\ bs.length = i /\ ∀ (j : Nat) b, bs[j]? = some b -> BenchAt h j b) ⟨[], none, none, none, none, rfl, rfl, fun j b hj => (by simp at hj)⟩ (fun i x ρ hx hI => by
   obtain ⟨bs, a, b, c, d, rfl, hlen, hb⟩ := hI
   obtain ⟨y, hy, rfl⟩ := zdW hx
   rw [qj] at hy
   obtain ⟨s, hsi, rfl⟩ := oMd hy
   have hi : i < cs.length := (List.getElem?_eq_some_iff.mp hsi).1
   obtain ⟨b', u, v, e1, e2⟩ := zqx (cs := cs) (h := h) (c := s) (bs := bs) (i := i) (y := c) (z := d) (by omega) (by omega)
   refine ⟨_, _, rfl, e1, bs ++ [b'], _, _, _, _, rfl, by rw [qi, hlen]; rfl, fun j b'' hj => ?_⟩
   by_cases hji : j < bs.length
   ·rw [qv hji] at hj
    exact hb j b'' hj
   ·have hl2 := (List.getElem?_eq_some_iff.mp hj).1
    rw [qi, List.length_singleton] at hl2
    rw [List.getElem?_append_right (by omega), show j - bs.length = 0 by omega] at hj
    cases hj
    rw [show j = i by omega]
    exact e2)
 rw [List.length_mapIdx, qe] at h3
 exact ⟨bs, za1 [oS (.lst (cs.map D.int)), oS (.int h), none, none, none, none, none] rfl (zdI.trans ((zcb ((zcx (xs := (cs.map D.int).mapIdx fun i d => D.tup [.int i, d]) rfl).trans (h1.trans (by rw [h2])))).trans ((zdt rfl).trans (zaY (f := vSh 2) rfl)))), h3, h4⟩
end Law
end
section
namespace Law
open PySem L2
def bnm (bs : List BenchT) (i : Nat) : Str := (bs.map (·.nm)).getD i ⟨#[]⟩
theorem zmT {bs : List BenchT} {i : Nat} (h : i < bs.length) : bnm bs i ∈ bs.map (·.nm) := by
 unfold bnm
 rw [List.getD_eq_getElem?_getD, qj, List.getElem?_eq_getElem h]
 exact List.mem_map_of_mem (List.getElem_mem h)
theorem zkE {bs : List BenchT} {ρ : zaX} {f g : FE} {d : Int} (h1 : f ρ = some (.lst (bs.map zaZ))) (h2 : g ρ = some (.int d)) (h3 : 0 <= d) (h4 : d < bs.length) : b2 ixD (b2 ixD f g) (vC (.int 0)) ρ = some (.str (bnm bs d.toNat)) := by
 obtain ⟨n, rfl⟩ := Int.eq_ofNat_of_zero_le h3
 have hd : n < bs.length := by omega
 have e : ixD (.lst (bs.map zaZ)) (.int (n : Int)) = some (zaZ bs[n]) := by
  rw [ixL, qj, List.getElem?_eq_getElem hd]
  rfl
 refine zau (zau h1 h2 e) rfl ?_
 show ixD (.tup _) (.int 0) = _
 rw [zhk]
 unfold bnm
 rw [Int.toNat_natCast, List.getD_eq_getElem?_getD, qj, List.getElem?_eq_getElem hd]
 rfl
structure StepAt (bn : List Str) (h : Int) (i : Nat) (s : StepT) : Prop where
 nm : s.nm = nm i
 good : GoodS bn h s
abbrev tE (cs : List Int) (bs : List BenchT) (h lo : Int) (ss : List StepT) (a b c d : Option Slot) : zaX := [oS (.lst (cs.map D.int)), oS (.lst (bs.map zaZ)), oS (.int h), oS (.int lo), some (.own (ss.map zaN)), a, b, c, d]
theorem zpY {f : FE} {ρ : zaX} {x : D} (h1 : f ρ = some x) : szF (zaa f zai) ρ = some [x] := by
 simp only [szF, zaa, zai, h1, qa, qd, qh, qk, Nat.zero_add, sz1, if_true]
theorem zlW {f g e a b c : FE} {ρ : zaX} {x y z w u v : D} (h1 : f ρ = some x) (h2 : g ρ = some y) (h3 : e ρ = some z) (h4 : a ρ = some w) (h5 : b ρ = some u) (h6 : c ρ = some v) : zaS (szF (zaa f (zaa g (zaa e (zaa a (zaa b (zaa c zai))))))) ρ = some (.lst [x, y, z, w, u, v]) := by
 simp only [zaS, szF, zaa, zai, h1, h2, h3, h4, h5, h6, qa, qd, qh, qk, Nat.zero_add, sz6, if_true]
theorem zjE {f g e a b c d : FE} {ρ : zaX} {x y z w u v t : D} (h1 : f ρ = some x) (h2 : g ρ = some y) (h3 : e ρ = some z) (h4 : a ρ = some w) (h5 : b ρ = some u) (h6 : c ρ = some v) (h7 : d ρ = some t) : zaS (szF (zaa f (zaa g (zaa e (zaa a (zaa b (zaa c (zaa d zai)))))))) ρ = some (.lst [x, y, z, w, u, v, t]) := by
 simp only [zaS, szF, zaa, zai, h1, h2, h3, h4, h5, h6, h7, qa, qd, qh, qk, Nat.zero_add, sz7, if_true]
theorem zf7 {i : Nat} {fr : FA} {g : FS} {ρ : zaX} {ds : List D} (h : fr ρ = some ds) : zaA (zeH i fr) g ρ = g (ρ.set i (some (.own ds))) := by
 simp only [zaA, zeH, h, qd, qa]
theorem zgE {f g : FT} {ρ : zaX} {a b : Bool} (h1 : f ρ = some a) (h2 : g ρ = some b) : zfz f g ρ = some (a && b) := by
 unfold zfz; rw [h1, qa, h2]; cases a <;> rfl
theorem zjA (a : Int) {h : Int} (hh : 1 <= h) : 1 <= 1 + a % h /\ 1 + a % h <= h := by
 have h1 := Int.emod_nonneg a (show h ≠ 0 by omega)
 have h2 := Int.emod_lt_of_pos a (show 0 < h by omega)
 omega
def zop : FS := (zaA (zbg 7 (cF zag (zaa (vSh 6) (zaa (b2 zbf (vSh 5) (vC (.int 7))) (zaa (zaS (szF (zaa (vC (.int 3)) (zaa (cF zcT (zaa (vSh 1) zai)) (zaa (vSh 3) (zaa (cF zcT (zaa (vSh 1) zai)) (zaa (vSh 3) (zaa (vC (.int 3)) zai)))))))) zai))))) (zaA (zeH 8 (szF (zaa (zbu (szF (zaa (b2 ixD (b2 ixD (vSh 1) (b2 ixD (vSh 7) (vC (.int 1)))) (vC (.int 0))) (zaa (b2 zbf (vC (.int 1)) (b2 zcn (b2 ixD (vSh 7) (vC (.int 2))) (vSh 2))) zai)))) zai))) (zaA (sIf (zfz (toB (b2 eqD (b2 ixD (vSh 7) (vC (.int 0))) (vC (.int 0)))) (toB (b2 neA (b2 ixD (vSh 7) (vC (.int 3))) (b2 ixD (vSh 7) (vC (.int 1)))))) (zdp 8 (zbu (szF (zaa (b2 ixD (b2 ixD (vSh 1) (b2 ixD (vSh 7) (vC (.int 3)))) (vC (.int 0))) (zaa (b2 zbf (vC (.int 1)) (b2 zcn (b2 ixD (vSh 7) (vC (.int 4))) (vSh 2))) zai))))) zb8) (zgT 8 (zdp 4 (zbu (szF (zaa (cF zas (zaa (vSh 5) zai)) (zaa (b2 ixD (vC (.str "pqr")) (b2 ixD (vSh 7) (vC (.int 5)))) (zaa (vSh 8) zai))))))))))
theorem zo2 {cs : List Int} {h lo c : Int} {bs : List BenchT} {ss : List StepT} {i : Nat} {y z : Option Slot} (hh : 1 <= h) (hlo : 0 < lo /\ lo < 1000) (hi : i < 10) (hb : 1 <= bs.length /\ bs.length <= 3) (bnd : (bs.map (·.nm)).Nodup) (hl : ss.length <= 10) :
  ∃ s u v, zop (tE cs bs h lo ss (oS (.int i)) (oS (.int c)) y z) = some (.nx, tE cs bs h lo (ss ++ [s]) (oS (.int i)) (oS (.int c)) u v) /\ StepAt (bs.map (·.nm)) h i s := by
 obtain ⟨ds, e, hd, hbd⟩ := zcV c (i + 7) (by omega) [3, (bs.length : Int), lo, (bs.length : Int), lo, 3] (by
  intro s hs
  simp only [List.mem_cons, List.not_mem_nil, or_false] at hs
  rcases hs with rfl | rfl | rfl | rfl | rfl | rfl <;> omega) (by simp)
 obtain ⟨d0, q0, p0, _⟩ := hbd 0 3 rfl
 obtain ⟨d1, q1, p1, r1⟩ := hbd 1 _ rfl
 obtain ⟨d2, q2, p2, _⟩ := hbd 2 _ rfl
 obtain ⟨d3, q3, p3, r3⟩ := hbd 3 _ rfl
 obtain ⟨d4, q4, p4, _⟩ := hbd 4 _ rfl
 obtain ⟨d5, q5, p5, r5⟩ := hbd 5 3 rfl
 obtain ⟨hn, hnb⟩ := ziL (k := i) (by omega)
 have w1 : (bnm bs d1.toNat) ∈ bs.map (·.nm) := zmT (by omega)
 have w3 : (bnm bs d3.toNat) ∈ bs.map (·.nm) := zmT (by omega)
 have bm : ∀ a b : Nat, a < bs.length -> b < bs.length -> bnm bs a = bnm bs b -> a = b := fun a b ha hb' hab => by
  unfold bnm at hab
  rw [List.getD_eq_getElem?_getD, List.getD_eq_getElem?_getD, List.getElem?_eq_getElem (by simpa using ha), List.getElem?_eq_getElem (by simpa using hb')] at hab
  exact (List.getElem_inj bnd).mp hab
 let W1 : Str × Int := (bnm bs d1.toNat, 1 + d2 % h)
 let W3 : Str × Int := (bnm bs d3.toNat, 1 + d4 % h)
 have e7 : ((i : Int) + 7) = ((i + 7 : Nat) : Int) := by omega
 have eD : cF zag (zaa (vSh 6) (zaa (b2 zbf (vSh 5) (vC (.int 7))) (zaa (zaS (szF (zaa (vC (.int 3)) (zaa (cF zcT (zaa (vSh 1) zai)) (zaa (vSh 3) (zaa (cF zcT (zaa (vSh 1) zai)) (zaa (vSh 3) (zaa (vC (.int 3)) zai)))))))) zai))) (tE cs bs h lo ss (oS (.int i)) (oS (.int c)) y z) = some (.lst (ds.map D.int)) := by
  refine zaU (zaj (d := .int c) rfl (zaj (d := .int ((i : Int) + 7)) (zau rfl rfl rfl) (zaj (zlW rfl (y := .int (bs.length : Nat)) ?_ rfl (w := .int (bs.length : Nat)) ?_ rfl rfl) zaB))) (by rw [e7]; exact e) <;>
  ·refine zaU (zaj rfl zaB) ?_
   show some (D.int _) = _
   rw [qe]
 have fin : ∀ (ws : List (Str × Int)), GoodS (bs.map (·.nm)) h ⟨nm i, pqr d5.toNat, ws⟩ -> zgT 8 (zdp 4 (zbu (szF (zaa (cF zas (zaa (vSh 5) zai)) (zaa (b2 ixD (vC (.str "pqr")) (b2 ixD (vSh 7) (vC (.int 5)))) (zaa (vSh 8) zai)))))) (tE cs bs h lo ss (oS (.int i)) (oS (.int c)) (oS (.lst (ds.map D.int))) (some (.own (ws.map dW)))) = some (.nx, tE cs bs h lo (ss ++ [⟨nm i, pqr d5.toNat, ws⟩]) (oS (.int i)) (oS (.int c)) (oS (.lst (ds.map D.int))) (oS (.lst (ws.map dW)))) := fun ws _ =>
  (zdt rfl).trans (zds rfl (zfV (zaU (zaj rfl zaB) hn) (zau rfl (zb0 rfl q5) (zlA p5 r5)) rfl) (by omega))
 have eW : ∀ Z, szF (zaa (zbu (szF (zaa (b2 ixD (b2 ixD (vSh 1) (b2 ixD (vSh 7) (vC (.int 1)))) (vC (.int 0))) (zaa (b2 zbf (vC (.int 1)) (b2 zcn (b2 ixD (vSh 7) (vC (.int 2))) (vSh 2))) zai)))) zai) (tE cs bs h lo ss (oS (.int i)) (oS (.int c)) (oS (.lst (ds.map D.int))) Z) = some ([W1].map dW) := fun Z =>
  zpY (zcp (zkE rfl (zb0 rfl q1) p1 (by omega)) (zau rfl (zau (zb0 rfl q2) rfl (zcq (by omega))) rfl))
 have eT : ∀ Z, zfz (toB (b2 eqD (b2 ixD (vSh 7) (vC (.int 0))) (vC (.int 0)))) (toB (b2 neA (b2 ixD (vSh 7) (vC (.int 3))) (b2 ixD (vSh 7) (vC (.int 1))))) (tE cs bs h lo ss (oS (.int i)) (oS (.int c)) (oS (.lst (ds.map D.int))) Z) = some (decide (d0 = 0) && !decide (d3 = d1)) := fun Z =>
  zgE (zaO (zau (zb0 rfl q0) rfl rfl)) (zaO (zau (zb0 rfl q3) (zb0 rfl q1) rfl))
 have g1 : GoodS (bs.map (·.nm)) h ⟨nm i, pqr d5.toNat, [W1]⟩ := ⟨hnb, zhd _ (by omega), by simp, by simp, fun w hw => by
  rw [List.mem_singleton.mp hw]
  exact ⟨w1, zjA d2 hh⟩, by simp⟩
 by_cases ht : (decide (d0 = 0) && !decide (d3 = d1)) = true
 ·have hne : d3 ≠ d1 := by
   simp only [Bool.and_eq_true, Bool.not_eq_true', decide_eq_false_iff_not] at ht
   exact ht.2
  have g2 : GoodS (bs.map (·.nm)) h ⟨nm i, pqr d5.toNat, [W1] ++ [W3]⟩ := ⟨hnb, zhd _ (by omega), by simp, by simp, fun w hw => by
   rcases List.mem_append.mp hw with q | q
   ·rw [List.mem_singleton.mp q]; exact ⟨w1, zjA d2 hh⟩
   ·rw [List.mem_singleton.mp q]; exact ⟨w3, zjA d4 hh⟩, by
   show [bnm bs d1.toNat, bnm bs d3.toNat].Nodup
   rw [List.nodup_cons]
   refine ⟨fun q => ?_, by simp⟩
   have := bm _ _ (by omega) (by omega) (List.mem_singleton.mp q)
   omega⟩
  exact ⟨_, _, _, (zaD eD).trans ((zf7 (eW z)).trans ((zcb ((zfb (eT _)).trans ((if_pos ht).trans (zds (x := W3) rfl (zcp (zkE rfl (zb0 rfl q3) p3 (by omega)) (zau rfl (zau (zb0 rfl q4) rfl (zcq (by omega))) rfl)) (by simp))))).trans (fin _ g2))), rfl, g2⟩
 ·exact ⟨_, _, _, (zaD eD).trans ((zf7 (eW z)).trans ((zcb ((zfb (eT _)).trans ((if_neg ht).trans rfl))).trans (fin _ g1))), rfl, g1⟩
theorem zlV (cs : List Int) (bs : List BenchT) (h lo : Int) (hh : 1 <= h) (hlo : 0 < lo /\ lo < 1000) (hl : cs.length <= 10) (hb : 1 <= bs.length /\ bs.length <= 3) (bnd : (bs.map (·.nm)).Nodup) : ∃ ss : List StepT, zbD [.lst (cs.map D.int), .lst (bs.map zaZ), .int h, .int lo] = some (.lst (ss.map zaN)) /\ ss.length = cs.length /\ ∀ (i : Nat) s, ss[i]? = some s -> StepAt (bs.map (·.nm)) h i s := by
 obtain ⟨ρ', h1, ss, a, b, c, d, h2, h3, h4⟩ := zch (gg := zcG 2 (zaI (zaG 5) (zaI (zaG 6) zcF))) (body := zop) (xs := (cs.map D.int).mapIdx fun i d => D.tup [.int i, d]) (ρ := tE cs bs h lo [] none none none none)
  (fun i ρ => ∃ ss a b c d, ρ = tE cs bs h lo ss a b c d /\ ss.length = i /\ ∀ (j : Nat) s, ss[j]? = some s -> StepAt (bs.map (·.nm)) h j s) ⟨[], none, none, none, none, rfl, rfl, fun j b hj => (by simp at hj)⟩ (fun i x ρ hx hI => by
   obtain ⟨ss, a, b, c, d, rfl, hlen, hb'⟩ := hI
   obtain ⟨y, hy, rfl⟩ := zdW hx
   rw [qj] at hy
   obtain ⟨s, hsi, rfl⟩ := oMd hy
   have hi : i < cs.length := (List.getElem?_eq_some_iff.mp hsi).1
   obtain ⟨s', u, v, e1, e2⟩ := zo2 (cs := cs) (h := h) (lo := lo) (c := s) (bs := bs) (ss := ss) (i := i) (y := c) (z := d) hh hlo (by omega) hb bnd (by omega)
   refine ⟨_, _, rfl, e1, ss ++ [s'], _, _, _, _, rfl, by rw [qi, hlen]; rfl, fun j b'' hj => ?_⟩
   by_cases hji : j < ss.length
   ·rw [qv hji] at hj
    exact hb' j b'' hj
   ·have hl2 := (List.getElem?_eq_some_iff.mp hj).1
    rw [qi, List.length_singleton] at hl2
    rw [List.getElem?_append_right (by omega), show j - ss.length = 0 by omega] at hj
    cases hj
    rw [show j = i by omega]
    exact e2)
 rw [List.length_mapIdx, qe] at h3
 exact ⟨ss, za1 [oS (.lst (cs.map D.int)), oS (.lst (bs.map zaZ)), oS (.int h), oS (.int lo), none, none, none, none, none] rfl (zdI.trans ((zcb ((zcx (xs := (cs.map D.int).mapIdx fun i d => D.tup [.int i, d]) rfl).trans (h1.trans (by rw [h2])))).trans ((zdt rfl).trans (zaY (f := vSh 4) rfl)))), h3, h4⟩
end Law
end
section
namespace Law
open PySem L2
theorem zfe : ∀ (ns : List Str), PyData.depthAll (ns.map PyData.str) = 0
 | [] => by simp [PyData.depthAll]
 | x :: r => by simp [PyData.depthAll, PyData.depth, zfe r]
theorem zjm {ns : List Str} (h : ∀ x ∈ ns, zaF x = true) : SeqAt.shaped (.list (ns.map PyData.str)) = true := by
 simp [SeqAt.shaped, PyData.canLay0, zeN h, PyData.depth, zfe]
theorem zpS {ns : List Str} (h : ∀ x ∈ ns, zaF x = true) : neA (.lst (ns.map D.str)) (.lst []) = some (.bl (!ns.isEmpty)) := by
 have e0 : neA (.lst (ns.map D.str)) (.lst []) = zpR (.lst (ns.map D.str)) (.lst []) := rfl
 have s1 := zjm h
 have s2 : SeqAt.shaped (.list []) = true := by simp [SeqAt.shaped, PyData.canLay0, PyData.canLayAll0, PyData.depth, PyData.depthAll]
 have p1 : pdD (.lst (ns.map D.str)) = some (.list (ns.map PyData.str)) := by simp [pdD, zhL]
 have p2 : pdD (.lst []) = some (.list []) := by simp [pdD, zil]
 have q : PyData.eqv (.list (ns.map PyData.str)) (.list []) = ns.isEmpty := by
  cases ns <;> simp [PyData.eqv, PyData.eqvAll]
 rw [e0]
 unfold zpR eqX
 rw [p1, p2, qa, qa, if_pos ⟨s1, s2⟩, q]
 rfl
abbrev jE (cs : List Int) (ss : List StepT) (h : Int) (js : List JobT) (lf : List Str) (a b c d e f : Option Slot) : zaX := [oS (.lst (cs.map D.int)), oS (.lst (ss.map zaN)), oS (.int h), some (.own (js.map zbK)), oS (.lst (lf.map D.str)), a, b, c, d, e, f]
structure JInv (sn : List Str) (h : Int) (i : Nat) (js : List JobT) (lf : List Str) : Prop where
 len : js.length <= i
 nd : (js.flatMap (·.ms) ++ lf).Nodup
 sub : ∀ x ∈ js.flatMap (·.ms) ++ lf, x ∈ sn
 ll : lf.length <= sn.length
 good : ∀ j ∈ js, GoodJ sn h j
 nmd : (js.map (·.nm)).Nodup
 nmk : ∀ j ∈ js, ∃ k, k < i /\ j.nm = nm (70 + k)
def zoF : FS := (zaA (zbg 7 (cF zag (zaa (vSh 6) (zaa (b2 zbf (vSh 5) (vC (.int 17))) (zaa (zaS (szF (zaa (vC (.int 4)) (zaa (vC (.int 3)) (zaa (vC (.int 3)) (zaa (vC (.int 2)) (zaa (vC (.int 5)) (zaa (vC (.int 7)) zai)))))))) zai))))) (zaA (zbg 8 (slF (vSh 4) pN (pS (b2 ixD (vSh 7) (vC (.int 0)))))) (zaA (zbg 4 (slF (vSh 4) (pS (b2 ixD (vSh 7) (vC (.int 0)))) pN)) (sIf (toB (b2 neA (vSh 8) (zaS (szF zai)))) (zaA (zbg 9 (cF zlT (zaa (vSh 2) (zaa (b2 zd6 (b2 ixD (vSh 7) (vC (.int 1))) (cF znT (zaa (b2 eqD (b2 ixD (vSh 7) (vC (.int 2))) (vC (.int 0))) zai))) zai)))) (zaA (zbg 10 (cF zqK (zaa (vC (.int 0)) (zaa (b2 zon (vSh 2) (b2 zd6 (b2 ixD (vSh 7) (vC (.int 4))) (cF znT (zaa (b2 eqD (b2 ixD (vSh 7) (vC (.int 2))) (vC (.int 1))) zai)))) zai)))) (zaA (zbg 8 (b2 zbf (slF (vSh 8) (pS (b2 zcn (b2 ixD (vSh 7) (vC (.int 5))) (vC (.int 2)))) pN) (slF (vSh 8) pN (pS (b2 zcn (b2 ixD (vSh 7) (vC (.int 5))) (vC (.int 2))))))) (zdp 3 (zbu (szF (zaa (cF zas (zaa (b2 zbf (vC (.int 70)) (vSh 5)) zai)) (zaa (vSh 9) (zaa (vSh 10) (zaa (b2 eqD (b2 ixD (vSh 7) (vC (.int 3))) (vC (.int 1))) (zaa (vSh 8) zai))))))))))) zb8))))
theorem zpU {h a : Int} (hh : 1 <= h) (ha : 0 <= a) : ∃ m, zlT [.int h, .int a] = some (.int m) /\ 0 <= m /\ m <= h := by
 refine ⟨_, rfl, ?_, ?_⟩
 ·omega
 ·omega
theorem zpX {h a : Int} (hh : 1 <= h) (ha : a <= h) : ∃ m, zqK [.int 0, .int a] = some (.int m) /\ 0 <= m /\ m <= h := by
 refine ⟨_, rfl, ?_, ?_⟩
 ·omega
 ·omega
theorem zmo {f : FE} {ρ : zaX} {a c : Int} (h : f ρ = some (.int a)) : ∃ b : Int, cF znT (zaa (b2 eqD f (vC (.int c))) zai) ρ = some (.int b) /\ 0 <= b /\ b <= 1 := by
 refine ⟨if decide (a = c) = true then 1 else 0, zaU (zaj (zau h rfl rfl) zaB) rfl, ?_, ?_⟩ <;> split <;> decide
theorem zp3 {cs : List Int} {h c : Int} {ss : List StepT} {js : List JobT} {lf : List Str} {i : Nat} {y z w v : Option Slot} (hh : 1 <= h) (hi : i < 3) (hs : ∀ x ∈ ss.map (·.nm), zaF x = true) (I : JInv (ss.map (·.nm)) h i js lf) (hsl : ss.length <= 40) :
  ∃ js' lf' y' z' w' v', zoF (jE cs ss h js lf (oS (.int i)) (oS (.int c)) y z w v) = some (.nx, jE cs ss h js' lf' (oS (.int i)) (oS (.int c)) y' z' w' v') /\ JInv (ss.map (·.nm)) h (i + 1) js' lf' := by
 obtain ⟨ds, e, hd, hbd⟩ := zcV c (i + 17) (by omega) [4, 3, 3, 2, 5, 7] (by decide) (by decide)
 obtain ⟨d0, q0, p0, r0⟩ := hbd 0 4 rfl
 obtain ⟨d1, q1, p1, _⟩ := hbd 1 3 rfl
 obtain ⟨d2, q2, p2, _⟩ := hbd 2 3 rfl
 obtain ⟨d3, q3, p3, _⟩ := hbd 3 2 rfl
 obtain ⟨d4, q4, p4, _⟩ := hbd 4 5 rfl
 obtain ⟨d5, q5, p5, _⟩ := hbd 5 7 rfl
 have hn := (ziL (k := 70 + i) (by omega)).1
 have hnb := (ziL (k := 70 + i) (by omega)).2
 have hn' : zas [.int (70 + (i : Int))] = some (.str (nm (70 + i))) := by rw [← hn]; congr 2
 have e17 : ((i : Int) + 17) = ((i + 17 : Nat) : Int) := by omega
 generalize hsm : lf.take d0.toNat = sm
 generalize hlf : lf.drop d0.toNat = lf'
 have hlf2 : lf = sm ++ lf' := by rw [← hsm, ← hlf, List.take_append_drop]
 have hslen : sm.length <= 3 := by rw [← hsm, List.length_take]; omega
 have hsml : sm.length + lf'.length = lf.length := by rw [hlf2, qi]
 have hsn : ∀ x ∈ sm, zaF x = true := fun x hx => hs x (I.sub x (List.mem_append_right _ (by rw [hlf2]; exact List.mem_append_left _ hx)))
 have eD : cF zag (zaa (vSh 6) (zaa (b2 zbf (vSh 5) (vC (.int 17))) (zaa (zaS (szF (zaa (vC (.int 4)) (zaa (vC (.int 3)) (zaa (vC (.int 3)) (zaa (vC (.int 2)) (zaa (vC (.int 5)) (zaa (vC (.int 7)) zai)))))))) zai))) (jE cs ss h js lf (oS (.int i)) (oS (.int c)) y z w v) = some (.lst (ds.map D.int)) :=
  zaU (zaj (d := .int c) rfl (zaj (d := .int ((i : Int) + 17)) (zau rfl rfl rfl) (zaj (zlW rfl rfl rfl rfl rfl rfl) zaB))) (by rw [e17]; exact e)
 have e8 : slF (vSh 4) pN (pS (b2 ixD (vSh 7) (vC (.int 0)))) (jE cs ss h js lf (oS (.int i)) (oS (.int c)) (oS (.lst (ds.map D.int))) z w v) = some (.lst (sm.map D.str)) := by
  rw [← hsm, List.map_take]
  exact zni rfl (zb0 rfl q0) p0
 have e4 : slF (vSh 4) (pS (b2 ixD (vSh 7) (vC (.int 0)))) pN (jE cs ss h js lf (oS (.int i)) (oS (.int c)) (oS (.lst (ds.map D.int))) (oS (.lst (sm.map D.str))) w v) = some (.lst (lf'.map D.str)) := by
  rw [← hlf, List.map_drop]
  exact znh rfl (zb0 rfl q0) p0
 have eT : toB (b2 neA (vSh 8) (zaS (szF zai))) (jE cs ss h js lf' (oS (.int i)) (oS (.int c)) (oS (.lst (ds.map D.int))) (oS (.lst (sm.map D.str))) w v) = some (!sm.isEmpty) := zaO (zau rfl (y := .lst []) rfl (zpS hsn))
 by_cases hem : sm.isEmpty = true
 ·have hsm0 : sm = [] := List.isEmpty_iff.mp hem
  rw [hem] at eT
  refine ⟨js, lf', _, _, _, _, (zaD eD).trans ((zaD e8).trans ((zaD e4).trans ((zfb eT).trans rfl))), ⟨by have := I.len; omega, ?_, ?_, by have := I.ll; omega, I.good, I.nmd, fun j hj => ?_⟩⟩
  ·have := I.nd; rw [hlf2, hsm0] at this; exact this
  ·have := I.sub; rw [hlf2, hsm0] at this; exact this
  ·obtain ⟨k, h1, h2⟩ := I.nmk j hj
   exact ⟨k, by omega, h2⟩
 ·have hem' : sm.isEmpty = false := by simpa using hem
  rw [hem'] at eT
  have hs1 : 1 <= sm.length := by
   cases sm with
   | nil => simp at hem
   | cons a b => simp
  obtain ⟨b1, f1, f2, f3⟩ := zmo (c := 0) (f := b2 ixD (vSh 7) (vC (.int 2))) (ρ := jE cs ss h js lf' (oS (.int i)) (oS (.int c)) (oS (.lst (ds.map D.int))) (oS (.lst (sm.map D.str))) w v) (zb0 rfl q2)
  obtain ⟨ea, m1, m2, m3⟩ := zpU (h := h) (a := d1 * b1) hh (Int.mul_nonneg p1 f2)
  have e9 : cF zlT (zaa (vSh 2) (zaa (b2 zd6 (b2 ixD (vSh 7) (vC (.int 1))) (cF znT (zaa (b2 eqD (b2 ixD (vSh 7) (vC (.int 2))) (vC (.int 0))) zai))) zai)) (jE cs ss h js lf' (oS (.int i)) (oS (.int c)) (oS (.lst (ds.map D.int))) (oS (.lst (sm.map D.str))) w v) = some (.int ea) :=
   zaU (zaj rfl (zaj (zau (zb0 rfl q1) f1 (zhh (.inr (by omega)))) zaB)) m1
  obtain ⟨b2', f4, f5, f6⟩ := zmo (c := 1) (f := b2 ixD (vSh 7) (vC (.int 2))) (ρ := jE cs ss h js lf' (oS (.int i)) (oS (.int c)) (oS (.lst (ds.map D.int))) (oS (.lst (sm.map D.str))) (oS (.int ea)) v) (zb0 rfl q2)
  obtain ⟨du, n1, n2, n3⟩ := zpX (h := h) (a := h - d4 * b2') hh (by have := Int.mul_nonneg p4 f5; omega)
  have e10 : cF zqK (zaa (vC (.int 0)) (zaa (b2 zon (vSh 2) (b2 zd6 (b2 ixD (vSh 7) (vC (.int 4))) (cF znT (zaa (b2 eqD (b2 ixD (vSh 7) (vC (.int 2))) (vC (.int 1))) zai)))) zai)) (jE cs ss h js lf' (oS (.int i)) (oS (.int c)) (oS (.lst (ds.map D.int))) (oS (.lst (sm.map D.str))) (oS (.int ea)) v) = some (.int du) :=
   zaU (zaj rfl (zaj (zau rfl (zau (zb0 rfl q4) f4 (zhh (.inr (by omega)))) rfl) zaB)) n1
  have t0 : 0 <= d5 % 2 := Int.emod_nonneg _ (by decide)
  generalize htt : (d5 % 2).toNat = t
  have hrl : (sm.drop t ++ sm.take t).length = sm.length := by rw [qi, List.length_drop, List.length_take]; omega
  have e8' : b2 zbf (slF (vSh 8) (pS (b2 zcn (b2 ixD (vSh 7) (vC (.int 5))) (vC (.int 2)))) pN) (slF (vSh 8) pN (pS (b2 zcn (b2 ixD (vSh 7) (vC (.int 5))) (vC (.int 2))))) (jE cs ss h js lf' (oS (.int i)) (oS (.int c)) (oS (.lst (ds.map D.int))) (oS (.lst (sm.map D.str))) (oS (.int ea)) (oS (.int du))) = some (.lst ((sm.drop t ++ sm.take t).map D.str)) := by
   refine zau (znh rfl (zau (zb0 rfl q5) rfl (zcq (by decide))) t0) (zni rfl (zau (zb0 rfl q5) rfl (zcq (by decide))) t0) ?_
   show (if _ then _ else _) = _
   rw [if_pos, htt, List.map_append, List.map_drop, List.map_take]
   rw [List.length_drop, List.length_take, qe]; unfold sizeLine; omega
  let J : JobT := ⟨nm (70 + i), ea, du, decide (d3 = 1), sm.drop t ++ sm.take t⟩
  have perm : (sm.drop t ++ sm.take t).Perm sm := (List.perm_append_comm).trans (by rw [List.take_append_drop])
  have pa : ((js ++ [J]).flatMap (·.ms) ++ lf').Perm (js.flatMap (·.ms) ++ lf) := by
   rw [List.flatMap_append, hlf2, List.append_assoc]
   refine List.Perm.append_left _ ?_
   rw [List.flatMap_singleton]
   exact List.Perm.append_right _ perm
  refine ⟨js ++ [J], lf', _, _, _, _, (zaD eD).trans ((zaD e8).trans ((zaD e4).trans ((zfb eT).trans ((if_pos rfl).trans ((zaD e9).trans ((zaD e10).trans ((zaD e8').trans (zds rfl (zlk (zaU (zaj (zau rfl rfl rfl) zaB) hn') rfl rfl (zau (zb0 rfl q3) rfl rfl) rfl) (by have := I.len; omega))))))))), ⟨?_, ?_, ?_, ?_, ?_, ?_, ?_⟩⟩
  ·rw [qi]; have := I.len; simp; omega
  ·exact (pa.nodup_iff).mpr I.nd
  ·exact fun x hx => I.sub x (pa.mem_iff.mp hx)
  ·have := I.ll; omega
  ·intro j hj
   rcases List.mem_append.mp hj with q | q
   ·exact I.good j q
   ·rw [List.mem_singleton.mp q]
    refine ⟨hnb, ⟨m2, m3⟩, ⟨n2, n3⟩, by show 1 <= (sm.drop t ++ sm.take t).length; omega, by show (sm.drop t ++ sm.take t).length <= _; have := I.ll; omega, fun m hm => ?_⟩
    exact I.sub m (List.mem_append_right _ (by rw [hlf2]; exact List.mem_append_left _ (perm.mem_iff.mp hm)))
  ·rw [List.map_append, List.nodup_append]
   refine ⟨I.nmd, by simp, fun a ha b hb hab => ?_⟩
   obtain ⟨j, hj, rfl⟩ := List.mem_map.mp ha
   obtain ⟨k, hk, hk2⟩ := I.nmk j hj
   have hb' : b = nm (70 + i) := by simpa using hb
   have := zpN k (by omega) i hi (hk2.symm.trans (hab.trans hb'))
   omega
  ·intro j hj
   rcases List.mem_append.mp hj with q | q
   ·obtain ⟨k, h1, h2⟩ := I.nmk j q
    exact ⟨k, by omega, h2⟩
   ·rw [List.mem_singleton.mp q]; exact ⟨i, by omega, rfl⟩
theorem znM (cs : List Int) (ss : List StepT) (h : Int) (hh : 1 <= h) (hl : cs.length <= 3) (hsl : ss.length <= 40) (hs : ∀ x ∈ ss.map (·.nm), zaF x = true) (snd : (ss.map (·.nm)).Nodup) : ∃ js : List JobT, zbV [.lst (cs.map D.int), .lst (ss.map zaN), .int h] = some (.lst (js.map zbK)) /\ js.length <= 3 /\ (∀ j ∈ js, GoodJ (ss.map (·.nm)) h j) /\ (js.map (·.nm)).Nodup /\ (js.flatMap (·.ms)).Nodup := by
 obtain ⟨ρ', h1, js, lf, a, b, c, d, e, f, h2, h3⟩ := zch (gg := zcG 2 (zaI (zaG 5) (zaI (zaG 6) zcF))) (body := zoF) (xs := (cs.map D.int).mapIdx fun i d => D.tup [.int i, d]) (ρ := jE cs ss h [] (ss.map (·.nm)) none none none none none none)
  (fun i ρ => ∃ js lf a b c d e f, ρ = jE cs ss h js lf a b c d e f /\ JInv (ss.map (·.nm)) h i js lf) ⟨[], ss.map (·.nm), none, none, none, none, none, none, rfl, ⟨qt _, by simpa using snd, fun x hx => (by simpa using hx), qt _, fun j hj => (by cases hj), by simp, fun j hj => (by cases hj)⟩⟩ (fun i x ρ hx hI => by
   obtain ⟨js, lf, a, b, c, d, e, f, rfl, I⟩ := hI
   obtain ⟨y, hy, rfl⟩ := zdW hx
   rw [qj] at hy
   obtain ⟨s, hsi, rfl⟩ := oMd hy
   have hi : i < cs.length := (List.getElem?_eq_some_iff.mp hsi).1
   obtain ⟨js', lf', y', z', w', v', e1, e2⟩ := zp3 (cs := cs) (h := h) (c := s) (ss := ss) (js := js) (lf := lf) (i := i) (y := c) (z := d) (w := e) (v := f) hh (by omega) hs I hsl
   exact ⟨_, _, rfl, e1, js', lf', _, _, _, _, _, _, rfl, e2⟩)
 rw [List.length_mapIdx, qe] at h3
 have nn := zcN (i := 1) (fv := [none]) (ρ := [oS (.lst (cs.map D.int)), oS (.lst (ss.map zaN)), oS (.int h), some (.own []), none, none, none, none, none, none, none]) (f := zaN) (nm := (·.nm)) (xs := ss) (fun x => ⟨_, rfl⟩) rfl (szN hsl (by decide)) rfl
 refine ⟨js, za1 [oS (.lst (cs.map D.int)), oS (.lst (ss.map zaN)), oS (.int h), none, none, none, none, none, none, none, none] rfl (zdI.trans ((zaD nn).trans ((zcb ((zcx (xs := (cs.map D.int).mapIdx fun i d => D.tup [.int i, d]) rfl).trans (h1.trans (by rw [h2])))).trans ((zdt rfl).trans (zaY (f := vSh 3) rfl))))), Nat.le_trans h3.len hl, h3.good, h3.nmd, ?_⟩
 exact (List.nodup_append.mp h3.nd).1
end Law
end
section
namespace Law
open PySem L2
theorem zoy (t : List Str) : pdD (.tup (t.map D.str)) = some (.tuple (t.map PyData.str)) := by simp [pdD, zhL]
theorem zlG : ∀ (ts : List (List Str)), zil (ts.map fun t => .tup (t.map D.str)) = some (ts.map fun t => .tuple (t.map PyData.str))
 | [] => by simp [zil]
 | t :: r => by simp [zil, zoy, zlG r]
theorem zkl : ∀ {ts : List (List Str)}, (∀ t ∈ ts, ∀ x ∈ t, zaF x = true) -> PyData.canLayAll0 (ts.map fun t => .tuple (t.map PyData.str)) = true
 | [], _ => by simp [PyData.canLayAll0]
 | t :: r, h => by
  simp only [ql, PyData.canLayAll0, PyData.canLay0, zeN (h t qf), Bool.true_and]
  exact zkl fun y hy => h y (qg _ hy)
theorem zhX : ∀ (a b : List Str), PyData.eqvAll (a.map PyData.str) (b.map PyData.str) = decide (a = b)
 | [], [] => by simp [PyData.eqvAll]
 | [], _ :: _ => by simp [PyData.eqvAll]
 | _ :: _, [] => by simp [PyData.eqvAll]
 | x :: r, y :: t => by
  simp only [ql, PyData.eqvAll, PyData.eqv, zhX r t]
  by_cases e : x = y
  ·subst e; simp
  ·simp [e]
theorem zkF (t : List Str) : ∀ (ts : List (List Str)), ((ts.map fun t => PyData.tuple (t.map PyData.str)).any fun z => PyData.eqv z (.tuple (t.map PyData.str))) = decide (t ∈ ts)
 | [] => by simp
 | y :: r => by
  rw [ql, List.any_cons, zkF t r]
  simp only [PyData.eqv, zhX]
  by_cases e : y = t
  ·subst e; simp
  ·have : t ≠ y := fun z => e z.symm
   simp [e, this]
theorem zhO {t : List Str} {ts : List (List Str)} (hx : ∀ x ∈ t, zaF x = true) (hn : ∀ y ∈ ts, ∀ x ∈ y, zaF x = true) : zeM (.tup (t.map D.str)) (.lst (ts.map fun t => .tup (t.map D.str))) = some (.bl (!decide (t ∈ ts))) := by
 have sh : SeqAt.shaped (.tuple (t.map PyData.str)) = true := by simp [SeqAt.shaped, PyData.canLay0, zeN hx, PyData.depth, zfe]
 have p1 : pdD (.lst (ts.map fun t => .tup (t.map D.str))) = some (.list (ts.map fun t => .tuple (t.map PyData.str))) := by simp [pdD, zlG]
 unfold zeM inX
 rw [zoy, p1, qa, qa]
 simp only [sh, zkl hn, and_self, if_true, zkF, qd]
theorem ziE {α : Type} {f : α -> D} {nm : α -> Str} {xs : List α} {ρ : zaX} {fo g : FE} {d : Int} (hf : ∀ x, ∃ r, f x = .tup (.str (nm x) :: r)) (h1 : fo ρ = some (.lst (xs.map f))) (h2 : g ρ = some (.int d)) (h3 : 0 <= d) (h4 : d < xs.length) : ∃ x ∈ xs, b2 ixD (b2 ixD fo g) (vC (.int 0)) ρ = some (.str (nm x)) := by
 obtain ⟨n, rfl⟩ := Int.eq_ofNat_of_zero_le h3
 have hd : n < xs.length := by omega
 refine ⟨xs[n], List.getElem_mem hd, zau (zau h1 h2 (show ixD _ (.int (n : Int)) = some (f xs[n]) by rw [ixL, qj, List.getElem?_eq_getElem hd]; rfl)) rfl ?_⟩
 obtain ⟨r, e⟩ := hf xs[n]
 rw [e, zhk]
theorem zs6 {f g : FE} {ρ : zaX} {ds : List Int} {n : Nat} {m d : Int} (h1 : f ρ = some (.lst (ds.map D.int))) (h2 : g ρ = some (.int m)) (hm : m = (n : Int)) (h3 : ds[n]? = some d) : b2 ixD f g ρ = some (.int d) :=
 zau h1 h2 (by rw [hm, ixL, qj, h3]; rfl)
theorem ziR {f : FE} {ρ : zaX} {l : List D} (h : f ρ = some (.lst l)) : cF zcT (zaa f zai) ρ = some (.int (l.length : Nat)) := zaU (zaj h zaB) rfl
theorem zmR {i : Nat} {ft : FT} {ρ : zaX} {ds : List D} {b : Bool} (h1 : ρ[i]? = some (some (.own ds))) (h2 : ft (ρ.set i (oS (.lst ds))) = some b) : bwT i ft ρ = some b := by
 unfold bwT; rw [h1]; exact h2
theorem znJ {x : List D} {j : Int} (h : -(2 ^ 63) <= j /\ j < 2 ^ 63 /\ x.length * j.toNat <= sizeLine) : zd6 (.lst x) (.int j) = some (.lst (List.replicate j.toNat x).flatten) := if_pos h
theorem zs5 : zd6 (.lst [.int 4]) (.int 6) = some (.lst (([4, 4, 4, 4, 4, 4] : List Int).map D.int)) := znJ (x := [.int 4]) (j := 6) (by decide)
structure UInv (bn : List Str) (h : Int) (i : Nat) (us : List SetT) : Prop where
 len : us.length <= i
 good : ∀ u ∈ us, GoodU bn h u
 nd : (us.map fun u => [u.b, u.p, u.q]).Nodup
abbrev uE (c : Int) (bs : List BenchT) (h : Int) (us : List SetT) (a b d e : Option Slot) : zaX := [oS (.int c), oS (.lst (bs.map zaZ)), oS (.int h), some (.own (us.map zea)), a, b, d, e]
def zoo : FS := (zaA (zbg 6 (b2 ixD (b2 ixD (vSh 1) (b2 zcn (vSh 4) (cF zcT (zaa (vSh 1) zai)))) (vC (.int 0)))) (zaA (zbg 7 (zbu (szF (zaa (vSh 6) (zaa (b2 ixD (vC (.str "pqr")) (b2 zcn (vSh 4) (vC (.int 3)))) (zaa (b2 ixD (vC (.str "pqr")) (b2 zcn (b2 zbf (vSh 4) (vSh 5)) (vC (.int 3)))) (zaa (cF zlT (zaa (vSh 2) (zaa (vSh 5) zai))) zai))))))) (sIf (bwT 3 (zfz (toB (b2 gtD (vSh 5) (vC (.int 0)))) (toB (b2 zeM (slF (vSh 7) pN (pS (vC (.int 3)))) (zaS (zaE (itF (vSh 3)) (zaG 0) tT (slF (vSh 0) pN (pS (vC (.int 3)))) [none])))))) (zdp 3 (vSh 7)) zb8)))
theorem zo0 {c h m : Int} {bs : List BenchT} {us : List SetT} {i : Nat} {y z : Option Slot} (hh : 1 <= h) (hm : 0 <= m) (hi : i < 6) (hb : 1 <= bs.length) (hbn : ∀ x ∈ bs.map (·.nm), zaF x = true) (I : UInv (bs.map (·.nm)) h i us) :
  ∃ us' y' z', zoo (uE c bs h us (oS (.int i)) (oS (.int m)) y z) = some (.nx, uE c bs h us' (oS (.int i)) (oS (.int m)) y' z') /\ UInv (bs.map (·.nm)) h (i + 1) us' := by
 have k0 : 0 <= (i : Int) % (bs.length : Nat) := Int.emod_nonneg _ (by omega)
 have k1 : (i : Int) % (bs.length : Nat) < (bs.length : Nat) := Int.emod_lt_of_pos _ (by omega)
 obtain ⟨b, hbm, e6⟩ := ziE (f := zaZ) (nm := (·.nm)) (xs := bs) (ρ := uE c bs h us (oS (.int i)) (oS (.int m)) y z) (fo := vSh 1) (g := b2 zcn (vSh 4) (cF zcT (zaa (vSh 1) zai))) (d := (i : Int) % (bs.length : Nat)) (fun x => ⟨_, rfl⟩) rfl (zau rfl (ziR rfl) (by rw [qe]; exact zcq (by omega))) k0 k1
 have t0 : 0 <= (i : Int) % 3 := Int.emod_nonneg _ (by decide)
 have t1 : (i : Int) % 3 < 3 := Int.emod_lt_of_pos _ (by decide)
 have s0 : 0 <= ((i : Int) + m) % 3 := Int.emod_nonneg _ (by decide)
 have s1 : ((i : Int) + m) % 3 < 3 := Int.emod_lt_of_pos _ (by decide)
 let U : SetT := ⟨b.nm, pqr ((i : Int) % 3).toNat, pqr (((i : Int) + m) % 3).toNat, if m < h then m else h⟩
 have e7 : zbu (szF (zaa (vSh 6) (zaa (b2 ixD (vC (.str "pqr")) (b2 zcn (vSh 4) (vC (.int 3)))) (zaa (b2 ixD (vC (.str "pqr")) (b2 zcn (b2 zbf (vSh 4) (vSh 5)) (vC (.int 3)))) (zaa (cF zlT (zaa (vSh 2) (zaa (vSh 5) zai))) zai))))) (uE c bs h us (oS (.int i)) (oS (.int m)) (oS (.str b.nm)) z) = some (zea U) :=
  zoX rfl (zau rfl (zau rfl rfl (zcq (by decide))) (zlA t0 t1)) (zau rfl (zau (zau rfl rfl rfl) rfl (zcq (by decide))) (zlA s0 s1)) (zaU (zaj rfl (zaj rfl zaB)) rfl)
 have nU : ∀ x ∈ [U.b, U.p, U.q], zaF x = true := fun x hx => by
  simp only [List.mem_cons, List.not_mem_nil, or_false] at hx
  rcases hx with rfl | rfl | rfl
  ·exact hbn _ (List.mem_map_of_mem hbm)
  ·exact zhd _ (by omega)
  ·exact zhd _ (by omega)
 have nA : ∀ y ∈ us.map (fun u => [u.b, u.p, u.q]), ∀ x ∈ y, zaF x = true := fun y hy x hx => by
  obtain ⟨u, hu, rfl⟩ := List.mem_map.mp hy
  have g := I.good u hu
  simp only [List.mem_cons, List.not_mem_nil, or_false] at hx
  rcases hx with rfl | rfl | rfl
  ·exact hbn _ g.b
  ·exact g.p
  ·exact g.q
 have hul : us.length <= 6 := Nat.le_trans I.len (by omega)
 have eL : zaS (zaE (itF (vSh 3)) (zaG 0) tT (slF (vSh 0) pN (pS (vC (.int 3)))) [none]) [oS (.int c), oS (.lst (bs.map zaZ)), oS (.int h), oS (.lst (us.map zea)), oS (.int i), oS (.int m), oS (.str b.nm), oS (zea U)] = some (.lst ((us.map fun u => [u.b, u.p, u.q]).map fun t => .tup (t.map D.str))) := by
  rw [qm]
  refine (zbj (r := []) (a := none) (xs := us.map zea) (f := fun d => match d with | .tup [a, b, c, d] => .tup [a, b, c] | _ => .non) rfl (by rw [qe]; exact szN hul (by decide)) rfl fun x hx => ?_).trans ?_
  ·obtain ⟨p, hp, rfl⟩ := List.mem_map.mp hx
   simp only [vSh, vC, slF, pN, pS, qb, qa, zea, ztj]
  ·rw [qm]; rfl
 have eT : bwT 3 (zfz (toB (b2 gtD (vSh 5) (vC (.int 0)))) (toB (b2 zeM (slF (vSh 7) pN (pS (vC (.int 3)))) (zaS (zaE (itF (vSh 3)) (zaG 0) tT (slF (vSh 0) pN (pS (vC (.int 3)))) [none]))))) (uE c bs h us (oS (.int i)) (oS (.int m)) (oS (.str b.nm)) (oS (zea U))) = some (decide (0 < m) && !decide ([U.b, U.p, U.q] ∈ us.map fun u => [u.b, u.p, u.q])) :=
  zmR rfl (zgE (zaO (zau rfl rfl rfl)) (zaO (zau (x := .tup ([U.b, U.p, U.q].map D.str)) rfl eL (zhO nU nA))))
 by_cases ht : (decide (0 < m) && !decide ([U.b, U.p, U.q] ∈ us.map fun u => [u.b, u.p, u.q])) = true
 ·have hq : 0 < m /\ [U.b, U.p, U.q] ∉ us.map fun u => [u.b, u.p, u.q] := by simpa using ht
  refine ⟨us ++ [U], _, _, (zaD e6).trans ((zaD e7).trans ((zfb eT).trans ((if_pos ht).trans (zds (x := U) rfl rfl (by omega))))), ⟨?_, ?_, ?_⟩⟩
  ·rw [qi]; have := I.len; simp; omega
  ·intro u hu
   rcases List.mem_append.mp hu with q | q
   ·exact I.good u q
   ·rw [List.mem_singleton.mp q]
    refine ⟨List.mem_map_of_mem hbm, zhd _ (by omega), zhd _ (by omega), ?_, ?_⟩
    ·show 1 <= if m < h then m else h
     split <;> omega
    ·show (if m < h then m else h) <= h
     split <;> omega
  ·rw [List.map_append, List.nodup_append]
   refine ⟨I.nd, by simp, fun a ha b' hb' hab => ?_⟩
   have : b' = [U.b, U.p, U.q] := by simpa using hb'
   rw [hab, this] at ha
   exact hq.2 ha
 ·exact ⟨us, _, _, (zaD e6).trans ((zaD e7).trans ((zfb eT).trans ((if_neg ht).trans rfl))), ⟨by have := I.len; omega, I.good, I.nd⟩⟩
theorem zkW (c : Int) (bs : List BenchT) (h : Int) (hh : 1 <= h) (hb : 1 <= bs.length) (hbn : ∀ x ∈ bs.map (·.nm), zaF x = true) : ∃ us : List SetT, zbq [.int c, .lst (bs.map zaZ), .int h] = some (.lst (us.map zea)) /\ us.length <= 6 /\ (∀ u ∈ us, GoodU (bs.map (·.nm)) h u) /\ (us.map fun u => [u.b, u.p, u.q]).Nodup := by
 obtain ⟨ds, e, hd, hbd⟩ := zcV c 3 (by omega) [4, 4, 4, 4, 4, 4] (by decide) (by decide)
 have eM : b2 zd6 (zaS (szF (zaa (vC (.int 4)) zai))) (vC (.int 6)) (uE c bs h [] none none none none) = some (.lst (([4, 4, 4, 4, 4, 4] : List Int).map D.int)) :=
  zau (x := .lst [.int 4]) (y := .int 6) rfl rfl zs5
 have hd6 : ds.length = 6 := hd
 obtain ⟨ρ', h1, us, a, b, d, f, h2, h3⟩ := zch (gg := zcG 2 (zaI (zaG 4) (zaI (zaG 5) zcF))) (body := zoo) (xs := (ds.map D.int).mapIdx fun i d => D.tup [.int i, d]) (ρ := uE c bs h [] none none none none)
  (fun i ρ => ∃ us a b d e, ρ = uE c bs h us a b d e /\ UInv (bs.map (·.nm)) h i us) ⟨[], none, none, none, none, rfl, ⟨qt _, fun j hj => (by cases hj), by simp⟩⟩ (fun i x ρ hx hI => by
   obtain ⟨us, a, b, d, e, rfl, I⟩ := hI
   obtain ⟨y, hy, rfl⟩ := zdW hx
   rw [qj] at hy
   obtain ⟨s, hsi, rfl⟩ := oMd hy
   have hi : i < ds.length := (List.getElem?_eq_some_iff.mp hsi).1
   have hs0 : 0 <= s := by
    have h6 : i < 6 := by omega
    have : ([4, 4, 4, 4, 4, 4] : List Int)[i]? = some 4 := by
     have : i = 0 \/ i = 1 \/ i = 2 \/ i = 3 \/ i = 4 \/ i = 5 := by omega
     rcases this with rfl | rfl | rfl | rfl | rfl | rfl <;> rfl
    obtain ⟨d, q1, q2, _⟩ := hbd i 4 this
    rw [hsi] at q1
    cases q1
    exact q2
   obtain ⟨us', y', z', e1, e2⟩ := zo0 (c := c) (h := h) (m := s) (bs := bs) (us := us) (i := i) (y := d) (z := e) hh hs0 (by omega) hb hbn I
   exact ⟨_, _, rfl, e1, us', _, _, _, _, rfl, e2⟩)
 rw [List.length_mapIdx, qe] at h3
 have eI : itE (cF zag (zaa (vSh 0) (zaa (vC (.int 3)) (zaa (b2 zd6 (zaS (szF (zaa (vC (.int 4)) zai))) (vC (.int 6))) zai)))) (uE c bs h [] none none none none) = some ((ds.map D.int).mapIdx fun i d => D.tup [.int i, d]) := by
  have : cF zag (zaa (vSh 0) (zaa (vC (.int 3)) (zaa (b2 zd6 (zaS (szF (zaa (vC (.int 4)) zai))) (vC (.int 6))) zai))) (uE c bs h [] none none none none) = some (.lst (ds.map D.int)) := zaU (zaj rfl (zaj rfl (zaj eM zaB))) e
  unfold itE
  rw [this]; rfl
 exact ⟨us, za1 [oS (.int c), oS (.lst (bs.map zaZ)), oS (.int h), none, none, none, none, none] rfl (zdI.trans ((zcb ((zcx eI).trans (h1.trans (by rw [h2])))).trans ((zdt rfl).trans (zaY (f := vSh 3) rfl)))), by have := h3.len; omega, h3.good, h3.nd⟩
structure LInv (sn : List Str) (h : Int) (i : Nat) (ls : List LinkT) : Prop where
 len : ls.length <= i
 good : ∀ l ∈ ls, GoodL sn h l
 nd : (ls.map fun l => [l.a, l.b]).Nodup
abbrev lE (c : Int) (ss : List StepT) (h : Int) (ls : List LinkT) (ds : List Int) (a b d : Option Slot) : zaX := [oS (.int c), oS (.lst (ss.map zaN)), oS (.int h), some (.own (ls.map za9)), oS (.lst (ds.map D.int)), a, b, d]
def zoB : FS := (zaA (zbg 6 (b2 ixD (b2 ixD (vSh 1) (b2 zcn (b2 ixD (vSh 4) (b2 zbf (vC (.int 1)) (b2 zd6 (vC (.int 3)) (vSh 5)))) (cF zcT (zaa (vSh 1) zai)))) (vC (.int 0)))) (zaA (zbg 7 (b2 ixD (b2 ixD (vSh 1) (b2 zcn (b2 ixD (vSh 4) (b2 zbf (vC (.int 2)) (b2 zd6 (vC (.int 3)) (vSh 5)))) (cF zcT (zaa (vSh 1) zai)))) (vC (.int 0)))) (sIf (bwT 3 (zfz (toB (b2 neA (vSh 6) (vSh 7))) (toB (b2 zeM (zbu (szF (zaa (vSh 6) (zaa (vSh 7) zai)))) (zaS (zaE (itF (vSh 3)) (zaG 0) tT (slF (vSh 0) pN (pS (vC (.int 2)))) [none])))))) (zdp 3 (zbu (szF (zaa (vSh 6) (zaa (vSh 7) (zaa (cF zlT (zaa (vSh 2) (zaa (b2 ixD (vSh 4) (b2 zbf (vC (.int 3)) (b2 zd6 (vC (.int 3)) (vSh 5)))) zai))) zai)))))) zb8)))
theorem zp0 {c h : Int} {ss : List StepT} {ls : List LinkT} {ds : List Int} {i : Nat} {y z : Option Slot} (hh : 1 <= h) (hi : i < 2) (hs1 : 1 <= ss.length) (hsn : ∀ x ∈ ss.map (·.nm), zaF x = true) (hds : ∀ j, j < 7 -> ∃ d, ds[j]? = some d /\ 0 <= d) (I : LInv (ss.map (·.nm)) h i ls) :
  ∃ ls' y' z', zoB (lE c ss h ls ds (oS (.int (0 + (i : Int)))) y z) = some (.nx, lE c ss h ls' ds (oS (.int (0 + (i : Int)))) y' z') /\ LInv (ss.map (·.nm)) h (i + 1) ls' := by
 obtain ⟨x1, q1, p1⟩ := hds (1 + 3 * i) (by omega)
 obtain ⟨x2, q2, p2⟩ := hds (2 + 3 * i) (by omega)
 obtain ⟨x3, q3, p3⟩ := hds (3 + 3 * i) (by omega)
 have ixs : ∀ (n : Nat) (y z : Option Slot) (lst : List D) (x : Int) (k : Int), k = (n : Int) -> ds[n + 3 * i]? = some x -> ∀ s3 : Option Slot, b2 ixD (vSh 4) (b2 zbf (vC (.int k)) (b2 zd6 (vC (.int 3)) (vSh 5))) [oS (.int c), oS (.lst (ss.map zaN)), oS (.int h), s3, oS (.lst (ds.map D.int)), oS (.int (0 + (i : Int))), y, z] = some (.int x) := fun n y z _ x k hk hx s3 =>
  zs6 (n := n + 3 * i) rfl (zau rfl (zau rfl rfl (zhh (.inl (by decide)))) rfl) (by omega) hx
 have m1 : ∀ x : Int, 0 <= x % (ss.length : Nat) /\ x % (ss.length : Nat) < (ss.length : Nat) := fun x => ⟨Int.emod_nonneg _ (by omega), Int.emod_lt_of_pos _ (by omega)⟩
 obtain ⟨sa, ha, e6⟩ := ziE (f := zaN) (nm := (·.nm)) (xs := ss) (ρ := lE c ss h ls ds (oS (.int (0 + (i : Int)))) y z) (fo := vSh 1) (g := b2 zcn (b2 ixD (vSh 4) (b2 zbf (vC (.int 1)) (b2 zd6 (vC (.int 3)) (vSh 5)))) (cF zcT (zaa (vSh 1) zai))) (d := x1 % (ss.length : Nat)) (fun x => ⟨_, rfl⟩) rfl (zau (ixs 1 y z [] x1 1 rfl q1 _) (ziR rfl) (by rw [qe]; exact zcq (by omega))) (m1 x1).1 (m1 x1).2
 obtain ⟨sb, hb, e7⟩ := ziE (f := zaN) (nm := (·.nm)) (xs := ss) (ρ := lE c ss h ls ds (oS (.int (0 + (i : Int)))) (oS (.str sa.nm)) z) (fo := vSh 1) (g := b2 zcn (b2 ixD (vSh 4) (b2 zbf (vC (.int 2)) (b2 zd6 (vC (.int 3)) (vSh 5)))) (cF zcT (zaa (vSh 1) zai))) (d := x2 % (ss.length : Nat)) (fun x => ⟨_, rfl⟩) rfl (zau (ixs 2 _ z [] x2 2 rfl q2 _) (ziR rfl) (by rw [qe]; exact zcq (by omega))) (m1 x2).1 (m1 x2).2
 let U : LinkT := ⟨sa.nm, sb.nm, if x3 < h then x3 else h⟩
 have nU : ∀ x ∈ [U.a, U.b], zaF x = true := fun x hx => by
  simp only [List.mem_cons, List.not_mem_nil, or_false] at hx
  rcases hx with rfl | rfl
  ·exact hsn _ (List.mem_map_of_mem ha)
  ·exact hsn _ (List.mem_map_of_mem hb)
 have nA : ∀ y ∈ ls.map (fun l => [l.a, l.b]), ∀ x ∈ y, zaF x = true := fun y hy x hx => by
  obtain ⟨u, hu, rfl⟩ := List.mem_map.mp hy
  have g := I.good u hu
  simp only [List.mem_cons, List.not_mem_nil, or_false] at hx
  rcases hx with rfl | rfl
  ·exact hsn _ g.a
  ·exact hsn _ g.b
 have hul : ls.length <= 2 := Nat.le_trans I.len (by omega)
 have eL : zaS (zaE (itF (vSh 3)) (zaG 0) tT (slF (vSh 0) pN (pS (vC (.int 2)))) [none]) [oS (.int c), oS (.lst (ss.map zaN)), oS (.int h), oS (.lst (ls.map za9)), oS (.lst (ds.map D.int)), oS (.int (0 + (i : Int))), oS (.str sa.nm), oS (.str sb.nm)] = some (.lst ((ls.map fun l => [l.a, l.b]).map fun t => .tup (t.map D.str))) := by
  rw [qm]
  refine (zbj (r := []) (a := none) (xs := ls.map za9) (f := fun d => match d with | .tup [a, b, c] => .tup [a, b] | _ => .non) rfl (by rw [qe]; exact szN hul (by decide)) rfl fun x hx => ?_).trans ?_
  ·obtain ⟨p, hp, rfl⟩ := List.mem_map.mp hx
   simp only [vSh, vC, slF, pN, pS, qb, qa, za9, zsy]
  ·rw [qm]; rfl
 have eT : bwT 3 (zfz (toB (b2 neA (vSh 6) (vSh 7))) (toB (b2 zeM (zbu (szF (zaa (vSh 6) (zaa (vSh 7) zai)))) (zaS (zaE (itF (vSh 3)) (zaG 0) tT (slF (vSh 0) pN (pS (vC (.int 2)))) [none]))))) (lE c ss h ls ds (oS (.int (0 + (i : Int)))) (oS (.str sa.nm)) (oS (.str sb.nm))) = some ((!decide (sa.nm = sb.nm)) && !decide ([U.a, U.b] ∈ ls.map fun l => [l.a, l.b])) :=
  zmR rfl (zgE (zaO (zau rfl rfl (zjy _ _))) (zaO (zau (x := .tup ([U.a, U.b].map D.str)) (zcp rfl rfl) eL (zhO nU nA))))
 by_cases ht : ((!decide (sa.nm = sb.nm)) && !decide ([U.a, U.b] ∈ ls.map fun l => [l.a, l.b])) = true
 ·have hq : sa.nm ≠ sb.nm /\ [U.a, U.b] ∉ ls.map fun l => [l.a, l.b] := by simpa using ht
  refine ⟨ls ++ [U], _, _, (zaD e6).trans ((zaD e7).trans ((zfb eT).trans ((if_pos ht).trans (zds (x := U) rfl (zfV rfl rfl (zaU (zaj rfl (zaj (ixs 3 _ _ [] x3 3 rfl q3 _) zaB)) rfl)) (by omega))))), ⟨?_, ?_, ?_⟩⟩
  ·rw [qi]; have := I.len; simp; omega
  ·intro u hu
   rcases List.mem_append.mp hu with q | q
   ·exact I.good u q
   ·rw [List.mem_singleton.mp q]
    refine ⟨List.mem_map_of_mem ha, List.mem_map_of_mem hb, hq.1, ?_, ?_⟩
    ·show 0 <= if x3 < h then x3 else h
     split <;> omega
    ·show (if x3 < h then x3 else h) <= h
     split <;> omega
  ·rw [List.map_append, List.nodup_append]
   refine ⟨I.nd, by simp, fun a ha b' hb' hab => ?_⟩
   have : b' = [U.a, U.b] := by simpa using hb'
   rw [hab, this] at ha
   exact hq.2 ha
 ·exact ⟨ls, _, _, (zaD e6).trans ((zaD e7).trans ((zfb eT).trans ((if_neg ht).trans rfl))), ⟨by have := I.len; omega, I.good, I.nd⟩⟩
theorem zlw {n i : Nat} {x : D} (h : ((List.range n).map fun k : Nat => D.int (0 + k))[i]? = some x) : i < n /\ x = .int (0 + (i : Int)) := by
 rw [qj] at h
 obtain ⟨k, hk, rfl⟩ := oMd h
 rw [List.getElem?_eq_some_iff] at hk
 obtain ⟨h1, h2⟩ := hk
 rw [List.length_range] at h1
 rw [List.getElem_range] at h2
 subst h2
 exact ⟨h1, rfl⟩
theorem zl1 (c : Int) (ss : List StepT) (h : Int) (hh : 1 <= h) (hs1 : 1 <= ss.length) (hsn : ∀ x ∈ ss.map (·.nm), zaF x = true) : ∃ ls : List LinkT, zbF [.int c, .lst (ss.map zaN), .int h] = some (.lst (ls.map za9)) /\ ls.length <= 2 /\ (∀ l ∈ ls, GoodL (ss.map (·.nm)) h l) /\ (ls.map fun l => [l.a, l.b]).Nodup := by
 obtain ⟨ds, e, hd, hbd⟩ := zcV c 5 (by omega) [3, 9, 9, 4, 9, 9, 4] (by decide) (by decide)
 have hds : ∀ j, j < 7 -> ∃ d, ds[j]? = some d /\ 0 <= d := fun j hj => by
  have : ∃ s, ([3, 9, 9, 4, 9, 9, 4] : List Int)[j]? = some s := ⟨_, List.getElem?_eq_getElem (by simpa using hj)⟩
  obtain ⟨s, hs⟩ := this
  obtain ⟨d, q1, q2, _⟩ := hbd j s hs
  exact ⟨d, q1, q2⟩
 obtain ⟨d0, q0, p0, r0⟩ := hbd 0 3 rfl
 obtain ⟨ρ', h1, ls, a, b, d, h2, h3⟩ := zch (gg := zaG 5) (body := zoB) (xs := (List.range d0.toNat).map fun k : Nat => D.int (0 + k)) (ρ := lE c ss h [] ds none none none)
  (fun i ρ => ∃ ls a b d, ρ = lE c ss h ls ds a b d /\ LInv (ss.map (·.nm)) h i ls) ⟨[], none, none, none, rfl, ⟨qt _, fun j hj => (by cases hj), by simp⟩⟩ (fun i x ρ hx hI => by
   obtain ⟨ls, a, b, d, rfl, I⟩ := hI
   obtain ⟨hi, rfl⟩ := zlw hx
   obtain ⟨ls', y', z', e1, e2⟩ := zp0 (c := c) (h := h) (ss := ss) (ls := ls) (ds := ds) (i := i) (y := b) (z := d) hh (by omega) hs1 hsn hds I
   exact ⟨_, _, rfl, e1, ls', _, _, _, rfl, e2⟩)
 rw [qe, List.length_range] at h3
 have eS : cF zag (zaa (vSh 0) (zaa (vC (.int 5)) (zaa (zaS (szF (zaa (vC (.int 3)) (zaa (vC (.int 9)) (zaa (vC (.int 9)) (zaa (vC (.int 4)) (zaa (vC (.int 9)) (zaa (vC (.int 9)) (zaa (vC (.int 4)) zai))))))))) zai))) [oS (.int c), oS (.lst (ss.map zaN)), oS (.int h), some (.own []), none, none, none, none] = some (.lst (ds.map D.int)) :=
  zaU (zaj rfl (zaj rfl (zaj (zjE rfl rfl rfl rfl rfl rfl rfl) zaB))) e
 have eI : itR ziF (zaa (b2 ixD (vSh 4) (vC (.int 0))) zai) (lE c ss h [] ds none none none) = some ((List.range d0.toNat).map fun k : Nat => D.int (0 + k)) := zgj (zaj (zb0 (n := 0) rfl q0) zaB) (ze8 ⟨p0, by omega⟩)
 exact ⟨ls, za1 [oS (.int c), oS (.lst (ss.map zaN)), oS (.int h), none, none, none, none, none] rfl (zdI.trans ((zaD eS).trans ((zcb ((zcx eI).trans (h1.trans (by rw [h2])))).trans ((zdt rfl).trans (zaY (f := vSh 3) rfl))))), by have := h3.len; omega, h3.good, h3.nd⟩
end Law
end
section
namespace Law
open PySem L2
theorem zmK {ft : FT} {fe : FE} {r : zaX} {v : Int} (ht : ∀ (j : Nat) (s : StepT), ∃ q : Bool, ft (oS (.int (j : Int)) :: oS (zaN s) :: r) = some q) (he : ∀ (j : Nat) (s : StepT), fe (oS (.int (j : Int)) :: oS (zaN s) :: r) = some (dW (s.nm, v))) :
  ∀ (ss : List StepT) (F : Nat -> Nat) (a b : Option Slot), ∃ sub : List StepT, sub.Sublist ss /\ zfL (zcG 2 (zaI (zaG 0) (zaI (zaG 1) zcF))) ft fe ((ss.map zaN).mapIdx fun i d => D.tup [.int (F i : Nat), d]) (a :: b :: r) = some (sub.map fun s => dW (s.nm, v))
 | [], _, _, _ => ⟨[], .slnil, rfl⟩
 | s :: ss, F, a, b => by
  obtain ⟨sub, h1, h2⟩ := zmK ht he ss (fun i => F (i + 1)) (oS (.int (F 0 : Nat))) (oS (zaN s))
  obtain ⟨q, hq⟩ := ht (F 0) s
  have e0 : zcG 2 (zaI (zaG 0) (zaI (zaG 1) zcF)) (.tup [.int (F 0 : Nat), zaN s]) (a :: b :: r) = some (oS (.int (F 0 : Nat)) :: oS (zaN s) :: r) := rfl
  rw [ql, List.mapIdx_cons]
  cases q with
  | true =>
   refine ⟨s :: sub, h1.cons_cons s, ?_⟩
   simp only [zfL, e0, qa, hq, if_true, he, h2, qd, ql]
  | false =>
   refine ⟨sub, h1.cons s, ?_⟩
   simp only [zfL, e0, qa, hq, qo, if_false, h2]
def tkT (n : Int) : FT := toB (b2 eqD (b2 zcn (b2 zet (b2 zbf (b2 ixD (vSh 2) (vC (.int n))) (vSh 3)) (b2 ixD (zaS (szF (zaa (vC (.int 1)) (zaa (vC (.int 2)) (zaa (vC (.int 4)) zai))))) (b2 zcn (vSh 0) (vC (.int 3))))) (vC (.int 2))) (vC (.int 1)))
def tkE (n : Int) : FE := zbu (szF (zaa (b2 ixD (vSh 1) (vC (.int 0))) (zaa (b2 zbf (vC (.int 1)) (b2 ixD (vSh 2) (vC (.int n)))) zai)))
def tkC (n m : Int) : FE := zaS (zaE (itE (vSh 1)) (zcG 2 (zaI (zaG 0) (zaI (zaG 1) zcF))) (tkT n) (tkE m) [none, none, some 2, some 4])
abbrev kE (c : Int) (ss : List StepT) (ds : List Int) (ks : List StockT) (k a b d : Option Slot) : zaX := [oS (.int c), oS (.lst (ss.map zaN)), oS (.lst (ds.map D.int)), some (.own (ks.map zb7)), k, a, b, d]
theorem zj4 {c k : Int} {ss : List StepT} {ds : List Int} {ks : List StockT} {a b d : Option Slot} {n m : Nat} {x v : Int} (hl : ss.length <= 40) (hn : ds[n]? = some x) (hm : ds[m]? = some v) :
  ∃ sub : List StepT, sub.Sublist ss /\ tkC (n : Int) (m : Int) (kE c ss ds ks (oS (.int k)) a b d) = some (.lst ((sub.map fun s => (s.nm, 1 + v)).map dW)) := by
 have ht : ∀ (j : Nat) (s : StepT), ∃ q : Bool, tkT (n : Int) (oS (.int (j : Int)) :: oS (zaN s) :: [oS (.lst (ds.map D.int)), oS (.int k)]) = some q := fun j s => by
  have m0 : 0 <= (j : Int) % 3 := Int.emod_nonneg _ (by decide)
  have m1 : (j : Int) % 3 < 3 := Int.emod_lt_of_pos _ (by decide)
  obtain ⟨w, hw, hw1⟩ : ∃ w : Int, ixD (.lst [.int 1, .int 2, .int 4]) (.int ((j : Int) % 3)) = some (.int w) /\ (0 < w /\ w < 1073741824) := by
   have : (j : Int) % 3 = 0 \/ (j : Int) % 3 = 1 \/ (j : Int) % 3 = 2 := by omega
   rcases this with z | z | z <;> rw [z]
   ·exact ⟨1, rfl, by decide⟩
   ·exact ⟨2, rfl, by decide⟩
   ·exact ⟨4, rfl, by decide⟩
  exact ⟨_, zaO (zau (zau (zau (zau (zb0 rfl hn) rfl rfl) (zau (zhP rfl rfl rfl) (zau rfl rfl (zcq (by decide))) hw) (zhW hw1)) rfl (zcq (by decide))) rfl rfl)⟩
 have he : ∀ (j : Nat) (s : StepT), tkE (m : Int) (oS (.int (j : Int)) :: oS (zaN s) :: [oS (.lst (ds.map D.int)), oS (.int k)]) = some (dW (s.nm, 1 + v)) := fun j s =>
  zcp (zau rfl rfl zhk) (zau rfl (zb0 rfl hm) rfl)
 obtain ⟨sub, h1, h2⟩ := zmK ht he ss (fun i => i) none none
 refine ⟨sub, h1, ?_⟩
 have e1 : itE (vSh 1) (kE c ss ds ks (oS (.int k)) a b d) = some ((ss.map zaN).mapIdx fun i d => D.tup [.int i, d]) := rfl
 have e2 : zdZ [none, none, some 2, some 4] (kE c ss ds ks (oS (.int k)) a b d) = none :: none :: [oS (.lst (ds.map D.int)), oS (.int k)] := rfl
 unfold tkC zaS zaE
 rw [e1, qa, if_pos (by rw [List.length_mapIdx, qe]; exact szN hl (by decide)), e2, h2, qd, qm]
 rfl
theorem ziU {ss sub : List StepT} {v : Int} (h : sub.Sublist ss) (nd : (ss.map (·.nm)).Nodup) (hv : 1 <= v /\ v <= 1000000) : GoodA (ss.map (·.nm)) (sub.map fun s => (s.nm, v)) := by
 refine ⟨by rw [qe, qe]; exact h.length_le, fun w hw => ?_, ?_⟩
 ·obtain ⟨s, hs, rfl⟩ := List.mem_map.mp hw
  exact ⟨List.mem_map_of_mem (h.subset hs), hv⟩
 ·rw [qm]
  exact List.Sublist.nodup (h.map (·.nm)) nd
structure KInv (sn : List Str) (i : Nat) (ks : List StockT) : Prop where
 len : ks.length = i
 good : ∀ k ∈ ks, GoodK sn k
 nmk : ∀ (j : Nat) k, ks[j]? = some k -> k.nm = nm (80 + j)
def zor : FS := (zaA (zbg 5 (b2 zbf (b2 ixD (vSh 2) (vC (.int 1))) (b2 ixD (vSh 2) (vC (.int 2))))) (zaA (zbg 6 (zaS (zaE (itE (vSh 1)) (zcG 2 (zaI (zaG 0) (zaI (zaG 1) zcF))) (toB (b2 eqD (b2 zcn (b2 zet (b2 zbf (b2 ixD (vSh 2) (vC (.int 3))) (vSh 3)) (b2 ixD (zaS (szF (zaa (vC (.int 1)) (zaa (vC (.int 2)) (zaa (vC (.int 4)) zai))))) (b2 zcn (vSh 0) (vC (.int 3))))) (vC (.int 2))) (vC (.int 1)))) (zbu (szF (zaa (b2 ixD (vSh 1) (vC (.int 0))) (zaa (b2 zbf (vC (.int 1)) (b2 ixD (vSh 2) (vC (.int 5)))) zai)))) [none, none, some 2, some 4]))) (zaA (zbg 7 (zaS (zaE (itE (vSh 1)) (zcG 2 (zaI (zaG 0) (zaI (zaG 1) zcF))) (toB (b2 eqD (b2 zcn (b2 zet (b2 zbf (b2 ixD (vSh 2) (vC (.int 4))) (vSh 3)) (b2 ixD (zaS (szF (zaa (vC (.int 1)) (zaa (vC (.int 2)) (zaa (vC (.int 4)) zai))))) (b2 zcn (vSh 0) (vC (.int 3))))) (vC (.int 2))) (vC (.int 1)))) (zbu (szF (zaa (b2 ixD (vSh 1) (vC (.int 0))) (zaa (b2 zbf (vC (.int 1)) (b2 ixD (vSh 2) (vC (.int 6)))) zai)))) [none, none, some 2, some 4]))) (zdp 3 (zbu (szF (zaa (cF zas (zaa (b2 zbf (vC (.int 80)) (vSh 4)) zai)) (zaa (b2 ixD (vSh 2) (vC (.int 1))) (zaa (vSh 5) (zaa (vSh 6) (zaa (vSh 7) zai)))))))))))
theorem zo6 {c : Int} {ss : List StepT} {ds : List Int} {ks : List StockT} {i : Nat} {x y z : Option Slot} {d1 d2 d3 d4 d5 d6 : Int} (hi : i < 2) (hl : ss.length <= 40) (nd : (ss.map (·.nm)).Nodup)
  (q1 : ds[1]? = some d1) (q2 : ds[2]? = some d2) (q3 : ds[3]? = some d3) (q4 : ds[4]? = some d4) (q5 : ds[5]? = some d5) (q6 : ds[6]? = some d6) (p1 : 0 <= d1 /\ d1 < 4) (p2 : 0 <= d2 /\ d2 < 5) (p5 : 0 <= d5 /\ d5 < 4) (p6 : 0 <= d6 /\ d6 < 4) (I : KInv (ss.map (·.nm)) i ks) :
  ∃ ks' x' y' z', zor (kE c ss ds ks (oS (.int (0 + (i : Int)))) x y z) = some (.nx, kE c ss ds ks' (oS (.int (0 + (i : Int)))) x' y' z') /\ KInv (ss.map (·.nm)) (i + 1) ks' := by
 have hn := (ziL (k := 80 + i) (by omega)).1
 have hnb := (ziL (k := 80 + i) (by omega)).2
 have hn' : zas [.int (80 + (0 + (i : Int)))] = some (.str (nm (80 + i))) := by
  rw [← hn]; congr 3; omega
 have e5 : b2 zbf (b2 ixD (vSh 2) (vC (.int 1))) (b2 ixD (vSh 2) (vC (.int 2))) (kE c ss ds ks (oS (.int (0 + (i : Int)))) x y z) = some (.int (d1 + d2)) := zau (zb0 (n := 1) rfl q1) (zb0 (n := 2) rfl q2) rfl
 obtain ⟨s1, h1, e6⟩ := zj4 (c := c) (k := 0 + (i : Int)) (ss := ss) (ks := ks) (a := oS (.int (d1 + d2))) (b := y) (d := z) (n := 3) (m := 5) hl q3 q5
 obtain ⟨s2, h2, e7⟩ := zj4 (c := c) (k := 0 + (i : Int)) (ss := ss) (ks := ks) (a := oS (.int (d1 + d2))) (b := some (.sh (.lst ((s1.map fun s => (s.nm, 1 + d5)).map dW)))) (d := z) (n := 4) (m := 6) hl q4 q6
 let K : StockT := ⟨nm (80 + i), d1, d1 + d2, s1.map fun s => (s.nm, 1 + d5), s2.map fun s => (s.nm, 1 + d6)⟩
 refine ⟨ks ++ [K], _, _, _, (zaD e5).trans ((zaD e6).trans ((zaD e7).trans (zds (x := K) rfl (zlk (zaU (zaj (zau rfl rfl rfl) zaB) hn') (zb0 (n := 1) rfl q1) rfl rfl rfl) (by have := I.len; omega)))), ⟨?_, ?_, ?_⟩⟩
 ·rw [qi, I.len]; rfl
 ·intro k hk
  rcases List.mem_append.mp hk with q | q
  ·exact I.good k q
  ·rw [List.mem_singleton.mp q]
   exact ⟨hnb, ⟨p1.1, by show d1 <= d1 + d2; omega⟩, ⟨by show 0 <= d1 + d2; omega, by show d1 + d2 <= _; omega⟩, ziU h1 nd (by omega), ziU h2 nd (by omega)⟩
 ·intro j k hj
  by_cases hji : j < ks.length
  ·rw [qv hji] at hj
   exact I.nmk j k hj
  ·have hl2 := (List.getElem?_eq_some_iff.mp hj).1
   rw [qi, List.length_singleton] at hl2
   rw [List.getElem?_append_right (by omega), show j - ks.length = 0 by omega] at hj
   cases hj
   have := I.len
   rw [show j = i by omega]
theorem zdJ {α : Type} {l : List α} {f : α -> Str} {g : Nat -> Str} {n : Nat} (hn : l.length <= n) (hg : ∀ i, i < n -> ∀ j, j < n -> g i = g j -> i = j) (h : ∀ (j : Nat) k, l[j]? = some k -> f k = g j) : (l.map f).Nodup := by
 rw [List.nodup_iff_pairwise_ne, List.pairwise_iff_getElem]
 intro i j hi hj hij e
 rw [qe] at hi hj
 rw [List.getElem_map, List.getElem_map, h i _ (List.getElem?_eq_getElem hi), h j _ (List.getElem?_eq_getElem hj)] at e
 have := hg i (by omega) j (by omega) e
 omega
theorem zkV (c : Int) (ss : List StepT) (hl : ss.length <= 40) (nd : (ss.map (·.nm)).Nodup) : ∃ ks : List StockT, zbo [.int c, .lst (ss.map zaN)] = some (.lst (ks.map zb7)) /\ ks.length <= 2 /\ (∀ k ∈ ks, GoodK (ss.map (·.nm)) k) /\ (ks.map (·.nm)).Nodup := by
 obtain ⟨ds, e, hd, hbd⟩ := zcV c 9 (by omega) [3, 4, 5, 8, 8, 4, 4] (by decide) (by decide)
 obtain ⟨d0, q0, p0, r0⟩ := hbd 0 3 rfl
 obtain ⟨d1, q1, p1⟩ := hbd 1 4 rfl
 obtain ⟨d2, q2, p2⟩ := hbd 2 5 rfl
 obtain ⟨d3, q3, p3⟩ := hbd 3 8 rfl
 obtain ⟨d4, q4, p4⟩ := hbd 4 8 rfl
 obtain ⟨d5, q5, p5⟩ := hbd 5 4 rfl
 obtain ⟨d6, q6, p6⟩ := hbd 6 4 rfl
 obtain ⟨ρ', h1, ks, a, x, y, z, h2, h3⟩ := zch (gg := zaG 4) (body := zor) (xs := (List.range d0.toNat).map fun k : Nat => D.int (0 + k)) (ρ := kE c ss ds [] none none none none)
  (fun i ρ => ∃ ks a x y z, ρ = kE c ss ds ks a x y z /\ KInv (ss.map (·.nm)) i ks) ⟨[], none, none, none, none, rfl, ⟨rfl, fun j hj => (by cases hj), fun j k hj => (by simp at hj)⟩⟩ (fun i w ρ hx hI => by
   obtain ⟨ks, a, x, y, z, rfl, I⟩ := hI
   obtain ⟨hi, rfl⟩ := zlw hx
   obtain ⟨ks', x', y', z', e1, e2⟩ := zo6 (c := c) (ss := ss) (ds := ds) (ks := ks) (i := i) (x := x) (y := y) (z := z) (by omega) hl nd q1 q2 q3 q4 q5 q6 p1 p2 p5 p6 I
   exact ⟨_, _, rfl, e1, ks', _, _, _, _, rfl, e2⟩)
 rw [qe, List.length_range] at h3
 have eS : cF zag (zaa (vSh 0) (zaa (vC (.int 9)) (zaa (zaS (szF (zaa (vC (.int 3)) (zaa (vC (.int 4)) (zaa (vC (.int 5)) (zaa (vC (.int 8)) (zaa (vC (.int 8)) (zaa (vC (.int 4)) (zaa (vC (.int 4)) zai))))))))) zai))) [oS (.int c), oS (.lst (ss.map zaN)), none, none, none, none, none, none] = some (.lst (ds.map D.int)) :=
  zaU (zaj rfl (zaj rfl (zaj (zjE rfl rfl rfl rfl rfl rfl rfl) zaB))) e
 have eI : itR ziF (zaa (b2 ixD (vSh 2) (vC (.int 0))) zai) (kE c ss ds [] none none none none) = some ((List.range d0.toNat).map fun k : Nat => D.int (0 + k)) := zgj (zaj (zb0 (n := 0) rfl q0) zaB) (ze8 ⟨p0, by omega⟩)
 exact ⟨ks, za1 [oS (.int c), oS (.lst (ss.map zaN)), none, none, none, none, none, none] rfl ((zaD eS).trans (zdI.trans ((zcb ((zcx eI).trans (h1.trans (by rw [h2])))).trans ((zdt rfl).trans (zaY (f := vSh 3) rfl))))), by have := h3.len; omega, h3.good, zdJ (n := 3) (by have := h3.len; omega) zpM h3.nmk⟩
theorem zh4 (ns : List Int) (n m : Nat) (hn : n <= 1000) {fi : FA} {ρ : zaX} {k : Int} (hk : k = (m : Int)) (h0 : ρ[0]? = some (oS (.scr ns))) (hfi : fi ρ = some ((List.range n).map fun i : Nat => D.int (0 + i))) :
  ∃ cs : List Int, zaS (zaE fi (zaG 0) tT (cF zay (zaa (vSh 1) (zaa (b2 zbf (vC (.int k)) (vSh 0)) zai))) [none, some 0]) ρ = some (.lst (cs.map D.int)) /\ cs.length = n := by
 have hfv : zdZ [none, some 0] ρ = none :: [oS (.scr ns)] := by
  simp only [zdZ, ql, List.map_nil, Option.bind_none, qa, h0]
 have hc := zbj (fi := fi) (fe := cF zay (zaa (vSh 1) (zaa (b2 zbf (vC (.int k)) (vSh 0)) zai))) (fv := [none, some 0]) (ρ := ρ) (r := [oS (.scr ns)]) (a := none) (f := fun d => match d with | .int i => .int (ns.getD (m + i.toNat) 0) | _ => .non) hfi (by rw [qe, List.length_range]; exact szN hn (by decide)) hfv (fun x hx => by
  obtain ⟨i, hi, rfl⟩ := List.mem_map.mp hx
  have e := zeu ns (m + i)
  refine zaU (zaj rfl (zaj (zau rfl rfl rfl) zaB)) ?_
  subst hk
  have e1 : ((m : Int) + (0 + (i : Int))) = ((m + i : Nat) : Int) := by omega
  rw [e1, e]
  congr 3
  omega)
 refine ⟨(List.range n).map fun i => ns.getD (m + i) 0, ?_, by rw [qe, List.length_range]⟩
 rw [hc, qm, qm]
 congr 2
 refine List.map_congr_left fun i _ => ?_
 show D.int (ns.getD (m + (0 + (i : Int)).toNat) 0) = D.int (ns.getD (m + i) 0)
 congr 3
 omega
def zbm (bs : List BenchT) (ss : List StepT) (js : List JobT) (us : List SetT) (ls : List LinkT) (ks : List StockT) (h : Int) : D := .lst [.lst (bs.map zaZ), .lst (ss.map zaN), .lst (js.map zbK), .lst (us.map zea), .lst (ls.map za9), .lst (ks.map zb7), .int h]
theorem znO (ns : List Int) (n : Nat) (h lo : Int) (hn : 1 <= n /\ n <= 10) (hh : 1 <= h /\ h <= 1000000) (hlo : 0 < lo /\ lo < 1000) : ∃ bs ss js us ls ks, zbE [.scr ns, .int (n : Int), .int h, .int lo] = some (zbm bs ss js us ls ks h) /\ Good bs ss js us ls ks h /\ js.length <= 3 /\ ls.length <= 2 := by
 have b0 : 0 <= (ns.getD 0 0) % 3 := Int.emod_nonneg _ (by decide)
 have b1 : (ns.getD 0 0) % 3 < 3 := Int.emod_lt_of_pos _ (by decide)
 obtain ⟨nb, hnb⟩ : ∃ nb : Nat, 1 + (ns.getD 0 0) % 3 = (nb : Int) := ⟨(1 + (ns.getD 0 0) % 3).toNat, by omega⟩
 obtain ⟨cb, eb, lb⟩ := zh4 ns nb 1 (by omega) (k := 1) (fi := itR ziF (zaa (b2 zbf (vC (.int 1)) (b2 zcn (cF zay (zaa (vSh 0) (zaa (vC (.int 0)) zai))) (vC (.int 3)))) zai)) (ρ := [oS (.scr ns), oS (.int n), oS (.int h), oS (.int lo), none, none, none, none, none, none]) rfl rfl (zgj (zaj (d := .int (nb : Int)) (zau rfl (zau (zaU (zaj rfl (zaj rfl zaB)) (zeu ns 0)) rfl (zcq (by decide))) (by rw [← hnb]; rfl)) zaB) (ze8 (j := (nb : Int)) (by omega)))
 obtain ⟨bs, e1, l1, g1⟩ := zjG cb h (by omega)
 have bnd : (bs.map (·.nm)).Nodup := zdJ (n := 3) (by omega) zpO fun j b hj => (g1 j b hj).nm
 have hbn : ∀ x ∈ bs.map (·.nm), zaF x = true := fun x hx => by
  obtain ⟨b, hb, rfl⟩ := List.mem_map.mp hx
  obtain ⟨j, hj⟩ := List.getElem?_of_mem hb
  have hjl := (List.getElem?_eq_some_iff.mp hj).1
  rw [(g1 j b hj).nm]
  exact (ziL (by omega)).2
 obtain ⟨ct, et, lt⟩ := zh4 ns n 4 (by omega) (k := 4) (fi := itR ziF (zaa (vSh 1) zai)) (ρ := [oS (.scr ns), oS (.int n), oS (.int h), oS (.int lo), oS (.lst (bs.map zaZ)), none, none, none, none, none]) rfl rfl (zgj (zaj rfl zaB) (ze8 (j := (n : Int)) (by omega)))
 obtain ⟨ss, e2, l2, g2⟩ := zlV ct bs h lo hh.1 hlo (by omega) (by omega) bnd
 have snd : (ss.map (·.nm)).Nodup := zdJ (n := 10) (by omega) zpP fun j b hj => (g2 j b hj).nm
 have gs : ∀ s ∈ ss, GoodS (bs.map (·.nm)) h s := fun s hs => by
  obtain ⟨j, hj⟩ := List.getElem?_of_mem hs
  exact (g2 j s hj).good
 have hsn : ∀ x ∈ ss.map (·.nm), zaF x = true := fun x hx => by
  obtain ⟨b, hb, rfl⟩ := List.mem_map.mp hx
  exact (gs b hb).nm
 obtain ⟨cj, ej, lj⟩ := zh4 ns 3 14 (by omega) (k := 14) (fi := itR ziF (zaa (vC (.int 3)) zai)) (ρ := [oS (.scr ns), oS (.int n), oS (.int h), oS (.int lo), oS (.lst (bs.map zaZ)), oS (.lst (ss.map zaN)), none, none, none, none]) rfl rfl (zgj (zaj rfl zaB) (ze8 (j := 3) (by omega)))
 obtain ⟨js, e3, l3, g3, g4, g5⟩ := znM cj ss h hh.1 (by omega) (by omega) hsn snd
 obtain ⟨us, e4, l4, g6, g7⟩ := zkW (ns.getD 17 0) bs h hh.1 (by omega) hbn
 obtain ⟨ls, e5, l5, g8, g9⟩ := zl1 (ns.getD 18 0) ss h hh.1 (by omega) hsn
 obtain ⟨ks, e6, l6, g10, g11⟩ := zkV (ns.getD 19 0) ss (by omega) snd
 refine ⟨bs, ss, js, us, ls, ks, ?_, ⟨hh, by omega, fun x hx => ?_, bnd, by omega, gs, snd, by omega, g3, g4, g5, by omega, g6, g7, by omega, g8, g9, by omega, g10, g11⟩, l3, l5⟩
 ·refine za1 [oS (.scr ns), oS (.int n), oS (.int h), oS (.int lo), none, none, none, none, none, none] rfl ((zaD (zaU (zaj eb (zaj rfl zaB)) e1)).trans ((zaD (zaU (zaj et (zaj rfl (zaj rfl (zaj rfl zaB)))) e2)).trans ((zaD (zaU (zaj ej (zaj rfl (zaj rfl zaB))) e3)).trans ((zaD (zaU (zaj (zaU (zaj rfl (zaj rfl zaB)) (zeu ns 17)) (zaj rfl (zaj rfl zaB))) e4)).trans ((zaD (zaU (zaj (zaU (zaj rfl (zaj rfl zaB)) (zeu ns 18)) (zaj rfl (zaj rfl zaB))) e5)).trans ((zaD (zaU (zaj (zaU (zaj rfl (zaj rfl zaB)) (zeu ns 19)) (zaj rfl zaB)) e6)).trans (zaY (zjE rfl rfl rfl rfl rfl rfl rfl))))))))
 ·obtain ⟨j, hj⟩ := List.getElem?_of_mem hx
  have hjl := (List.getElem?_eq_some_iff.mp hj).1
  have g := g1 j x hj
  exact ⟨by rw [g.nm]; exact (ziL (by omega)).2, by have := g.len; omega, g.good.iv, g.good.gap⟩
end Law
end
section
namespace Law
open PySem L2
section
variable {bs : List BenchT} {ss : List StepT} {js : List JobT} {us : List SetT} {ls : List LinkT} {ks : List StockT} {h : Int}
theorem zo7 (g : Good bs ss js us ls ks h) (ml : (js.flatMap (·.ms)).length <= 300) : zbT [zbm bs ss js us ls ks h] = some (zcC bs ss js us ls ks h) :=
 za1 [oS (zbm bs ss js us ls ks h)] rfl (zaY (zaU (zaj (zau rfl rfl (ixL _ 0)) (zaj (zau rfl rfl (ixL _ 1)) (zaj (zau rfl rfl (ixL _ 2)) (zaj (zau rfl rfl (ixL _ 3)) (zaj (zau rfl rfl (ixL _ 4)) (zaj (zau rfl rfl (ixL _ 5)) (zaj (zau rfl rfl (ixL _ 6)) zaB))))))) (zp7 g ml)))
theorem zmn {fo : FE} {ρ : zaX} {f : Str} {d : D} (i : Nat) (h1 : fo ρ = some (zcC bs ss js us ls ks h)) (h2 : (zqN bs ss js us ls ks h)[i]? = some (f, d)) : zqg "Shop" f fo ρ = some d := by
 unfold zqg
 rw [h1]
 show (if ("Shop" : Str) = "Shop" then (zqN bs ss js us ls ks h).lookup f else none) = some d
 rw [if_pos rfl]
 exact zfS (by rw [ziW]; exact zhQ) h2
theorem zjD {F : FQ} {fo : FE} {fr : FA} {ρ : zaX} {m : Str} {ds : List D} {d : D} (hm : m ∉ zfv) (h1 : fo ρ = some (zcC bs ss js us ls ks h)) (h2 : fr ρ = some ds) (h3 : F (zcC bs ss js us ls ks h :: ds) = some d) : zga "Shop" m F fo fr ρ = some d := by
 have hno : (zqN bs ss js us ls ks h).lookup m = none := zgc (by rw [ziW]; exact hm)
 unfold zga
 rw [h1]
 show (if ("Shop" : Str) = "Shop" /\ (zqN bs ss js us ls ks h).lookup m = none then (fr ρ).bind fun ds => F (zcC bs ss js us ls ks h :: ds) else none) = _
 rw [if_pos ⟨rfl, hno⟩, h2]
 exact h3
theorem znH {α : Type} {f : α -> D} {nm : α -> Str} {xs : List α} {fo : FE} {ρ : zaX} {fv : List (Option Nat)} (hf : ∀ x, ∃ r, f x = .tup (.str (nm x) :: r)) (h1 : fo ρ = some (.lst (xs.map f))) (h2 : xs.length <= sizeLine) (h3 : zdZ fv ρ = [none]) :
  zaS (zaE (itF fo) (zaG 0) tT (b2 ixD (vSh 0) (vC (.int 0))) fv) ρ = some (.lst ((xs.map nm).map D.str)) := by
 have hc := zbj (fi := itF fo) (fe := b2 ixD (vSh 0) (vC (.int 0))) (fv := fv) (ρ := ρ) (r := []) (a := none) (xs := xs.map f) (f := fun d => match d with | .tup (x :: _) => x | _ => .non) (by unfold itF; rw [h1]; rfl) (by rw [qe]; exact h2) h3 (fun x hx => by
  obtain ⟨y, _, rfl⟩ := List.mem_map.mp hx
  obtain ⟨r, e⟩ := hf y
  simp only [b2, vSh, vC, qb, qa, e, zhk])
 rw [hc]
 congr 2
 rw [qm, qm]
 refine List.map_congr_left fun x _ => ?_
 obtain ⟨r, e⟩ := hf x
 simp [e]
theorem zhz (hl : ss.length <= 40) : zaT [zcC bs ss js us ls ks h] = some (.lst ((ss.map (·.nm)).map D.str)) :=
 za1 [oS (zcC bs ss js us ls ks h)] rfl (zaY (znH (f := zaN) (nm := (·.nm)) (xs := ss) (fun x => ⟨_, rfl⟩) (zmn 1 rfl rfl) (szN hl (by decide)) rfl))
theorem zj1 {κ : Type} [DecidableEq κ] (kvs : List (κ × D)) (k k' : κ) (v : D) : zgQ (zhJ kvs k v) k' = if k' = k then some v else zgQ kvs k' := by
 unfold zhJ
 split
 ·rename_i hany
  by_cases e : k' = k
  ·subst e
   rw [if_pos rfl]
   unfold zgQ
   induction kvs with
   | nil => simp at hany
   | cons x r ih =>
    rw [ql, List.find?_cons]
    by_cases ex : x.1 = k'
    ·simp [ex]
    ·simp only [if_neg ex, decide_eq_false ex]
     rw [List.any_cons, decide_eq_false ex, Bool.false_or] at hany
     exact ih hany
  ·rw [if_neg e]
   unfold zgQ
   induction kvs with
   | nil => rfl
   | cons x r ih =>
    rw [ql, List.find?_cons, List.find?_cons]
    by_cases ex : x.1 = k
    ·have : ¬ x.1 = k' := fun z => e (z.symm.trans ex)
     simp only [if_pos ex, decide_eq_false this]
     by_cases ha : (r.any fun kv => decide (kv.1 = k)) = true
     ·exact ih ha
     ·have hmap : r.map (fun kv => if kv.1 = k then (kv.1, v) else kv) = r := by
       conv => rhs; rw [← List.map_id r]
       refine List.map_congr_left fun y hy => ?_
       have : ¬ y.1 = k := fun z => ha (List.any_eq_true.mpr ⟨y, hy, decide_eq_true z⟩)
       simp [this]
      rw [hmap]
    ·simp only [if_neg ex]
     by_cases ex' : x.1 = k'
     ·simp [ex']
     ·simp only [decide_eq_false ex']
      rw [List.any_cons, decide_eq_false ex, Bool.false_or] at hany
      exact ih hany
 ·rename_i hany
  have hno : ∀ x ∈ kvs, ¬ x.1 = k := fun x hx z => hany (List.any_eq_true.mpr ⟨x, hx, decide_eq_true z⟩)
  unfold zgQ
  rw [List.find?_append]
  by_cases e : k' = k
  ·subst e
   rw [if_pos rfl]
   have : kvs.find? (fun kv => decide (kv.1 = k')) = none := by
    rw [List.find?_eq_none]
    intro x hx z
    exact hno x hx (of_decide_eq_true z)
   rw [this]
   simp
  ·rw [if_neg e]
   have : ¬ k = k' := fun z => e z.symm
   simp [this]
def prS : List StepT -> List (StepT × StepT)
 | [] => []
 | s :: r => r.map (fun t => (s, t)) ++ prS r
def dP (p : StepT × StepT) : D := .tup [.str p.1.nm, .str p.2.nm]
theorem zjw : ∀ {ss : List StepT} {n : Nat}, ss.length <= n -> (prS ss).length <= ss.length * n
 | [], _, _ => by simp [prS]
 | s :: r, n, h => by
  rw [qh] at h
  have := zjw (ss := r) (n := n) (by omega)
  show (r.map (fun t => (s, t)) ++ prS r).length <= _
  rw [qi, qe, qh, Nat.succ_mul]
  omega
theorem zmp {α : Type} {g : α -> D} {xs ys : List α} {i : Nat} {f : FE} {ρ : zaX} (h1 : ρ[i]? = some (some (.own (xs.map g)))) (h2 : f ρ = some (.lst (ys.map g))) (h3 : xs.length + ys.length <= 10000) : zlc i f ρ = some (.nx, ρ.set i (some (.own ((xs ++ ys).map g)))) := by
 unfold zlc
 rw [h1]
 show (f ρ).bind _ = _
 rw [h2, qa]
 show (if _ then _ else _) = _
 rw [if_pos (by rw [qe, qe]; unfold sizeLine; omega), List.map_append]
theorem zqi {α : Type} {l : List α} {i : Nat} {x : α} (h : l[i]? = some x) : l.drop i = x :: l.drop (i + 1) := by
 obtain ⟨h1, h2⟩ := List.getElem?_eq_some_iff.mp h
 rw [List.drop_eq_getElem_cons h1, h2]
abbrev pE (ss : List StepT) (ps : List (StepT × StepT)) (a b : Option Slot) : zaX := [oS (.lst ((ss.map (·.nm)).map D.str)), some (.own (ps.map dP)), a, b]
theorem znD (ss : List StepT) (hl : ss.length <= 40) : zby [.lst ((ss.map (·.nm)).map D.str)] = some (.lst ((prS ss).map dP)) := by
 have hpl := zjw (ss := ss) (n := 40) hl
 obtain ⟨ρ', h1, ps, a, b, h2, h3⟩ := zch (gg := zcG 2 (zaI (zaG 2) (zaI (zaG 3) zcF))) (body := (zlc 1 (zaS (zaE (itF (slF (vSh 0) (pS (b2 zbf (vSh 2) (vC (.int 1)))) pN)) (zaG 0) tT (zbu (szF (zaa (vSh 1) (zaa (vSh 0) zai)))) [none, some 3])))) (xs := ((ss.map (·.nm)).map D.str).mapIdx fun i d => D.tup [.int i, d]) (ρ := pE ss [] none none)
  (fun i ρ => ∃ ps a b, ρ = pE ss ps a b /\ ps ++ prS (ss.drop i) = prS ss) ⟨[], none, none, rfl, rfl⟩ (fun i x ρ hx hI => by
   obtain ⟨ps, a, b, rfl, hps⟩ := hI
   obtain ⟨y, hy, rfl⟩ := zdW hx
   rw [qm, qj] at hy
   obtain ⟨s, hsi, rfl⟩ := oMd hy
   have hi : i < ss.length := (List.getElem?_eq_some_iff.mp hsi).1
   have hdr := zqi hsi
   have hlen : ps.length + (ss.drop (i + 1)).length <= 10000 := by
    have := congrArg List.length hps
    rw [qi] at this
    rw [List.length_drop]
    omega
   have e : zaS (zaE (itF (slF (vSh 0) (pS (b2 zbf (vSh 2) (vC (.int 1)))) pN)) (zaG 0) tT (zbu (szF (zaa (vSh 1) (zaa (vSh 0) zai)))) [none, some 3]) (pE ss ps (oS (.int i)) (oS (.str s.nm))) = some (.lst (((ss.drop (i + 1)).map fun t => (s, t)).map dP)) := by
    have e0 : itF (slF (vSh 0) (pS (b2 zbf (vSh 2) (vC (.int 1)))) pN) (pE ss ps (oS (.int i)) (oS (.str s.nm))) = some ((ss.drop (i + 1)).map fun t => D.str t.nm) := by
     have := znh (f := vSh 0) (g := b2 zbf (vSh 2) (vC (.int 1))) (ρ := pE ss ps (oS (.int i)) (oS (.str s.nm))) (d := (i : Int) + 1) rfl (zau rfl rfl rfl) (by omega)
     unfold itF
     rw [this]
     show some _ = _
     rw [show ((i : Int) + 1).toNat = i + 1 by omega, qm, List.map_drop]
     rfl
    refine (zbj (r := [oS (.str s.nm)]) (a := none) (f := fun d => .tup [.str s.nm, d]) e0 (by rw [qe, List.length_drop]; exact szN (k := 40) (by omega) (by decide)) rfl fun x hx => zcp rfl rfl).trans ?_
    rw [qm, qm]
    rfl
   refine ⟨_, _, rfl, zmp rfl e (by rw [qe]; exact hlen), ps ++ (ss.drop (i + 1)).map (fun t => (s, t)), _, _, rfl, ?_⟩
   rw [← hps, hdr, List.append_assoc]
   rfl)
 rw [List.length_mapIdx, qe, qe, List.drop_length] at h3
 have h4 : ps = prS ss := by rw [← h3]; simp [prS]
 rw [h4] at h2
 exact za1 [oS (.lst ((ss.map (·.nm)).map D.str)), none, none, none] rfl (zdI.trans ((zcb ((zcx (xs := ((ss.map (·.nm)).map D.str).mapIdx fun i d => D.tup [.int i, d]) rfl).trans (h1.trans (by rw [h2])))).trans ((zdt rfl).trans (zaY (f := vSh 1) rfl))))
end
section
variable {bs : List BenchT} {ss : List StepT} {js : List JobT} {us : List SetT} {ls : List LinkT} {ks : List StockT} {h : Int}
theorem zm1 {x y : List D} (h : x.length + y.length <= sizeLine) : zbf (.lst x) (.lst y) = some (.lst (x ++ y)) := if_pos h
theorem zqt (l : List Int) (a b : Option Int) : (zhq l a b).length <= l.length := by
 unfold zhq
 simp only [List.length_take, List.length_drop]
 omega
theorem zlR (g : Good bs ss js us ls ks h) {ns : List Int} {c : Int} {lz : List LinkT} {i : Nat} {r y z : Option Slot} (hi : i < 90) (I : LInv (ss.map (·.nm)) h i lz) :
  ∃ lz' r' y' z', ((zaA (zbg 4 (cF zag (zaa (vSh 3) (zaa (vC (.int 3)) (zaa (zaS (szF (zaa (cF zcT (zaa (b2 ixD (vSh 1) (vC (.int 1))) zai)) (zaa (cF zcT (zaa (b2 ixD (vSh 1) (vC (.int 1))) zai)) (zaa (b2 zbf (b2 ixD (vSh 1) (vC (.int 6))) (vC (.int 1))) zai))))) zai))))) (zaA (zbg 5 (b2 ixD (b2 ixD (b2 ixD (vSh 1) (vC (.int 1))) (b2 ixD (vSh 4) (vC (.int 0)))) (vC (.int 0)))) (zaA (zbg 6 (b2 ixD (b2 ixD (b2 ixD (vSh 1) (vC (.int 1))) (b2 ixD (vSh 4) (vC (.int 1)))) (vC (.int 0)))) (sIf (bwT 2 (zfz (toB (b2 neA (vSh 5) (vSh 6))) (toB (b2 zeM (zbu (szF (zaa (vSh 5) (zaa (vSh 6) zai)))) (zaS (zaE (itF (vSh 2)) (zaG 0) tT (slF (vSh 0) pN (pS (vC (.int 2)))) [none])))))) (zdp 2 (zbu (szF (zaa (vSh 5) (zaa (vSh 6) (zaa (b2 ixD (vSh 4) (vC (.int 2))) zai)))))) zb8))))) [oS (.scr ns), oS (zbm bs ss js us ls ks h), some (.own (lz.map za9)), oS (.int c), r, y, z] = some (.nx, [oS (.scr ns), oS (zbm bs ss js us ls ks h), some (.own (lz'.map za9)), oS (.int c), r', y', z']) /\ LInv (ss.map (·.nm)) h (i + 1) lz' := by
 have hsn := g.snn
 have hs := g.sl
 have hh := g.hh
 obtain ⟨ds, e, hd, hbd⟩ := zcV c 3 (by omega) [(ss.length : Int), (ss.length : Int), h + 1] (fun s hs => by
  simp only [List.mem_cons, List.not_mem_nil, or_false] at hs
  rcases hs with rfl | rfl | rfl <;> omega) (by simp)
 obtain ⟨x1, q1, p1, r1⟩ := hbd 0 _ rfl
 obtain ⟨x2, q2, p2, r2⟩ := hbd 1 _ rfl
 obtain ⟨x3, q3, p3, r3⟩ := hbd 2 _ rfl
 have eD : cF zag (zaa (vSh 3) (zaa (vC (.int 3)) (zaa (zaS (szF (zaa (cF zcT (zaa (b2 ixD (vSh 1) (vC (.int 1))) zai)) (zaa (cF zcT (zaa (b2 ixD (vSh 1) (vC (.int 1))) zai)) (zaa (b2 zbf (b2 ixD (vSh 1) (vC (.int 6))) (vC (.int 1))) zai))))) zai))) [oS (.scr ns), oS (zbm bs ss js us ls ks h), some (.own (lz.map za9)), oS (.int c), r, y, z] = some (.lst (ds.map D.int)) :=
  zaU (zaj rfl (zaj rfl (zaj (zhP (ziR (zau rfl rfl (ixL _ 1))) (ziR (zau rfl rfl (ixL _ 1))) (zau (zau rfl rfl (ixL _ 6)) rfl rfl)) zaB))) (by rw [qe]; exact e)
 obtain ⟨sa, ha, e6⟩ := ziE (f := zaN) (nm := (·.nm)) (xs := ss) (ρ := [oS (.scr ns), oS (zbm bs ss js us ls ks h), some (.own (lz.map za9)), oS (.int c), oS (.lst (ds.map D.int)), y, z]) (fo := b2 ixD (vSh 1) (vC (.int 1))) (g := b2 ixD (vSh 4) (vC (.int 0))) (d := x1) (fun x => ⟨_, rfl⟩) (zau rfl rfl (ixL _ 1)) (zb0 (n := 0) rfl q1) p1 r1
 obtain ⟨sb, hb, e7⟩ := ziE (f := zaN) (nm := (·.nm)) (xs := ss) (ρ := [oS (.scr ns), oS (zbm bs ss js us ls ks h), some (.own (lz.map za9)), oS (.int c), oS (.lst (ds.map D.int)), oS (.str sa.nm), z]) (fo := b2 ixD (vSh 1) (vC (.int 1))) (g := b2 ixD (vSh 4) (vC (.int 1))) (d := x2) (fun x => ⟨_, rfl⟩) (zau rfl rfl (ixL _ 1)) (zb0 (n := 1) rfl q2) p2 r2
 let U : LinkT := ⟨sa.nm, sb.nm, x3⟩
 have nU : ∀ x ∈ [U.a, U.b], zaF x = true := fun x hx => by
  simp only [List.mem_cons, List.not_mem_nil, or_false] at hx
  rcases hx with rfl | rfl
  ·exact hsn _ (List.mem_map_of_mem ha)
  ·exact hsn _ (List.mem_map_of_mem hb)
 have nA : ∀ y ∈ lz.map (fun l => [l.a, l.b]), ∀ x ∈ y, zaF x = true := fun y hy x hx => by
  obtain ⟨u, hu, rfl⟩ := List.mem_map.mp hy
  have g := I.good u hu
  simp only [List.mem_cons, List.not_mem_nil, or_false] at hx
  rcases hx with rfl | rfl
  ·exact hsn _ g.a
  ·exact hsn _ g.b
 have hul : lz.length <= 100 := Nat.le_trans I.len (by omega)
 have eL : zaS (zaE (itF (vSh 2)) (zaG 0) tT (slF (vSh 0) pN (pS (vC (.int 2)))) [none]) [oS (.scr ns), oS (zbm bs ss js us ls ks h), oS (.lst (lz.map za9)), oS (.int c), oS (.lst (ds.map D.int)), oS (.str sa.nm), oS (.str sb.nm)] = some (.lst ((lz.map fun l => [l.a, l.b]).map fun t => .tup (t.map D.str))) := by
  rw [qm]
  refine (zbj (r := []) (a := none) (xs := lz.map za9) (f := fun d => match d with | .tup [a, b, c] => .tup [a, b] | _ => .non) rfl (by rw [qe]; exact szN hul (by decide)) rfl fun x hx => ?_).trans ?_
  ·obtain ⟨p, hp, rfl⟩ := List.mem_map.mp hx
   simp only [vSh, vC, slF, pN, pS, qb, qa, za9, zsy]
  ·rw [qm]; rfl
 have eT : bwT 2 (zfz (toB (b2 neA (vSh 5) (vSh 6))) (toB (b2 zeM (zbu (szF (zaa (vSh 5) (zaa (vSh 6) zai)))) (zaS (zaE (itF (vSh 2)) (zaG 0) tT (slF (vSh 0) pN (pS (vC (.int 2)))) [none]))))) [oS (.scr ns), oS (zbm bs ss js us ls ks h), some (.own (lz.map za9)), oS (.int c), oS (.lst (ds.map D.int)), oS (.str sa.nm), oS (.str sb.nm)] = some ((!decide (sa.nm = sb.nm)) && !decide ([U.a, U.b] ∈ lz.map fun l => [l.a, l.b])) :=
  zmR rfl (zgE (zaO (zau rfl rfl (zjy _ _))) (zaO (zau (x := .tup ([U.a, U.b].map D.str)) (zcp rfl rfl) eL (zhO nU nA))))
 by_cases ht : ((!decide (sa.nm = sb.nm)) && !decide ([U.a, U.b] ∈ lz.map fun l => [l.a, l.b])) = true
 ·have hq : sa.nm ≠ sb.nm /\ [U.a, U.b] ∉ lz.map fun l => [l.a, l.b] := by simpa using ht
  refine ⟨lz ++ [U], _, _, _, (zaD eD).trans ((zaD e6).trans ((zaD e7).trans ((zfb eT).trans ((if_pos ht).trans (zds (x := U) rfl (zfV rfl rfl (zb0 (n := 2) rfl q3)) (by omega)))))), ⟨?_, ?_, ?_⟩⟩
  ·rw [qi]; have := I.len; simp; omega
  ·intro u hu
   rcases List.mem_append.mp hu with q | q
   ·exact I.good u q
   ·rw [List.mem_singleton.mp q]
    exact ⟨List.mem_map_of_mem ha, List.mem_map_of_mem hb, hq.1, p3, by show x3 <= h; omega⟩
  ·rw [List.map_append, List.nodup_append]
   refine ⟨I.nd, by simp, fun a ha b' hb' hab => ?_⟩
   have : b' = [U.a, U.b] := by simpa using hb'
   rw [hab, this] at ha
   exact hq.2 ha
 ·exact ⟨lz, _, _, _, (zaD eD).trans ((zaD e6).trans ((zaD e7).trans ((zfb eT).trans ((if_neg ht).trans rfl)))), ⟨by have := I.len; omega, I.good, I.nd⟩⟩
theorem zjz (g : Good bs ss js us ls ks h) (l2 : ls.length <= 2) (ns : List Int) (hn : ns.length <= 63) : ∃ lz, zbU [.scr ns, zbm bs ss js us ls ks h] = some (zbm bs ss js us lz ks h) /\ Good bs ss js us lz ks h := by
 have hc := zqt ns (some 23) (some 28)
 obtain ⟨ρ', h1, lz, a, b, d, e, h2, h3⟩ := zch (gg := zaG 3) (body := (zaA (zbg 4 (cF zag (zaa (vSh 3) (zaa (vC (.int 3)) (zaa (zaS (szF (zaa (cF zcT (zaa (b2 ixD (vSh 1) (vC (.int 1))) zai)) (zaa (cF zcT (zaa (b2 ixD (vSh 1) (vC (.int 1))) zai)) (zaa (b2 zbf (b2 ixD (vSh 1) (vC (.int 6))) (vC (.int 1))) zai))))) zai))))) (zaA (zbg 5 (b2 ixD (b2 ixD (b2 ixD (vSh 1) (vC (.int 1))) (b2 ixD (vSh 4) (vC (.int 0)))) (vC (.int 0)))) (zaA (zbg 6 (b2 ixD (b2 ixD (b2 ixD (vSh 1) (vC (.int 1))) (b2 ixD (vSh 4) (vC (.int 1)))) (vC (.int 0)))) (sIf (bwT 2 (zfz (toB (b2 neA (vSh 5) (vSh 6))) (toB (b2 zeM (zbu (szF (zaa (vSh 5) (zaa (vSh 6) zai)))) (zaS (zaE (itF (vSh 2)) (zaG 0) tT (slF (vSh 0) pN (pS (vC (.int 2)))) [none])))))) (zdp 2 (zbu (szF (zaa (vSh 5) (zaa (vSh 6) (zaa (b2 ixD (vSh 4) (vC (.int 2))) zai)))))) zb8))))) (xs := (zhq ns (some 23) (some 28)).map D.int) (ρ := [oS (.scr ns), oS (zbm bs ss js us ls ks h), some (.own (ls.map za9)), none, none, none, none])
  (fun i ρ => ∃ lz a b d e, ρ = [oS (.scr ns), oS (zbm bs ss js us ls ks h), some (.own (lz.map za9)), a, b, d, e] /\ LInv (ss.map (·.nm)) h (2 + i) lz) ⟨ls, none, none, none, none, rfl, ⟨l2, g.l, g.ln⟩⟩ (fun i x ρ hx hI => by
   obtain ⟨lz, a, b, d, e, rfl, I⟩ := hI
   rw [qj] at hx
   obtain ⟨c, hp, rfl⟩ := oMd hx
   have hi := (List.getElem?_eq_some_iff.mp hp).1
   obtain ⟨lz', r', y', z', e1, e2⟩ := zlR g (ns := ns) (c := c) (lz := lz) (i := 2 + i) (r := b) (y := d) (z := e) (by omega) I
   exact ⟨_, _, rfl, e1, lz', _, _, _, _, rfl, by rw [← Nat.add_assoc]; exact e2⟩)
 rw [qe] at h3
 have hl : lz.length <= 100 := by have := h3.len; omega
 refine ⟨lz, ?_, ⟨g.hh, g.bl, g.b, g.bn, g.sl, g.s, g.sn, g.jl, g.j, g.jn, g.jm, g.ul, g.u, g.un, hl, h3.good, h3.nd, g.kl, g.k, g.kn⟩⟩
 subst h2
 have eO : zl2 (b2 ixD (vSh 1) (vC (.int 4))) [oS (.scr ns), oS (zbm bs ss js us ls ks h), none, none, none, none, none] = some (ls.map za9) := by
  unfold zl2
  rw [zau rfl rfl (ixL _ 4)]
  rfl
 have eI : itF (slF (vSh 0) (pS (vC (.int 23))) (pS (vC (.int 28)))) [oS (.scr ns), oS (zbm bs ss js us ls ks h), some (.own (ls.map za9)), none, none, none, none] = some ((zhq ns (some 23) (some 28)).map D.int) := rfl
 have eR : b2 zbf (b2 zbf (slF (vSh 1) pN (pS (vC (.int 4)))) (zaS (szF (zaa (vSh 2) zai)))) (slF (vSh 1) (pS (vC (.int 5))) pN) [oS (.scr ns), oS (zbm bs ss js us ls ks h), oS (.lst (lz.map za9)), a, b, d, e] = some (zbm bs ss js us lz ks h) := by
  have c1 := zni (f := vSh 1) (g := vC (.int 4)) (ρ := [oS (.scr ns), oS (zbm bs ss js us ls ks h), oS (.lst (lz.map za9)), a, b, d, e]) (d := 4) rfl rfl (by decide)
  have c2 := znh (f := vSh 1) (g := vC (.int 5)) (ρ := [oS (.scr ns), oS (zbm bs ss js us ls ks h), oS (.lst (lz.map za9)), a, b, d, e]) (d := 5) rfl rfl (by decide)
  have c3 : zaS (szF (zaa (vSh 2) zai)) [oS (.scr ns), oS (zbm bs ss js us ls ks h), oS (.lst (lz.map za9)), a, b, d, e] = some (.lst [.lst (lz.map za9)]) := by
   simp only [zaS, szF, zaa, zai, vSh, qb, qc, qa, qd, qh, qk, Nat.zero_add, sz1, if_true]
  exact zau (zau c1 c3 (zm1 (by show 4 + 1 <= sizeLine; unfold sizeLine; omega))) c2 (zm1 (by show 5 + 2 <= sizeLine; unfold sizeLine; omega))
 exact za1 [oS (.scr ns), oS (zbm bs ss js us ls ks h), none, none, none, none, none] rfl ((zf7 eO).trans ((zcb ((zcx eI).trans h1)).trans ((zdt rfl).trans (zaY eR))))
end
end Law
end
section
namespace Law
open PySem L2
def zld (ls : List LinkT) (a b : Str) : Option LinkT := ls.find? fun l => decide (l.a = a /\ l.b = b)
def wrp (m : Str) : StepT := ⟨m, m, []⟩
def zim (ms : List Str) (a b : Str) : Bool := (prS (ms.map wrp)).any fun p => decide (p.1.nm = a /\ p.2.nm = b)
def ziV (js : List JobT) (ls : List LinkT) (a b : Str) : Option Int := match zld ls a b with
 | some l => some l.g
 | none => if (js.any fun j => j.od && zim j.ms a b) = true then some 0 else none
theorem zcj {gg : FG} {body : FS} {x : D} {xs : List D} {ρ ρ1 ρ2 : zaX} {R : Option (Fl × zaX)} (h1 : gg x ρ = some ρ1) (h2 : body ρ1 = some (.nx, ρ2)) (h3 : zho gg body xs ρ2 = R) : zho gg body (x :: xs) ρ = R := by
 rw [← h3]
 unfold zho
 rw [h1, qa, h2, qa]
 cases xs <;> rfl
abbrev kk (a b : Str) : List Key := [.inr a, .inr b]
theorem zkY {a b c d : Str} : kk a b = kk c d ↔ a = c /\ b = d := by simp [kk]
def zm5 (acc : List (List Key × D)) (p : StepT × StepT) : List (List Key × D) := zhJ acc (kk p.1.nm p.2.nm) (.int 0)
def zfK (acc : List (List Key × D)) (j : JobT) : List (List Key × D) := if j.od = true then (prS (j.ms.map wrp)).foldl zm5 acc else acc
def zqJ (acc : List (List Key × D)) (l : LinkT) : List (List Key × D) := zhJ acc (kk l.a l.b) (.int l.g)
theorem zkb : ∀ (ps : List (StepT × StepT)) (acc : List (List Key × D)), (ps.foldl zm5 acc).length <= acc.length + ps.length
 | [], acc => qt _
 | p :: r, acc => by
  have := zkb r (zm5 acc p)
  have := zfR acc (kk p.1.nm p.2.nm) (.int 0)
  rw [List.foldl_cons, qh]
  unfold zm5 at *
  omega
theorem vP (a b : Str) : ∀ (ps : List (StepT × StepT)) (acc : List (List Key × D)), zgQ (ps.foldl zm5 acc) (kk a b) = if (ps.any fun p => decide (p.1.nm = a /\ p.2.nm = b)) = true then some (.int 0) else zgQ acc (kk a b)
 | [], acc => rfl
 | p :: r, acc => by
  rw [List.foldl_cons, vP a b r, List.any_cons]
  unfold zm5
  rw [zj1]
  by_cases h : p.1.nm = a /\ p.2.nm = b
  ·rw [if_pos (zkY.mpr ⟨h.1.symm, h.2.symm⟩), decide_eq_true h]
   show (if _ then _ else _) = some (D.int 0)
   split <;> rfl
  ·rw [if_neg (fun z => h ⟨(zkY.mp z).1.symm, (zkY.mp z).2.symm⟩), decide_eq_false h]
   rfl
theorem vJ (a b : Str) : ∀ (js : List JobT) (acc : List (List Key × D)), zgQ (js.foldl zfK acc) (kk a b) = if (js.any fun j => j.od && zim j.ms a b) = true then some (.int 0) else zgQ acc (kk a b)
 | [], acc => rfl
 | j :: r, acc => by
  rw [List.foldl_cons, vJ a b r, List.any_cons]
  unfold zfK zim
  by_cases h : j.od = true
  ·rw [if_pos h, vP, h, Bool.true_and]
   cases ((prS (j.ms.map wrp)).any fun p => decide (p.1.nm = a /\ p.2.nm = b))
   ·rfl
   ·show (if _ then _ else some (D.int 0)) = some (D.int 0)
    split <;> rfl
  ·have h' : j.od = false := by simpa using h
   rw [if_neg h, h']
   rfl
theorem vL (a b : Str) : ∀ (ls : List LinkT) (acc : List (List Key × D)), (ls.map fun l => [l.a, l.b]).Nodup -> zgQ (ls.foldl zqJ acc) (kk a b) = match zld ls a b with | some l => some (.int l.g) | none => zgQ acc (kk a b)
 | [], acc, _ => rfl
 | l :: r, acc, nd => by
  rw [ql, List.nodup_cons] at nd
  rw [List.foldl_cons, vL a b r _ nd.2]
  unfold zqJ zld
  rw [zj1, List.find?_cons]
  by_cases h : l.a = a /\ l.b = b
  ·rw [if_pos (zkY.mpr ⟨h.1.symm, h.2.symm⟩), decide_eq_true h]
   have : r.find? (fun l => decide (l.a = a /\ l.b = b)) = none := by
    rw [List.find?_eq_none]
    intro x hx z
    have z := of_decide_eq_true z
    exact nd.1 (List.mem_map.mpr ⟨x, hx, by rw [z.1, z.2, h.1, h.2]⟩)
   rw [this]
  ·rw [if_neg (fun z => h ⟨(zkY.mp z).1.symm, (zkY.mp z).2.symm⟩), decide_eq_false h]
section
variable {bs : List BenchT} {ss : List StepT} {js : List JobT} {us : List SetT} {ls : List LinkT} {ks : List StockT} {h : Int}
theorem zjH (g : Good bs ss js us ls ks h) : zaW [zcC bs ss js us ls ks h] = some (.lst (js.map zbK)) := by
 have hl : (ss.map (·.nm)).length <= 40 := by rw [qe]; exact g.sl.2
 have hp : Pl 8 (.lst (js.map zbK)) := zdG (by have := g.jl; omega) fun x hx => zox (n := 4) hl (g.j x hx)
 exact za1 [oS (zcC bs ss js us ls ks h)] rfl (zaY (zaU (zaj (zmn 2 rfl rfl) zaB) (zfw hp)))
theorem ziO (g : Good bs ss js us ls ks h) : zaP [zcC bs ss js us ls ks h] = some (.lst (ls.map za9)) := by
 have hp : Pl 8 (.lst (ls.map za9)) := zdG (by have := g.ll; omega) fun x hx => zlB (n := 5)
 exact za1 [oS (zcC bs ss js us ls ks h)] rfl (zaY (zaU (zaj (zmn 4 rfl rfl) zaB) (zfw hp)))
theorem zqR (ms : List Str) : (ms.map wrp).map (·.nm) = ms := by
 rw [qm]
 exact List.map_id _
theorem zrh (ms : List Str) (hl : ms.length <= 40) : zby [.lst (ms.map D.str)] = some (.lst ((prS (ms.map wrp)).map dP)) := by
 have := znD (ms.map wrp) (by rw [qe]; exact hl)
 rw [zqR] at this
 exact this
theorem zt2 {S x2 x4 x5 x6 : Option Slot} {acc : List (List Key × D)} {p : StepT × StepT} (hl : acc.length < 100000) : zeJ 1 (vSh 3) (vC (.int 0)) [S, some (.odt acc), x2, oS (dP p), x4, x5, x6] = some (.nx, [S, some (.odt (zm5 acc p)), x2, oS (dP p), x4, x5, x6]) := if_pos hl
theorem zme {S x2 x4 x5 x6 : Option Slot} : ∀ (ps : List (StepT × StepT)) (acc : List (List Key × D)) (z : Option Slot), acc.length + ps.length < 100000 -> ∃ z', zho (zaG 3) (zeJ 1 (vSh 3) (vC (.int 0))) (ps.map dP) [S, some (.odt acc), x2, z, x4, x5, x6] = some (.nx, [S, some (.odt (ps.foldl zm5 acc)), x2, z', x4, x5, x6])
 | [], acc, z, _ => ⟨z, rfl⟩
 | p :: r, acc, z, hl => by
  rw [qh] at hl
  have h1 := zfR acc (kk p.1.nm p.2.nm) (.int 0)
  obtain ⟨z', hz⟩ := zme (S := S) (x2 := x2) (x4 := x4) (x5 := x5) (x6 := x6) r (zm5 acc p) (oS (dP p)) (by unfold zm5; omega)
  exact ⟨z', zcj rfl (zt2 (by omega)) hz⟩
def gjB : FS := sIf (toB (b2 ixD (vSh 2) (vC (.int 3)))) (zdo (itF (cF zby (zaa (b2 ixD (vSh 2) (vC (.int 4))) zai))) (zaG 3) (zeJ 1 (vSh 3) (vC (.int 0)))) zb8
theorem zp8 {ft : FT} {A B : FS} {ρ : zaX} (h : ft ρ = some false) : sIf ft A B ρ = B ρ := by
 unfold sIf; rw [h, qa, if_neg qp]
theorem zmf {ft : FT} {A B : FS} {ρ : zaX} (h : ft ρ = some true) : sIf ft A B ρ = A ρ := by
 unfold sIf; rw [h, qa, if_pos rfl]
theorem zrW {a b c d e : D} : ixD (.tup [a, b, c, d, e]) (.int 3) = some d := rfl
theorem zkn {S x4 x5 x6 : Option Slot} : ∀ (js : List JobT) (acc : List (List Key × D)) (y z : Option Slot), (∀ j ∈ js, j.ms.length <= 40) -> acc.length + js.length * 1600 < 90000 -> ∃ y' z', zho (zaG 2) gjB (js.map zbK) [S, some (.odt acc), y, z, x4, x5, x6] = some (.nx, [S, some (.odt (js.foldl zfK acc)), y', z', x4, x5, x6]) /\ (js.foldl zfK acc).length <= acc.length + js.length * 1600
 | [], acc, y, z, _, _ => ⟨y, z, rfl, Nat.le_add_right _ _⟩
 | j :: r, acc, y, z, hm, hl => by
  rw [qh, Nat.succ_mul] at hl
  have hj := hm j qf
  have hpl := zjw (ss := j.ms.map wrp) (n := 40) (by rw [qe]; exact hj)
  rw [qe] at hpl
  have h40 : j.ms.length * 40 <= 1600 := by omega
  have eT : toB (b2 ixD (vSh 2) (vC (.int 3))) [S, some (.odt acc), oS (zbK j), z, x4, x5, x6] = some j.od := zaO (zau rfl rfl zrW)
  have key : ∃ z1, gjB [S, some (.odt acc), oS (zbK j), z, x4, x5, x6] = some (.nx, [S, some (.odt (zfK acc j)), oS (zbK j), z1, x4, x5, x6]) /\ (zfK acc j).length <= acc.length + 1600 := by
   by_cases ho : j.od = true
   ·rw [ho] at eT
    obtain ⟨z1, hz⟩ := zme (S := S) (x2 := oS (zbK j)) (x4 := x4) (x5 := x5) (x6 := x6) (prS (j.ms.map wrp)) acc z (by omega)
    have eI : itF (cF zby (zaa (b2 ixD (vSh 2) (vC (.int 4))) zai)) [S, some (.odt acc), oS (zbK j), z, x4, x5, x6] = some ((prS (j.ms.map wrp)).map dP) := by
     unfold itF
     rw [zaU (zaj (zau rfl rfl zm7) zaB) (zrh j.ms hj)]
     rfl
    have hP := zkb (prS (j.ms.map wrp)) acc
    unfold zfK
    rw [if_pos ho]
    exact ⟨z1, (zmf eT).trans ((zcx eI).trans hz), by omega⟩
   ·have ho' : j.od = false := by simpa using ho
    rw [ho'] at eT
    unfold zfK
    rw [if_neg ho]
    exact ⟨z, zp8 eT, by omega⟩
  obtain ⟨z1, hk, hkl⟩ := key
  obtain ⟨y', z', hr, hrl⟩ := zkn (S := S) (x4 := x4) (x5 := x5) (x6 := x6) r (zfK acc j) (oS (zbK j)) z1 (fun x hx => hm x (qg _ hx)) (by omega)
  exact ⟨y', z', zcj rfl hk hr, by rw [List.foldl_cons, qh, Nat.succ_mul]; omega⟩
theorem ziP {S x2 x3 : Option Slot} : ∀ (ls : List LinkT) (acc : List (List Key × D)) (a b c : Option Slot), acc.length + ls.length < 100000 -> ∃ a' b' c', zho (zcG 3 (zaI (zaG 4) (zaI (zaG 5) (zaI (zaG 6) zcF)))) (zeJ 1 (zbu (szF (zaa (vSh 4) (zaa (vSh 5) zai)))) (vSh 6)) (ls.map za9) [S, some (.odt acc), x2, x3, a, b, c] = some (.nx, [S, some (.odt (ls.foldl zqJ acc)), x2, x3, a', b', c'])
 | [], acc, a, b, c, _ => ⟨a, b, c, rfl⟩
 | l :: r, acc, a, b, c, hl => by
  rw [qh] at hl
  have h1 := zfR acc (kk l.a l.b) (.int l.g)
  obtain ⟨a', b', c', hz⟩ := ziP (S := S) (x2 := x2) (x3 := x3) r (zqJ acc l) (oS (.str l.a)) (oS (.str l.b)) (oS (.int l.g)) (by unfold zqJ; omega)
  refine ⟨a', b', c', zcj (ρ1 := [S, some (.odt acc), x2, x3, oS (.str l.a), oS (.str l.b), oS (.int l.g)]) rfl ?_ hz⟩
  have e1 : zbu (szF (zaa (vSh 4) (zaa (vSh 5) zai))) [S, some (.odt acc), x2, x3, oS (.str l.a), oS (.str l.b), oS (.int l.g)] = some (.tup [.str l.a, .str l.b]) := zcp rfl rfl
  unfold zeJ
  rw [e1]
  exact if_pos (by omega)
theorem zqd (g : Good bs ss js us ls ks h) : ∃ kvs, za7 [zcC bs ss js us ls ks h] = some (.dt kvs) /\ ∀ a b, zgQ kvs (kk a b) = (ziV js ls a b).map D.int := by
 have hm : ∀ j ∈ js, j.ms.length <= 40 := fun j hj => by
  have := (g.j j hj).ln
  rw [qe] at this
  have := g.sl.2
  omega
 have hjl := g.jl
 have hll := g.ll
 obtain ⟨y', z', h1, hl1⟩ := zkn (S := oS (zcC bs ss js us ls ks h)) (x4 := none) (x5 := none) (x6 := none) js [] none none hm (by rw [qk]; omega)
 rw [qk] at hl1
 obtain ⟨a', b', c', h2⟩ := ziP (S := oS (zcC bs ss js us ls ks h)) (x2 := y') (x3 := z') ls (js.foldl zfK []) none none none (by omega)
 refine ⟨ls.foldl zqJ (js.foldl zfK []), ?_, fun a b => ?_⟩
 ·have e1 : itF (zga "Shop" "job_rows" zaW (vSh 0) zai) [oS (zcC bs ss js us ls ks h), some (.odt []), none, none, none, none, none] = some (js.map zbK) := by
   unfold itF
   rw [zjD (by decide +kernel) rfl zaB (zjH g)]
   rfl
  have e2 : itF (zga "Shop" "link_rows" zaP (vSh 0) zai) [oS (zcC bs ss js us ls ks h), some (.odt (js.foldl zfK [])), y', z', none, none, none] = some (ls.map za9) := by
   unfold itF
   rw [zjD (by decide +kernel) rfl zaB (ziO g)]
   rfl
  exact za1 [oS (zcC bs ss js us ls ks h), none, none, none, none, none, none] rfl ((zcb (ρ1 := [oS (zcC bs ss js us ls ks h), some (.odt []), none, none, none, none, none]) rfl).trans ((zcb ((zcx e1).trans h1)).trans ((zcb ((zcx e2).trans h2)).trans (zaY (f := vSh 1) rfl))))
 ·rw [vL a b ls _ g.ln, vJ]
  unfold ziV
  cases zld ls a b with
  | some l => rfl
  | none =>
   show (if _ then _ else _) = _
   cases (js.any fun j => j.od && zim j.ms a b) <;> rfl
end
end Law
end
section
namespace Law
open PySem L2
abbrev GT := Str × Str × Int
def dG (t : GT) : D := .tup [.str t.1, .str t.2.1, .int t.2.2]
def zeK (js : List JobT) (ls : List LinkT) (nms : List Str) (a : Str) : List GT := nms.filterMap fun b => (ziV js ls a b).map fun g => (a, b, g)
theorem zhI (js : List JobT) (ls : List LinkT) (nms : List Str) (a : Str) : (zeK js ls nms a).length <= nms.length := List.length_filterMap_le _ _
theorem zhH (js : List JobT) (ls : List LinkT) (nms : List Str) : ∀ xs : List Str, (xs.flatMap (zeK js ls nms)).length <= xs.length * nms.length
 | [] => by simp
 | x :: r => by
  have := zhH js ls nms r
  have := zhI js ls nms x
  rw [List.flatMap_cons, qi, qh, Nat.succ_mul]
  omega
def pG (js : List JobT) (ls : List LinkT) (a : Str) : D -> Bool
 | .str b => (ziV js ls a b).isSome
 | _ => false
def fG (js : List JobT) (ls : List LinkT) (a : Str) : D -> D
 | .str b => .tup [.str a, .str b, .int ((ziV js ls a b).getD 0)]
 | _ => .non
theorem zou (js : List JobT) (ls : List LinkT) (a : Str) : ∀ nms : List Str, ((nms.map D.str).filter (pG js ls a)).map (fG js ls a) = (zeK js ls nms a).map dG
 | [] => rfl
 | b :: r => by
  have ih := zou js ls a r
  unfold zeK at ih ⊢
  rw [ql, List.filter_cons, List.filterMap_cons]
  cases e : ziV js ls a b with
  | none =>
   have e1 : pG js ls a (.str b) = false := by show (ziV js ls a b).isSome = false; rw [e]; rfl
   rw [e1]
   exact ih
  | some q =>
   have e1 : pG js ls a (.str b) = true := by show (ziV js ls a b).isSome = true; rw [e]; rfl
   have e2 : fG js ls a (.str b) = dG (a, b, q) := by show D.tup [.str a, .str b, .int ((ziV js ls a b).getD 0)] = _; rw [e]; rfl
   rw [e1]
   show fG js ls a (.str b) :: _ = dG (a, b, q) :: _
   rw [e2]
   exact congrArg _ ih
section
variable {bs : List BenchT} {ss : List StepT} {js : List JobT} {us : List SetT} {ls : List LinkT} {ks : List StockT} {h : Int}
theorem znn {n : Nat} {g : FS} {ds : List D} {d : List D} (ρ : zaX) {ρ' : zaX} (e : ds.map (fun d => some (Slot.sh d)) ++ List.replicate n none = ρ) (h : g ρ = some (.ow d, ρ')) : zqH n g ds = some d := by
 subst e; unfold zqH; rw [h]; rfl
theorem zoO {fi : FA} {ft : FT} {fe : FE} {fv : List (Option Nat)} {ρ r : zaX} {a : Option Slot} {xs : List D} {f : D -> D} {p : D -> Bool} (h1 : fi ρ = some xs) (h2 : xs.length <= sizeLine) (h3 : zdZ fv ρ = a :: r) (h : ∀ x ∈ xs, ft (oS x :: r) = some (p x) /\ (p x = true -> fe (oS x :: r) = some (f x))) :
  zaE fi (zaG 0) ft fe fv ρ = some ((xs.filter p).map f) := by
 simp only [zaE, h1, qa, if_pos h2, h3, zoP (a := a) h]
theorem zrM {fr : FA} {ρ : zaX} {ys : List D} (h : fr ρ = some ys) : zaS fr ρ = some (.lst ys) := by unfold zaS; rw [h]; rfl
theorem koT {kvs : List (List Key × D)} (hv : ∀ a b, zgQ kvs (kk a b) = (ziV js ls a b).map D.int) {a : Str} {nms : List Str} {S o : Option Slot} (hl : nms.length <= 40) :
  zaS (zaE (itF (vSh 1)) (zaG 0) (toB (b2 zsb (zbu (szF (zaa (vSh 1) (zaa (vSh 0) zai)))) (vSh 2))) (zbu (szF (zaa (vSh 1) (zaa (vSh 0) (zaa (b2 zmA (vSh 2) (zbu (szF (zaa (vSh 1) (zaa (vSh 0) zai))))) zai))))) [none, some 4, some 2]) [S, oS (.lst (nms.map D.str)), oS (.dt kvs), o, oS (.str a)] = some (.lst ((zeK js ls nms a).map dG)) := by
 rw [← zou]
 refine zrM (zoO (r := [oS (.str a), oS (.dt kvs)]) (a := none) rfl (by rw [qe]; exact szN hl (by decide)) rfl fun x hx => ?_)
 obtain ⟨b, _, rfl⟩ := List.mem_map.mp hx
 have e1 : zbu (szF (zaa (vSh 1) (zaa (vSh 0) zai))) [oS (.str b), oS (.str a), oS (.dt kvs)] = some (.tup [.str a, .str b]) := zcp rfl rfl
 refine ⟨zaO (zau e1 rfl ?_), fun hp => ?_⟩
 ·show some (D.bl (zgQ kvs (kk a b)).isSome) = some (.bl (ziV js ls a b).isSome)
  rw [hv, Option.isSome_map]
 ·have hp' : (ziV js ls a b).isSome = true := hp
  obtain ⟨q, hq⟩ := Option.isSome_iff_exists.mp hp'
  refine zfV rfl rfl (zau rfl e1 ?_)
  show (some (zgQ kvs (kk a b))).bind id = some (.int ((ziV js ls a b).getD 0))
  rw [hv, hq]
  rfl
theorem znS (g : Good bs ss js us ls ks h) : zaV [zcC bs ss js us ls ks h] = some (((ss.map (·.nm)).flatMap (zeK js ls (ss.map (·.nm)))).map dG) := by
 obtain ⟨kvs, hk, hv⟩ := zqd g
 have hl : (ss.map (·.nm)).length <= 40 := by rw [qe]; exact g.sl.2
 have hN := zhz (bs := bs) (ss := ss) (js := js) (us := us) (ls := ls) (ks := ks) (h := h) g.sl.2
 obtain ⟨ρ', h1, z, h2⟩ := zch (gg := zaG 4) (body := (zlc 3 (zaS (zaE (itF (vSh 1)) (zaG 0) (toB (b2 zsb (zbu (szF (zaa (vSh 1) (zaa (vSh 0) zai)))) (vSh 2))) (zbu (szF (zaa (vSh 1) (zaa (vSh 0) (zaa (b2 zmA (vSh 2) (zbu (szF (zaa (vSh 1) (zaa (vSh 0) zai))))) zai))))) [none, some 4, some 2])))) (xs := (ss.map (·.nm)).map D.str) (ρ := [oS (zcC bs ss js us ls ks h), oS (.lst ((ss.map (·.nm)).map D.str)), oS (.dt kvs), some (.own []), none])
  (fun i ρ => ∃ z, ρ = [oS (zcC bs ss js us ls ks h), oS (.lst ((ss.map (·.nm)).map D.str)), oS (.dt kvs), some (.own ((((ss.map (·.nm)).take i).flatMap (zeK js ls (ss.map (·.nm)))).map dG)), z]) ⟨none, rfl⟩ (fun i x ρ hx hI => by
   obtain ⟨z, rfl⟩ := hI
   rw [qj] at hx
   obtain ⟨a, hp, rfl⟩ := oMd hx
   have tk : ((ss.map (·.nm)).take (i + 1)).flatMap (zeK js ls (ss.map (·.nm))) = ((ss.map (·.nm)).take i).flatMap (zeK js ls (ss.map (·.nm))) ++ zeK js ls (ss.map (·.nm)) a := by
    rw [List.take_add_one, hp, List.flatMap_append]
    simp
   have r1 := zhH js ls (ss.map (·.nm)) ((ss.map (·.nm)).take i)
   have r2 := zhI js ls (ss.map (·.nm)) a
   have r3 : ((ss.map (·.nm)).take i).length <= 40 := Nat.le_trans (List.length_take_le' _ _) hl
   have r4 : ((ss.map (·.nm)).take i).length * (ss.map (·.nm)).length <= 40 * 40 := Nat.mul_le_mul r3 hl
   refine ⟨_, _, rfl, zmp rfl (koT hv hl) (by omega), oS (.str a), ?_⟩
   rw [tk]
   rfl)
 rw [qe, List.take_length] at h2
 subst h2
 exact znn [oS (zcC bs ss js us ls ks h), none, none, none, none] rfl ((zaD (zjD (by decide +kernel) rfl zaB hN)).trans ((zaD (zaU (zaj rfl zaB) hk)).trans (zdI.trans ((zcb ((zcx rfl).trans h1)).trans rfl))))
end
end Law
end
section
namespace Law
open PySem L2
theorem ziK (m : Str) (r : List Str) (a b : Str) : zim (m :: r) a b = ((r.any fun t => decide (m = a /\ t = b)) || zim r a b) := by
 unfold zim
 rw [ql]
 show ((r.map wrp).map (fun t => (wrp m, t)) ++ prS (r.map wrp)).any _ = _
 rw [List.any_append, qm, List.any_map]
 rfl
theorem zdU {a b : Str} : ∀ {ms : List Str}, zim ms a b = true -> a ∈ ms /\ b ∈ ms
 | [], h => by cases h
 | m :: r, h => by
  rw [ziK, Bool.or_eq_true] at h
  rcases h with h | h
  ·obtain ⟨t, ht, h⟩ := List.any_eq_true.mp h
   have h := of_decide_eq_true h
   rw [← h.1, ← h.2]
   exact ⟨qf, qg _ ht⟩
  ·have := zdU h
   exact ⟨qg _ this.1, qg _ this.2⟩
theorem zkd {a b : Str} : ∀ {ms : List Str}, ms.Nodup -> (zim ms a b = true ↔ a ∈ ms /\ b ∈ ms /\ ms.findIdx (· == a) < ms.findIdx (· == b))
 | [], _ => ⟨fun h => (by cases h), fun h => (by cases h.1)⟩
 | m :: r, nd => by
  rw [List.nodup_cons] at nd
  rw [ziK, Bool.or_eq_true, List.findIdx_cons, List.findIdx_cons]
  by_cases ha : m = a
  ·have ea : (m == a) = true := by simpa using ha
   rw [ea]
   by_cases hb : m = b
   ·have eb : (m == b) = true := by simpa using hb
    rw [eb]
    constructor
    ·rintro (h | h)
     ·obtain ⟨t, ht, h⟩ := List.any_eq_true.mp h
      have h := of_decide_eq_true h
      exact absurd (by rw [← h.2] at hb; rw [hb]; exact ht) nd.1
     ·exact absurd (by rw [ha]; exact (zdU h).1) nd.1
    ·rintro ⟨_, _, h⟩
     exact absurd h (Nat.lt_irrefl _)
   ·have eb : (m == b) = false := by simpa using hb
    rw [eb]
    constructor
    ·rintro (h | h)
     ·obtain ⟨t, ht, h⟩ := List.any_eq_true.mp h
      have h := of_decide_eq_true h
      exact ⟨by rw [ha]; exact qf, by rw [← h.2]; exact qg _ ht, Nat.succ_pos _⟩
     ·exact absurd (by rw [ha]; exact (zdU h).1) nd.1
    ·rintro ⟨_, h, _⟩
     rcases List.mem_cons.mp h with z | z
     ·exact absurd z.symm hb
     ·exact .inl (List.any_eq_true.mpr ⟨b, z, decide_eq_true ⟨ha, rfl⟩⟩)
  ·have ea : (m == a) = false := by simpa using ha
   rw [ea]
   have h0 : ¬ (r.any fun t => decide (m = a /\ t = b)) = true := fun h => by
    obtain ⟨t, _, h⟩ := List.any_eq_true.mp h
    exact ha (of_decide_eq_true h).1
   have ih := zkd (a := a) (b := b) nd.2
   by_cases hb : m = b
   ·have eb : (m == b) = true := by simpa using hb
    rw [eb]
    constructor
    ·rintro (h | h)
     ·exact absurd h h0
     ·exact absurd (by rw [hb]; exact (zdU h).2) nd.1
    ·rintro ⟨_, _, h⟩
     exact absurd h (Nat.not_lt_zero _)
   ·have eb : (m == b) = false := by simpa using hb
    rw [eb]
    constructor
    ·rintro (h | h)
     ·exact absurd h h0
     ·obtain ⟨h1, h2, h3⟩ := ih.mp h
      exact ⟨qg _ h1, qg _ h2, Nat.succ_lt_succ h3⟩
    ·rintro ⟨h1, h2, h3⟩
     rcases List.mem_cons.mp h1 with z | h1
     ·exact absurd z.symm ha
     ·rcases List.mem_cons.mp h2 with z | h2
      ·exact absurd z.symm hb
      ·exact .inr (ih.mpr ⟨h1, h2, Nat.lt_of_succ_lt_succ h3⟩)
theorem zpf (k : Nat) (m : Nat) : (List.replicate k (0 : Int)).getD m 0 = 0 := by
 rw [List.getD_eq_getElem?_getD, List.getElem?_replicate]
 split <;> rfl
theorem ziM {x : Int} {k : Nat} (hx : 0 <= x) : mxI (x :: List.replicate k 0) = .int x := by
 have key : ∀ m, argBest (btI (x :: List.replicate k 0)) m = 0 := by
  intro m
  induction m with
  | zero => rfl
  | succ m ih =>
   unfold argBest
   rw [ih]
   have : btI (x :: List.replicate k 0) (m + 1) 0 = false := by
    unfold btI
    rw [List.getD_cons_succ, List.getD_cons_zero, zpf]
    exact decide_eq_false (by omega)
   rw [this]
   rfl
 unfold mxI
 rw [if_neg (by simp), key]
 rfl
theorem zkp : ∀ gs : List Int, zjJ (gs.map D.int) = some gs
 | [] => rfl
 | x :: r => by
  show (zjJ (r.map D.int)).map (x :: ·) = _
  rw [zkp r]
  rfl
theorem zj5 : ∀ gs : List Str, ziq (gs.map D.str) = some gs
 | [] => rfl
 | x :: r => by
  show (ziq (r.map D.str)).map (x :: ·) = _
  rw [zj5 r]
  rfl
theorem zl3 {ms : List Str} {a : Str} (ha : a ∈ ms) : zgW (.lst (ms.map D.str)) [.str a] = some (.int (ms.findIdx (· == a) : Nat)) := by
 show (ziq (ms.map D.str)).bind _ = _
 rw [zj5, qa, if_pos (List.findIdx_lt_length_of_exists ⟨a, ha, by simp⟩)]
theorem znZ {a b c d : Str} (h1 : zaF a = true) (h2 : zaF b = true) (h3 : zaF c = true) (h4 : zaF d = true) : eqA (.tup [.str a, .str b]) (.tup [.str c, .str d]) = some (.bl (decide (a = c /\ b = d))) := by
 have sh : ∀ {x y : Str}, zaF x = true -> zaF y = true -> SeqAt.shaped (.tuple [.str x, .str y]) = true := fun {x y} p q => by
  simp [SeqAt.shaped, PyData.canLay0, PyData.canLayAll0, zdS p, zdS q, PyData.depth, PyData.depthAll]
 show zr5 _ _ = _
 unfold zr5 eqX
 have e1 : pdD (.tup [.str a, .str b]) = some (.tuple [.str a, .str b]) := rfl
 have e2 : pdD (.tup [.str c, .str d]) = some (.tuple [.str c, .str d]) := rfl
 rw [e1, e2, qa, qa, if_pos ⟨sh h1 h2, sh h3 h4⟩]
 have := zhX [a, b] [c, d]
 have e3 : PyData.eqv (.tuple [.str a, .str b]) (.tuple [.str c, .str d]) = PyData.eqvAll ([a, b].map PyData.str) ([c, d].map PyData.str) := by simp [PyData.eqv]
 rw [e3, this, qd]
 congr 2
 simp
theorem ziY {a b : Str} : ∀ {ls : List LinkT}, (ls.map fun l => [l.a, l.b]).Nodup -> ls.filter (fun l => decide (l.a = a /\ l.b = b)) = (zld ls a b).toList
 | [], _ => rfl
 | l :: r, nd => by
  rw [ql, List.nodup_cons] at nd
  unfold zld
  rw [List.filter_cons, List.find?_cons]
  by_cases h : l.a = a /\ l.b = b
  ·rw [decide_eq_true h]
   have : r.filter (fun l => decide (l.a = a /\ l.b = b)) = [] := by
    rw [List.filter_eq_nil_iff]
    intro x hx z
    have z := of_decide_eq_true z
    exact nd.1 (List.mem_map.mpr ⟨x, hx, by rw [z.1, z.2, h.1, h.2]⟩)
   rw [this]
   rfl
  ·rw [decide_eq_false h]
   exact ziY nd.2
def pL (a b : Str) : D -> Bool
 | .tup [.str x, .str y, _] => decide (x = a /\ y = b)
 | _ => false
def fL : D -> D
 | .tup [_, _, g] => g
 | _ => .non
theorem zoI (a b : Str) : ∀ ls : List LinkT, ((ls.map za9).filter (pL a b)).map fL = ((ls.filter (fun l => decide (l.a = a /\ l.b = b))).map (·.g)).map D.int
 | [] => rfl
 | l :: r => by
  have ih := zoI a b r
  rw [ql, List.filter_cons, List.filter_cons]
  have e : pL a b (za9 l) = decide (l.a = a /\ l.b = b) := rfl
  rw [e]
  by_cases h : l.a = a /\ l.b = b
  ·rw [decide_eq_true h]
   exact congrArg (D.int l.g :: ·) ih
  ·rw [decide_eq_false h]
   exact ih
theorem zjW {f g : FT} {ρ : zaX} (h : f ρ = some false) : zfz f g ρ = some false := by unfold zfz; rw [h]; rfl
theorem zdY {f g : FT} {ρ : zaX} {b : Bool} (h : f ρ = some true) (h2 : g ρ = some b) : zfz f g ρ = some b := by
 rw [zgE h h2]; rfl
end Law
end
section
namespace Law
open PySem L2
section
variable {bs : List BenchT} {ss : List StepT} {js : List JobT} {us : List SetT} {ls : List LinkT} {ks : List StockT} {h : Int}
def gcT : FT := zfz (toB (b2 ixD (vSh 4) (vC (.int 3)))) (zfz (toB (b2 ziT (vSh 1) (b2 ixD (vSh 4) (vC (.int 4))))) (zfz (toB (b2 ziT (vSh 2) (b2 ixD (vSh 4) (vC (.int 4))))) (toB (b2 ltD (mF zgW (b2 ixD (vSh 4) (vC (.int 4))) (zaa (vSh 1) zai)) (mF zgW (b2 ixD (vSh 4) (vC (.int 4))) (zaa (vSh 2) zai))))))
theorem zrK {g : D -> FQ} {f : FE} {fr : FA} {ρ : zaX} {d z : D} {ds : List D} (h1 : f ρ = some d) (h2 : fr ρ = some ds) (h3 : g d ds = some z) : mF g f fr ρ = some z := by
 unfold mF; rw [h1, qa, h2, qa]; exact h3
theorem zrL (i j : Nat) : ltD (.int (i : Int)) (.int (j : Int)) = some (.bl (decide (i < j))) := by
 show some (D.bl (decide ((i : Int) < (j : Int)))) = _
 congr 2
 simp
theorem ztb {L : D} {a b : Str} {o : Option Slot} {j : JobT} (ha : zaF a = true) (hb : zaF b = true) (hn : ∀ x ∈ j.ms, zaF x = true) (nd : j.ms.Nodup) : gcT [oS L, oS (.str a), oS (.str b), o, oS (zbK j)] = some (j.od && zim j.ms a b) := by
 have e0 : toB (b2 ixD (vSh 4) (vC (.int 3))) [oS L, oS (.str a), oS (.str b), o, oS (zbK j)] = some j.od := zaO (zau rfl rfl zrW)
 have e1 : toB (b2 ziT (vSh 1) (b2 ixD (vSh 4) (vC (.int 4)))) [oS L, oS (.str a), oS (.str b), o, oS (zbK j)] = some (decide (a ∈ j.ms)) := zaO (zau rfl (zau rfl rfl zm7) (zjK ha hn))
 have e2 : toB (b2 ziT (vSh 2) (b2 ixD (vSh 4) (vC (.int 4)))) [oS L, oS (.str a), oS (.str b), o, oS (zbK j)] = some (decide (b ∈ j.ms)) := zaO (zau rfl (zau rfl rfl zm7) (zjK hb hn))
 unfold gcT
 by_cases ho : j.od = true
 ·rw [ho] at e0 ⊢
  rw [Bool.true_and]
  by_cases h1 : a ∈ j.ms
  ·rw [decide_eq_true h1] at e1
   by_cases h2 : b ∈ j.ms
   ·rw [decide_eq_true h2] at e2
    have e3 : toB (b2 ltD (mF zgW (b2 ixD (vSh 4) (vC (.int 4))) (zaa (vSh 1) zai)) (mF zgW (b2 ixD (vSh 4) (vC (.int 4))) (zaa (vSh 2) zai))) [oS L, oS (.str a), oS (.str b), o, oS (zbK j)] = some (decide (j.ms.findIdx (· == a) < j.ms.findIdx (· == b))) :=
     zaO (zau (zrK (zau rfl rfl zm7) (zaj rfl zaB) (zl3 h1)) (zrK (zau rfl rfl zm7) (zaj rfl zaB) (zl3 h2)) (zrL _ _))
    have e4 : zim j.ms a b = decide (j.ms.findIdx (· == a) < j.ms.findIdx (· == b)) := by
     rw [Bool.eq_iff_iff, zkd nd, decide_eq_true_iff]
     exact ⟨fun z => z.2.2, fun z => ⟨h1, h2, z⟩⟩
    rw [e4]
    exact zdY e0 (zdY e1 (zdY e2 e3))
   ·rw [decide_eq_false h2] at e2
    have e4 : zim j.ms a b = false := Bool.eq_false_iff.mpr fun z => h2 (zdU z).2
    rw [e4]
    exact zdY e0 (zdY e1 (zjW e2))
  ·rw [decide_eq_false h1] at e1
   have e4 : zim j.ms a b = false := Bool.eq_false_iff.mpr fun z => h1 (zdU z).1
   rw [e4]
   exact zdY e0 (zjW e1)
 ·have ho' : j.od = false := by simpa using ho
  rw [ho'] at e0 ⊢
  exact zjW e0
theorem zfT {L : D} {a b : Str} (ha : zaF a = true) (hb : zaF b = true) : ∀ (js : List JobT) (gs : List Int) (z : Option Slot), (∀ j ∈ js, (∀ x ∈ j.ms, zaF x = true) /\ j.ms.Nodup) -> gs.length + js.length <= 900 ->
  ∃ z' k, zho (zaG 4) (sIf gcT (zdp 3 (vC (.int 0))) zb8) (js.map zbK) [oS L, oS (.str a), oS (.str b), some (.own (gs.map D.int)), z] = some (.nx, [oS L, oS (.str a), oS (.str b), some (.own ((gs ++ List.replicate k 0).map D.int)), z']) /\ (k = 0 ↔ (js.any fun j => j.od && zim j.ms a b) = false)
 | [], gs, z, _, _ => ⟨z, 0, by rw [List.replicate_zero, List.append_nil]; rfl, by simp⟩
 | j :: r, gs, z, hj, hl => by
  rw [qh] at hl
  have eC := ztb (L := L) (o := some (.own (gs.map D.int))) (j := j) ha hb (hj j qf).1 (hj j qf).2
  by_cases hc : (j.od && zim j.ms a b) = true
  ·rw [hc] at eC
   obtain ⟨z', k, h1, h2⟩ := zfT ha hb r (gs ++ [0]) (oS (zbK j)) (fun x hx => hj x (qg _ hx)) (by rw [qi, List.length_singleton]; omega)
   refine ⟨z', k + 1, zcj rfl ((zmf eC).trans (zds (g := D.int) (x := (0 : Int)) rfl rfl (by omega))) ?_, ?_⟩
   ·rw [List.append_assoc] at h1
    exact h1
   ·rw [List.any_cons, hc, Bool.true_or]
    simp
  ·have hc' : (j.od && zim j.ms a b) = false := by simpa using hc
   rw [hc'] at eC
   obtain ⟨z', k, h1, h2⟩ := zfT ha hb r gs (oS (zbK j)) (fun x hx => hj x (qg _ hx)) (by omega)
   refine ⟨z', k, zcj rfl (zp8 eC) h1, ?_⟩
   rw [List.any_cons, hc', Bool.false_or]
   exact h2
def zsX : Option Int -> D
 | some g => .int g
 | none => .non
theorem zl5 (g : Good bs ss js us ls ks h) {a b : Str} (ha : zaF a = true) (hb : zaF b = true) : zbL [zbm bs ss js us ls ks h, .str a, .str b] = some (zsX (ziV js ls a b)) := by
 have hsn := g.snn
 have hjm : ∀ j ∈ js, (∀ x ∈ j.ms, zaF x = true) /\ j.ms.Nodup := fun j hj => ⟨fun y hy => hsn y ((g.j j hj).ms y hy), (List.pairwise_flatMap.mp g.jm).1 j hj⟩
 have eO : zaE (itF (b2 ixD (vSh 0) (vC (.int 4)))) (zaG 0) (toB (b2 eqA (slF (vSh 0) pN (pS (vC (.int 2)))) (zbu (szF (zaa (vSh 1) (zaa (vSh 2) zai)))))) (b2 ixD (vSh 0) (vC (.int 2))) [none, some 1, some 2] [oS (zbm bs ss js us ls ks h), oS (.str a), oS (.str b), none, none] = some (((zld ls a b).toList.map (·.g)).map D.int) := by
  rw [← ziY g.ln, ← zoI]
  refine zoO (r := [oS (.str a), oS (.str b)]) (a := none) (xs := ls.map za9) ?_ (by rw [qe]; exact szN g.ll (by decide)) rfl fun x hx => ?_
  ·unfold itF
   rw [zau rfl rfl (ixL _ 4)]
   rfl
  ·obtain ⟨l, hl, rfl⟩ := List.mem_map.mp hx
   have gl := g.l l hl
   have e1 : slF (vSh 0) pN (pS (vC (.int 2))) [oS (za9 l), oS (.str a), oS (.str b)] = some (.tup [.str l.a, .str l.b]) := by
    simp only [vSh, vC, slF, pN, pS, qb, qa, za9, zsy]
   exact ⟨zaO (zau e1 (zcp rfl rfl) (znZ (hsn _ gl.a) (hsn _ gl.b) ha hb)), fun _ => zau rfl rfl zp6⟩
 obtain ⟨z', k, h1, hk⟩ := zfT (L := zbm bs ss js us ls ks h) ha hb js ((zld ls a b).toList.map (·.g)) none hjm (by
  have := g.jl
  rw [qe]
  cases zld ls a b <;> simp <;> omega)
 have eJ : itF (b2 ixD (vSh 0) (vC (.int 2))) [oS (zbm bs ss js us ls ks h), oS (.str a), oS (.str b), some (.own (((zld ls a b).toList.map (·.g)).map D.int)), none] = some (js.map zbK) := by
  unfold itF
  rw [zau rfl rfl (ixL _ 2)]
  rfl
 refine za1 [oS (zbm bs ss js us ls ks h), oS (.str a), oS (.str b), none, none] rfl ((zf7 eO).trans ((zcb ((zcx eJ).trans h1)).trans ((zdt rfl).trans (zaY ?_))))
 show (zjJ (((zld ls a b).toList.map LinkT.g ++ List.replicate k 0).map D.int)).map mxI = _
 rw [zkp, qd]
 congr 1
 unfold ziV
 cases e : zld ls a b with
 | some l =>
  have hl : l ∈ ls := List.mem_of_find?_eq_some e
  exact ziM (g.l l hl).g.1
 | none =>
  show mxI (List.replicate k 0) = zsX (if _ then _ else _)
  cases k with
  | zero =>
   rw [if_neg (by rw [hk.mp rfl]; exact qp)]
   rfl
  | succ k =>
   have : (js.any fun j => j.od && zim j.ms a b) = true := by
    rcases Bool.eq_false_or_eq_true (js.any fun j => j.od && zim j.ms a b) with z | z
    ·exact z
    ·exact absurd (hk.mpr z) (by simp)
   rw [if_pos this, List.replicate_succ]
   exact ziM (Int.le_refl 0)
end
end Law
end
section
namespace Law
open PySem L2
theorem zoA {f g : FT} {ρ : zaX} {a b : Bool} (h1 : f ρ = some a) (h2 : g ρ = some b) : orT f g ρ = some (a || b) := by
 unfold orT; rw [h1, qa, h2]; cases a <;> rfl
theorem zqD {α : Type} {g : α -> D} {xs : List α} {x : α} {i : Nat} {f : FE} {ρ : zaX} (h1 : ρ[i]? = some (some (.own (xs.map g)))) (h2 : f ρ = some (g x)) (h3 : xs.length <= 10000) : zdp i f ρ = some (.nx, ρ.set i (some (.own ((xs ++ [x]).map g)))) := by
 rw [zht h1 h2 (by rw [qe]; unfold sizeLine; omega), List.map_append]; rfl
theorem znt {i j : Int} (h : 0 <= j /\ j <= 1000000 /\ i.natAbs < 2 ^ 64) : zpp (.int i) (.int j) = some (.int (i ^ j.toNat)) := if_pos h
theorem znG {x : D} {p : PyData} (h0 : neD x x = none) (hp : pdD x = some p) (hs : SeqAt.shaped p = true) (he : PyData.eqv p p = true) : neA x x = some (.bl false) := by
 have e0 : neA x x = zpR x x := by unfold neA orG; rw [h0]
 rw [e0]
 unfold zpR eqX
 rw [hp, qa, qa, if_pos ⟨hs, hs⟩, he]
 rfl
def pT (t : GT) : PyData := .tuple [.str t.1, .str t.2.1, .int t.2.2]
theorem zrv : ∀ (ts : List GT), zil (ts.map dG) = some (ts.map pT)
 | [] => rfl
 | w :: r => by simp [zil, pdD, dG, pT, zrv r]
theorem zoC : ∀ {ts : List GT}, (∀ t ∈ ts, zaF t.1 = true /\ zaF t.2.1 = true) -> PyData.canLayAll0 (ts.map pT) = true
 | [], _ => by simp [PyData.canLayAll0]
 | w :: r, h => by
  have := zoC fun y hy => h y (qg _ hy)
  have h1 := h w qf
  simp only [ql, PyData.canLayAll0, pT, PyData.canLay0, zdS h1.1, zdS h1.2, Bool.true_and, this]
theorem zkw : ∀ (ts : List GT), PyData.depthAll (ts.map pT) <= 1
 | [] => by simp [PyData.depthAll]
 | w :: r => by
  have := zkw r
  simp only [ql, PyData.depthAll, pT, PyData.depth]
  omega
theorem zoJ : ∀ (ts : List GT), PyData.eqvAll (ts.map pT) (ts.map pT) = true
 | [] => by simp [PyData.eqvAll]
 | w :: r => by simp [PyData.eqvAll, PyData.eqv, pT, zoJ r]
theorem zo9 {ts : List GT} (h : ∀ t ∈ ts, zaF t.1 = true /\ zaF t.2.1 = true) : neA (.lst (ts.map dG)) (.lst (ts.map dG)) = some (.bl false) :=
 znG (p := .list (ts.map pT)) rfl (by simp [pdD, zrv]) (by
  have := zkw ts
  simp [SeqAt.shaped, PyData.canLay0, zoC h, PyData.depth]
  omega) (by simp [PyData.eqv, zoJ])
theorem znV {α : Type} (l : List α) : ziT (.bl true) (.lst (l.map fun _ => D.bl false)) = some (.bl false) := by
 have p1 : ∀ l : List α, zil (l.map fun _ => D.bl false) = some (l.map fun _ => PyData.bool false) := fun l => by
  induction l with
  | nil => rfl
  | cons x r ih => simp [zil, pdD, ih]
 have p2 : ∀ l : List α, PyData.canLayAll0 (l.map fun _ => PyData.bool false) = true := fun l => by
  induction l with
  | nil => simp [PyData.canLayAll0]
  | cons x r ih => simp only [ql, PyData.canLayAll0, PyData.canLay0, ih, Bool.true_and]
 have p3 : ((l.map fun _ => PyData.bool false).any fun z => PyData.eqv z (.bool true)) = false := by
  rw [List.any_eq_false]
  intro x hx
  obtain ⟨_, _, rfl⟩ := List.mem_map.mp hx
  simp [PyData.eqv]
 have e1 : pdD (.bl true) = some (.bool true) := rfl
 have e2 : pdD (.lst (l.map fun _ => D.bl false)) = some (.list (l.map fun _ => PyData.bool false)) := by
  show (zil _).map _ = _
  rw [p1]
  rfl
 unfold ziT inX
 rw [e1, e2, qa, qa]
 show (if SeqAt.shaped (.bool true) = true /\ PyData.canLayAll0 (l.map fun _ => PyData.bool false) = true then some ((l.map fun _ => PyData.bool false).any fun z => PyData.eqv z (.bool true)) else none).map D.bl = _
 rw [if_pos ⟨by simp [SeqAt.shaped, PyData.canLay0, PyData.depth], p2 l⟩, p3]
 rfl
theorem zrY : zji "int" "bool" = some false := rfl
section
variable {bs : List BenchT} {ss : List StepT} {js : List JobT} {us : List SetT} {ls : List LinkT} {ks : List StockT} {h : Int}
abbrev zE (ns : List Int) (bs : List BenchT) (ss : List StepT) (js : List JobT) (us : List SetT) (ls : List LinkT) (ks : List StockT) (h : Int) (xs : List GT) (a b c d e : Option Slot) : zaX := [oS (.scr ns), oS (.int h), oS (zbm bs ss js us ls ks h), oS (zcC bs ss js us ls ks h), some (.own (xs.map dG)), a, b, c, d, e]
def iB : FS := zaA (zbg 7 (cF zbL (zaa (vSh 2) (zaa (b2 ixD (vSh 5) (vC (.int 0))) (zaa (b2 ixD (vSh 6) (vC (.int 0))) zai))))) (sIf (toB (b2 zhl (vSh 7) (vC .non))) (zdp 4 (zbu (szF (zaa (b2 ixD (vSh 5) (vC (.int 0))) (zaa (b2 ixD (vSh 6) (vC (.int 0))) (zaa (vSh 7) zai)))))) zb8)
theorem zs7 (g : Good bs ss js us ls ks h) {ns : List Int} {s : StepT} (hs : zaF s.nm = true) {d e : Option Slot} : ∀ (ts : List StepT) (xs : List GT) (y z : Option Slot), (∀ t ∈ ts, zaF t.nm = true) -> xs.length + ts.length <= 9000 ->
  ∃ y' z', zho (zaG 6) iB (ts.map zaN) (zE ns bs ss js us ls ks h xs (oS (zaN s)) y z d e) = some (.nx, zE ns bs ss js us ls ks h (xs ++ zeK js ls (ts.map (·.nm)) s.nm) (oS (zaN s)) y' z' d e)
 | [], xs, y, z, _, _ => ⟨y, z, by
  have : zeK js ls (([] : List StepT).map (·.nm)) s.nm = [] := rfl
  rw [this, List.append_nil]
  rfl⟩
 | t :: r, xs, y, z, hn, hl => by
  rw [qh] at hl
  have ht := hn t qf
  have hg := zl5 g (a := s.nm) (b := t.nm) hs ht
  have e7 : cF zbL (zaa (vSh 2) (zaa (b2 ixD (vSh 5) (vC (.int 0))) (zaa (b2 ixD (vSh 6) (vC (.int 0))) zai))) (zE ns bs ss js us ls ks h xs (oS (zaN s)) (oS (zaN t)) z d e) = some (zsX (ziV js ls s.nm t.nm)) :=
   zaU (zaj rfl (zaj (zau rfl rfl zhk) (zaj (zau rfl rfl zhk) zaB))) hg
  cases eg : ziV js ls s.nm t.nm with
  | none =>
   rw [eg] at e7
   have er : zeK js ls ((t :: r).map (·.nm)) s.nm = zeK js ls (r.map (·.nm)) s.nm := by
    unfold zeK
    rw [ql, List.filterMap_cons, eg]
    rfl
   obtain ⟨y', z', hz⟩ := zs7 g hs (ns := ns) (d := d) (e := e) r xs (oS (zaN t)) (oS .non) (fun x hx => hn x (qg _ hx)) (by omega)
   rw [er]
   exact ⟨y', z', zcj rfl ((zaD e7).trans (zp8 (zaO (zau rfl rfl rfl)))) hz⟩
  | some q =>
   rw [eg] at e7
   have er : zeK js ls ((t :: r).map (·.nm)) s.nm = (s.nm, t.nm, q) :: zeK js ls (r.map (·.nm)) s.nm := by
    unfold zeK
    rw [ql, List.filterMap_cons, eg]
    rfl
   obtain ⟨y', z', hz⟩ := zs7 g hs (ns := ns) (d := d) (e := e) r (xs ++ [(s.nm, t.nm, q)]) (oS (zaN t)) (oS (.int q)) (fun x hx => hn x (qg _ hx)) (by rw [qi, List.length_singleton]; omega)
   have er2 : xs ++ zeK js ls ((t :: r).map (·.nm)) s.nm = xs ++ [(s.nm, t.nm, q)] ++ zeK js ls (r.map (·.nm)) s.nm := by rw [er, List.append_assoc]; rfl
   rw [er2]
   exact ⟨y', z', zcj rfl ((zaD e7).trans ((zmf (zaO (zau rfl rfl rfl))).trans (zqD (g := dG) (x := (s.nm, t.nm, q)) rfl (zfV (zau rfl rfl zhk) (zau rfl rfl zhk) rfl) (by omega)))) hz⟩
theorem zrw (g : Good bs ss js us ls ks h) {ns : List Int} {d e : Option Slot} : ∀ (ts : List StepT) (xs : List GT) (x y z : Option Slot), (∀ t ∈ ts, zaF t.nm = true) -> xs.length + ts.length * 40 <= 8000 ->
  ∃ x' y' z', zho (zaG 5) (zdo (itF (b2 ixD (vSh 2) (vC (.int 1)))) (zaG 6) iB) (ts.map zaN) (zE ns bs ss js us ls ks h xs x y z d e) = some (.nx, zE ns bs ss js us ls ks h (xs ++ (ts.map (·.nm)).flatMap (zeK js ls (ss.map (·.nm)))) x' y' z' d e)
 | [], xs, x, y, z, _, _ => ⟨x, y, z, by
  have : (([] : List StepT).map (·.nm)).flatMap (zeK js ls (ss.map (·.nm))) = [] := rfl
  rw [this, List.append_nil]
  rfl⟩
 | t :: r, xs, x, y, z, hn, hl => by
  rw [qh, Nat.succ_mul] at hl
  have hsl := g.sl.2
  obtain ⟨y1, z1, h1⟩ := zs7 g (hn t qf) (ns := ns) (d := d) (e := e) ss xs y z (fun x hx => (g.s x hx).nm) (by omega)
  have hr := zhI js ls (ss.map (·.nm)) t.nm
  rw [qe] at hr
  obtain ⟨x2, y2, z2, h2⟩ := zrw g (ns := ns) (d := d) (e := e) r (xs ++ zeK js ls (ss.map (·.nm)) t.nm) (oS (zaN t)) y1 z1 (fun x hx => hn x (qg _ hx)) (by rw [qi]; omega)
  have eI : itF (b2 ixD (vSh 2) (vC (.int 1))) (zE ns bs ss js us ls ks h xs (oS (zaN t)) y z d e) = some (ss.map zaN) := by
   unfold itF
   rw [zau rfl rfl (ixL _ 1)]
   rfl
  have er2 : xs ++ ((t :: r).map (·.nm)).flatMap (zeK js ls (ss.map (·.nm))) = xs ++ zeK js ls (ss.map (·.nm)) t.nm ++ (r.map (·.nm)).flatMap (zeK js ls (ss.map (·.nm))) := by
   rw [ql, List.flatMap_cons, List.append_assoc]
  rw [er2]
  exact ⟨x2, y2, z2, zcj rfl ((zcx eI).trans h1) h2⟩
theorem zpc (g : Good bs ss js us ls ks h) : ∀ t ∈ (ss.map (·.nm)).flatMap (zeK js ls (ss.map (·.nm))), zaF t.1 = true /\ zaF t.2.1 = true := fun t ht => by
 obtain ⟨a, ha, ht⟩ := List.mem_flatMap.mp ht
 unfold zeK at ht
 obtain ⟨b, hb, ht⟩ := List.mem_filterMap.mp ht
 obtain ⟨q, _, rfl⟩ := oMd ht
 exact ⟨g.snn a ha, g.snn b hb⟩
theorem znQ (ns : List Int) (hlen : ns.length <= 63) : zsq [.scr ns] = some (.bl true) := by
 have a0 : 0 <= (ns.getD 21 0) % 3 := Int.emod_nonneg _ (by decide)
 have a1 : (ns.getD 21 0) % 3 < 3 := Int.emod_lt_of_pos _ (by decide)
 have b0 : 0 <= (ns.getD 22 0) % 10 := Int.emod_nonneg _ (by decide)
 have b1 : (ns.getD 22 0) % 10 < 10 := Int.emod_lt_of_pos _ (by decide)
 obtain ⟨n, hn⟩ : ∃ n : Nat, 1 + (ns.getD 22 0) % 10 = (n : Int) := ⟨(1 + (ns.getD 22 0) % 10).toNat, by omega⟩
 have pw : zpp (.int 10) (.int 6) = some (.int 1000000) := znt (by decide)
 obtain ⟨h, hh, hr⟩ : ∃ h : Int, ixD (.lst [.int 9, .int 40, .int 1000000]) (.int ((ns.getD 21 0) % 3)) = some (.int h) /\ (1 <= h /\ h <= 1000000) := by
  have : (ns.getD 21 0) % 3 = 0 \/ (ns.getD 21 0) % 3 = 1 \/ (ns.getD 21 0) % 3 = 2 := by omega
  rcases this with z | z | z <;> rw [z]
  ·exact ⟨9, rfl, by decide⟩
  ·exact ⟨40, rfl, by decide⟩
  ·exact ⟨1000000, rfl, by decide⟩
 obtain ⟨bs, ss, js, us, l0, ks, e2, g0, jl, l2⟩ := znO ns n h 7 (by omega) hr (by decide)
 obtain ⟨ls, eM, g⟩ := zjz g0 l2 ns hlen
 have ml : (js.flatMap (·.ms)).length <= 300 := by
  have := zhV (f := fun j : JobT => j.ms) (m := 40) (l := js) fun j hj => Nat.le_trans (g.j j hj).ln (by rw [qe]; exact g.sl.2)
  omega
 have e1 : b2 ixD (zaS (szF (zaa (vC (.int 9)) (zaa (vC (.int 40)) (zaa (b2 zpp (vC (.int 10)) (vC (.int 6))) zai))))) (b2 zcn (cF zay (zaa (vSh 0) (zaa (vC (.int 21)) zai))) (vC (.int 3))) [oS (.scr ns), none, none, none, none, none, none, none, none, none] = some (.int h) :=
  zau (zhP rfl rfl (zau rfl rfl pw)) (zau (zaU (zaj rfl (zaj rfl zaB)) (zeu ns 21)) rfl (zcq (by decide))) hh
 have e22 : b2 zbf (vC (.int 1)) (b2 zcn (cF zay (zaa (vSh 0) (zaa (vC (.int 22)) zai))) (vC (.int 10))) [oS (.scr ns), oS (.int h), none, none, none, none, none, none, none, none] = some (.int (n : Int)) :=
  zau rfl (zau (zaU (zaj rfl (zaj rfl zaB)) (zeu ns 22)) rfl (zcq (by decide))) (by rw [← hn]; rfl)
 have hSh := zo7 g ml
 have hK := znS g
 have hXn := zpc g
 have hsl := g.sl.2
 have hXl := zhH js ls (ss.map (·.nm)) (ss.map (·.nm))
 rw [qe] at hXl
 have hX1 : ss.length * ss.length <= 40 * 40 := Nat.mul_le_mul hsl hsl
 obtain ⟨x', y', z', h1⟩ := zrw g (ns := ns) (d := none) (e := none) ss [] none none none (fun x hx => (g.s x hx).nm) (by rw [qk]; omega)
 rw [List.nil_append] at h1
 have eI1 : itF (b2 ixD (vSh 2) (vC (.int 1))) (zE ns bs ss js us ls ks h [] none none none none none) = some (ss.map zaN) := by
  unfold itF
  rw [zau rfl rfl (ixL _ 1)]
  rfl
 generalize (ss.map (·.nm)).flatMap (zeK js ls (ss.map (·.nm))) = XX at hK hXn hXl h1
 have hXs : (XX.map dG).length < sizeLine := by
  rw [qe]
  unfold sizeLine
  omega
 obtain ⟨ρ', h3, a, b, c, d, e, h4⟩ := zch (gg := zaG 8) (body := (zaA (zeH 9 (cFO zaV (zaa (vSh 3) zai))) (zaA (sIf (bwT 9 (bwT 4 (orT (zb6 (toB (cF zd7 (zaa (vSh 9) (zaa (vC (.ty "list")) zai))))) (orT (toB (b2 neA (vSh 9) (vSh 4))) (toB (b2 ziT (vC (.bl true)) (zaS (zaE (itF (vSh 9)) (zaG 0) tT (cF zd7 (zaa (b2 ixD (vSh 0) (vC (.int 2))) (zaa (vC (.ty "bool")) zai))) [none])))))))) (zbc (vC (.bl false))) zb8) (zdp 9 (vC .non))))) (xs := (List.range (2 : Int).toNat).map fun k : Nat => D.int (0 + k)) (ρ := zE ns bs ss js us ls ks h XX x' y' z' none none)
  (fun i ρ => ∃ a b c d e, ρ = zE ns bs ss js us ls ks h XX a b c d e) ⟨_, _, _, _, _, rfl⟩ (fun i x ρ hx hI => by
   obtain ⟨a, b, c, d, e, rfl⟩ := hI
   have eO : cFO zaV (zaa (vSh 3) zai) (zE ns bs ss js us ls ks h XX a b c (oS x) e) = some (XX.map dG) := by
    unfold cFO
    rw [zaj (d := zcC bs ss js us ls ks h) (ds := []) rfl zaB]
    exact hK
   have eC : zaS (zaE (itF (vSh 9)) (zaG 0) tT (cF zd7 (zaa (b2 ixD (vSh 0) (vC (.int 2))) (zaa (vC (.ty "bool")) zai))) [none]) [oS (.scr ns), oS (.int h), oS (zbm bs ss js us ls ks h), oS (zcC bs ss js us ls ks h), oS (.lst (XX.map dG)), a, b, c, oS x, oS (.lst (XX.map dG))] = some (.lst (XX.map fun _ => D.bl false)) := by
    refine (zbj (r := []) (a := none) (xs := XX.map dG) (f := fun _ => D.bl false) rfl (Nat.le_of_lt hXs) rfl fun x hx => ?_).trans (by rw [qm]; rfl)
    obtain ⟨t, _, rfl⟩ := List.mem_map.mp hx
    exact zaU (zaj (zau rfl rfl zp6) (zaj rfl zaB)) (by simp only [zd7, tyD, qa, zrY, qd])
   have eT : bwT 9 (bwT 4 (orT (zb6 (toB (cF zd7 (zaa (vSh 9) (zaa (vC (.ty "list")) zai))))) (orT (toB (b2 neA (vSh 9) (vSh 4))) (toB (b2 ziT (vC (.bl true)) (zaS (zaE (itF (vSh 9)) (zaG 0) tT (cF zd7 (zaa (b2 ixD (vSh 0) (vC (.int 2))) (zaa (vC (.ty "bool")) zai))) [none]))))))) ((zE ns bs ss js us ls ks h XX a b c (oS x) e).set 9 (some (.own (XX.map dG)))) = some false :=
    zmR rfl (zmR rfl (zoA (a := false) (b := false) (by unfold zb6; rw [zaO (b := true) (zaU (zaj rfl (zaj rfl zaB)) (by simp only [zd7, tyD, qa, k1, qd]))]; rfl) (zoA (a := false) (b := false) (zaO (zau rfl rfl (zo9 hXn))) (zaO (zau rfl eC (znV XX))))))
   exact ⟨_, _, rfl, (zf7 eO).trans ((zcJ eT).trans (zht rfl rfl hXs)), a, b, c, oS x, some (.own (XX.map dG ++ [.non])), rfl⟩)
 subst h4
 have eI : itR ziF (zaa (vC (.int 2)) zai) (zE ns bs ss js us ls ks h XX x' y' z' none none) = some ((List.range (2 : Int).toNat).map fun k : Nat => D.int (0 + k)) := zgj (zaj rfl zaB) (ze8 (j := 2) (by decide))
 exact za1 [oS (.scr ns), none, none, none, none, none, none, none, none, none] rfl ((zaD e1).trans ((zaD (zaU (zaj rfl (zaj (zaU (zaj rfl (zaj e22 (zaj rfl (zaj rfl zaB)))) e2) zaB)) eM)).trans ((zaD (zaU (zaj rfl zaB) hSh)).trans (zdI.trans ((zcb ((zcx eI1).trans h1)).trans ((zcb ((zcx eI).trans h3)).trans (zaY (f := vC (.bl true)) rfl)))))))
end
end Law
end
section
namespace Law
open PySem L2 PySem.Spec PyProof.Rows
def Gam (C_Shop : Addr) : Cn := ⟨fun c => if c = "Shop" then some C_Shop else none, none⟩
def zo3 (K : PySem.W.Frag) : Sp := fun vs H Q _ => ∃ (a : Addr) (ns : List Int), vs = [.ref a] /\ SqL K H a (ns.map V.int) /\ ns.length <= 63 /\ ∀ H', Q (.bl true) H'
theorem all_mk {l : PySem.W.OpenLaw} {w : World} {K : PySem.W.Frag} {h : Heap} {mg : Str -> Option Value} {fa : Addr} (X : K.In h) (G : h.Ns mainGlobals mg) (hfa : mg "law" = some (.ref fa))
  {C_Shop : Addr} (aC_Shop : PySem.W.nsIn K mainGlobals "Shop" = some (some (.ref C_Shop)))
  (d0 : Dfn K mg "_law_cell" zer)
  (d1 : Dfn K mg "_law_digits" zdn)
  (d2 : Dfn K mg "_law_spans" zdD)
  (d3 : Dfn K mg "_law_name" zeo)
  (d4 : Dfn K mg "_law_benches" zc3)
  (d5 : Dfn K mg "_law_steps" zdC)
  (d6 : Dfn K mg "_law_jobs" zeq)
  (d7 : Dfn K mg "_law_setups" zdm)
  (d8 : Dfn K mg "_law_links" zdF)
  (d9 : Dfn K mg "_law_stocks" zdl)
  (d10 : Dfn K mg "_law_lists" zdE)
  (d11 : Dfn K mg "_law_more" zep)
  (d12 : Dfn K mg "is_whole" zeZ)
  (d13 : Dfn K mg "is_within" zei)
  (d14 : Dfn K mg "is_tuple" ze0)
  (d15 : Dfn K mg "is_break" ze3)
  (d16 : Dfn K mg "is_list" zf2)
  (d17 : Dfn K mg "are_breaks" zdB)
  (d18 : Dfn K mg "is_name" zf1)
  (d19 : Dfn K mg "is_bench" ze4)
  (d20 : Dfn K mg "are_unlike" zdy)
  (d21 : Dfn K mg "are_benches" zdj)
  (d22 : Dfn K mg "is_one_of" zej)
  (d23 : Dfn K mg "is_way" zhF)
  (d24 : Dfn K mg "are_ways" ze5)
  (d25 : Dfn K mg "is_step" zf0)
  (d26 : Dfn K mg "are_steps" zel)
  (d27 : Dfn K mg "is_job" zhG)
  (d28 : Dfn K mg "are_jobs" ze6)
  (d29 : Dfn K mg "is_setup" ze2)
  (d30 : Dfn K mg "are_setups" zdA)
  (d31 : Dfn K mg "is_link" zf3)
  (d32 : Dfn K mg "are_links" zem)
  (d33 : Dfn K mg "is_amount" zek)
  (d34 : Dfn K mg "are_amounts" zdk)
  (d35 : Dfn K mg "is_stock" ze1)
  (d36 : Dfn K mg "are_stocks" zdz)
  (d37 : Dfn K mg "first_bad_part" zcK)
  (d38 : Dfn K mg "fresh" zju)
  (d39 : DfnM K C_Shop "Shop" "__init__" "Shop.__init__" zcS)
  (d40 : Dfn K mg "_law_shop" zen)
  (d41 : Dfn K mg "_law_gap" ze7)
  (d42 : DfnM K C_Shop "Shop" "step_names" "Shop.step_names" zcz)
  (d43 : DfnM K C_Shop "Shop" "job_rows" "Shop.job_rows" zcR)
  (d44 : Dfn K mg "pairs_of" zeY)
  (d45 : DfnM K C_Shop "Shop" "link_rows" "Shop.link_rows" zcL)
  (d46 : Dfn K mg "greatest_gaps" zcQ)
  (d47 : Dfn K mg "known_orders" zc2)
  (a48 : PySem.W.nsIn K mainGlobals "law" = some (some (.ref f48))) (l48 : K.lookup f48 = some ⟨oc48, od48, .func (PySem.W.fnOf "law" "law" (zcB zfZ) (zbh zfZ) (zal zfZ) .none kV48 dc48 pm48 an48 cd48 ct48), sl48⟩) (c48 : PySem.W.codeIn K cd48 "law" = true) (k48 : PySem.W.keepIn K (.ref f48) = true)
  (pg_Shop : PySem.W.plainGet K C_Shop Str.empty = true) (hd_Shop : PySem.W.hasDictIn K C_Shop = true) (po_Shop : PySem.W.plainOver K C_Shop = true) (sa_Shop : PySem.W.findIn K (.ref C_Shop) "__setattr__" = some (some (.builtin "object.__setattr__"))) (mk_Shop : PySem.W.makesIn K C_Shop = true) (kc_Shop : PySem.W.keepIn K (.ref C_Shop) = true)
  (n0_Shop : PySem.W.findIn K (.ref C_Shop) "benches" = some none)
  (n1_Shop : PySem.W.findIn K (.ref C_Shop) "steps" = some none)
  (n2_Shop : PySem.W.findIn K (.ref C_Shop) "jobs" = some none)
  (n3_Shop : PySem.W.findIn K (.ref C_Shop) "setups" = some none)
  (n4_Shop : PySem.W.findIn K (.ref C_Shop) "links" = some none)
  (n5_Shop : PySem.W.findIn K (.ref C_Shop) "stocks" = some none)
  (n6_Shop : PySem.W.findIn K (.ref C_Shop) "horizon" = some none)
  (n7_Shop : PySem.W.findIn K (.ref C_Shop) "bench_by_name" = some none)
  (n8_Shop : PySem.W.findIn K (.ref C_Shop) "step_by_name" = some none)
  (n9_Shop : PySem.W.findIn K (.ref C_Shop) "setup_by_names" = some none)
  (n10_Shop : PySem.W.findIn K (.ref C_Shop) "job_by_step" = some none)
  (z_abs : PySem.W.nsIn K mainGlobals "abs" = some none)
  (z_all : PySem.W.nsIn K mainGlobals "all" = some none)
  (z_bool : PySem.W.nsIn K mainGlobals "bool" = some none)
  (z_dict : PySem.W.nsIn K mainGlobals "dict" = some none)
  (z_enumerate : PySem.W.nsIn K mainGlobals "enumerate" = some none)
  (z_int : PySem.W.nsIn K mainGlobals "int" = some none)
  (z_isinstance : PySem.W.nsIn K mainGlobals "isinstance" = some none)
  (z_len : PySem.W.nsIn K mainGlobals "len" = some none)
  (z_list : PySem.W.nsIn K mainGlobals "list" = some none)
  (z_max : PySem.W.nsIn K mainGlobals "max" = some none)
  (z_min : PySem.W.nsIn K mainGlobals "min" = some none)
  (z_range : PySem.W.nsIn K mainGlobals "range" = some none)
  (z_set : PySem.W.nsIn K mainGlobals "set" = some none)
  (z_str : PySem.W.nsIn K mainGlobals "str" = some none)
  (z_tuple : PySem.W.nsIn K mainGlobals "tuple" = some none)
  {tk_LONGEST_NAME : Tok} (z_LONGEST_NAME : PySem.W.nsIn K mainGlobals "LONGEST_NAME" = some (some (.int 8 tk_LONGEST_NAME)))
  {tk_MOST_AMOUNT : Tok} (z_MOST_AMOUNT : PySem.W.nsIn K mainGlobals "MOST_AMOUNT" = some (some (.int 1000000 tk_MOST_AMOUNT)))
  {tk_MOST_BENCHES : Tok} (z_MOST_BENCHES : PySem.W.nsIn K mainGlobals "MOST_BENCHES" = some (some (.int 8 tk_MOST_BENCHES)))
  {tk_MOST_BREAKS : Tok} (z_MOST_BREAKS : PySem.W.nsIn K mainGlobals "MOST_BREAKS" = some (some (.int 10 tk_MOST_BREAKS)))
  {tk_MOST_HORIZON : Tok} (z_MOST_HORIZON : PySem.W.nsIn K mainGlobals "MOST_HORIZON" = some (some (.int 1000000 tk_MOST_HORIZON)))
  {tk_MOST_JOBS : Tok} (z_MOST_JOBS : PySem.W.nsIn K mainGlobals "MOST_JOBS" = some (some (.int 40 tk_MOST_JOBS)))
  {tk_MOST_LINKS : Tok} (z_MOST_LINKS : PySem.W.nsIn K mainGlobals "MOST_LINKS" = some (some (.int 100 tk_MOST_LINKS)))
  {tk_MOST_SETUPS : Tok} (z_MOST_SETUPS : PySem.W.nsIn K mainGlobals "MOST_SETUPS" = some (some (.int 100 tk_MOST_SETUPS)))
  {tk_MOST_STEPS : Tok} (z_MOST_STEPS : PySem.W.nsIn K mainGlobals "MOST_STEPS" = some (some (.int 40 tk_MOST_STEPS)))
  {tk_MOST_STOCKS : Tok} (z_MOST_STOCKS : PySem.W.nsIn K mainGlobals "MOST_STOCKS" = some (some (.int 6 tk_MOST_STOCKS)))
  {tk_MOST_WAYS : Tok} (z_MOST_WAYS : PySem.W.nsIn K mainGlobals "MOST_WAYS" = some (some (.int 4 tk_MOST_WAYS)))
  : ∃ fd : FuncData, (∀ (s : Shared) (v : Value), BindsTo s fd ⟨[v], []⟩ [("_law_script", v)]) /\ ∀ base : Heap, K.In base -> base.Ns mainGlobals mg -> FnOk l.prog w K mg base CX0 12 fa fd ["_law_script"] (zo3 K) := by
 have e := hfa.symm.trans (PySem.W.mg_of X G a48)
 have e2 := Value.ref.inj (Option.some.inj e)
 subst e2
 have B : Bn mg := ⟨PySem.W.mg_none_of X G z_abs, PySem.W.mg_none_of X G z_all, PySem.W.mg_none_of X G z_bool, PySem.W.mg_none_of X G z_dict, PySem.W.mg_none_of X G z_enumerate, PySem.W.mg_none_of X G z_int, PySem.W.mg_none_of X G z_isinstance, PySem.W.mg_none_of X G z_len, PySem.W.mg_none_of X G z_list, PySem.W.mg_none_of X G z_max, PySem.W.mg_none_of X G z_min, PySem.W.mg_none_of X G z_range, PySem.W.mg_none_of X G z_set, PySem.W.mg_none_of X G z_str, PySem.W.mg_none_of X G z_tuple, by have q := PySem.W.mg_of X G z_LONGEST_NAME; rw [q]; unfold zd3; rw [q], by have q := PySem.W.mg_of X G z_MOST_AMOUNT; rw [q]; unfold zeE; rw [q], by have q := PySem.W.mg_of X G z_MOST_BENCHES; rw [q]; unfold zd2; rw [q], by have q := PySem.W.mg_of X G z_MOST_BREAKS; rw [q]; unfold zeD; rw [q], by have q := PySem.W.mg_of X G z_MOST_HORIZON; rw [q]; unfold zd1; rw [q], by have q := PySem.W.mg_of X G z_MOST_JOBS; rw [q]; unfold zfX; rw [q], by have q := PySem.W.mg_of X G z_MOST_LINKS; rw [q]; unfold zfs; rw [q], by have q := PySem.W.mg_of X G z_MOST_SETUPS; rw [q]; unfold zeC; rw [q], by have q := PySem.W.mg_of X G z_MOST_STEPS; rw [q]; unfold zfr; rw [q], by have q := PySem.W.mg_of X G z_MOST_STOCKS; rw [q]; unfold zeB; rw [q], by have q := PySem.W.mg_of X G z_MOST_WAYS; rw [q]; unfold zfW; rw [q]⟩
 have O_Shop : ClsOk (Gam C_Shop) K mg "Shop" C_Shop := ⟨by unfold Gam; rfl, ⟨pg_Shop, hd_Shop, po_Shop, sa_Shop⟩, PySem.W.mg_of X G aC_Shop, mk_Shop, kc_Shop⟩
 have cf_Shop : CF (Gam C_Shop) K "Shop" zgD := O_Shop.cf (List.forall_mem_cons.mpr ⟨n0_Shop, (List.forall_mem_cons.mpr ⟨n1_Shop, (List.forall_mem_cons.mpr ⟨n2_Shop, (List.forall_mem_cons.mpr ⟨n3_Shop, (List.forall_mem_cons.mpr ⟨n4_Shop, (List.forall_mem_cons.mpr ⟨n5_Shop, (List.forall_mem_cons.mpr ⟨n6_Shop, (List.forall_mem_cons.mpr ⟨n7_Shop, (List.forall_mem_cons.mpr ⟨n8_Shop, (List.forall_mem_cons.mpr ⟨n9_Shop, (List.forall_mem_cons.mpr ⟨n10_Shop, (List.forall_mem_nil _)⟩)⟩)⟩)⟩)⟩)⟩)⟩)⟩)⟩)⟩)⟩)
 refine ⟨PySem.W.fnOf "law" "law" (zcB zfZ) (zbh zfZ) (zal zfZ) .none kV48 dc48 pm48 an48 cd48 ct48, fun s v => .of_eq rfl, fun base _ _ => ?_⟩
 have C__law_cell : Cal (Gam C_Shop) l.prog w K mg base "_law_cell" 2 1 zay := zig d0 B
 have C__law_digits : Cal (Gam C_Shop) l.prog w K mg base "_law_digits" 3 1 zag := zgB d1 B
 have C__law_spans : Cal (Gam C_Shop) l.prog w K mg base "_law_spans" 2 1 zbp := zg3 d2 B
 have C__law_name : Cal (Gam C_Shop) l.prog w K mg base "_law_name" 1 1 zas := zid d3 B
 have C__law_benches : Cal (Gam C_Shop) l.prog w K mg base "_law_benches" 2 2 zbe := zfN d4 B C__law_digits C__law_spans C__law_name
 have C__law_steps : Cal (Gam C_Shop) l.prog w K mg base "_law_steps" 4 2 zbD := zg2 d5 B C__law_digits C__law_name
 have C__law_jobs : Cal (Gam C_Shop) l.prog w K mg base "_law_jobs" 3 2 zbV := zif d6 B C__law_digits C__law_name
 have C__law_setups : Cal (Gam C_Shop) l.prog w K mg base "_law_setups" 3 2 zbq := zgA d7 B C__law_digits
 have C__law_links : Cal (Gam C_Shop) l.prog w K mg base "_law_links" 3 2 zbF := zg5 d8 B C__law_digits
 have C__law_stocks : Cal (Gam C_Shop) l.prog w K mg base "_law_stocks" 2 2 zbo := zgz d9 B C__law_digits C__law_name
 have C__law_lists : Cal (Gam C_Shop) l.prog w K mg base "_law_lists" 4 3 zbE := zg4 d10 B C__law_cell C__law_benches C__law_steps C__law_jobs C__law_setups C__law_links C__law_stocks
 have C__law_more : Cal (Gam C_Shop) l.prog w K mg base "_law_more" 2 2 zbU := zie d11 B C__law_digits
 have C_is_whole : Cal (Gam C_Shop) l.prog w K mg base "is_whole" 1 1 zb1 := zi3 d12 B
 have C_is_within : Cal (Gam C_Shop) l.prog w K mg base "is_within" 3 2 zam := zh7 d13 B C_is_whole
 have C_is_tuple : Cal (Gam C_Shop) l.prog w K mg base "is_tuple" 2 1 zan := zi4 d14 B
 have C_is_break : Cal (Gam C_Shop) l.prog w K mg base "is_break" 2 3 zb4 := zi7 d15 B C_is_within C_is_tuple
 have C_is_list : Cal (Gam C_Shop) l.prog w K mg base "is_list" 3 1 zao := zjS d16 B
 have C_are_breaks : Cal (Gam C_Shop) l.prog w K mg base "are_breaks" 2 4 zbC := zg1 d17 B C_is_break C_is_list
 have C_is_name : Cal (Gam C_Shop) l.prog w K mg base "is_name" 1 1 zav := zjR d18 B
 have C_is_bench : Cal (Gam C_Shop) l.prog w K mg base "is_bench" 2 5 zb5 := zi8 d19 B C_are_breaks C_is_name C_is_tuple
 have C_are_unlike : Cal (Gam C_Shop) l.prog w K mg base "are_unlike" 1 1 zah := zgY d20 B
 have C_are_benches : Cal (Gam C_Shop) l.prog w K mg base "are_benches" 2 6 zbn := zgx d21 B C_is_bench C_is_list C_are_unlike
 have C_is_one_of : Cal (Gam C_Shop) l.prog w K mg base "is_one_of" 2 2 zat := zh8 d22 B C_is_name
 have C_is_way : Cal (Gam C_Shop) l.prog w K mg base "is_way" 3 3 zcP := zk7 d23 B C_is_within C_is_one_of C_is_tuple
 have C_are_ways : Cal (Gam C_Shop) l.prog w K mg base "are_ways" 3 4 zcl := zi9 d24 B C_is_way C_is_list C_are_unlike
 have C_is_step : Cal (Gam C_Shop) l.prog w K mg base "is_step" 3 5 zcu := zjQ d25 B C_is_name C_is_tuple C_are_ways
 have C_are_steps : Cal (Gam C_Shop) l.prog w K mg base "are_steps" 3 6 zbR := zia d26 B C_is_step C_is_list C_are_unlike
 have C_is_job : Cal (Gam C_Shop) l.prog w K mg base "is_job" 3 3 zc1 := zk8 d27 B C_is_name C_is_tuple C_is_within C_is_one_of C_is_list
 have C_are_jobs : Cal (Gam C_Shop) l.prog w K mg base "are_jobs" 3 4 zcm := zja d28 B C_is_job C_is_list C_are_unlike
 have C_is_setup : Cal (Gam C_Shop) l.prog w K mg base "is_setup" 3 3 zb3 := zi6 d29 B C_is_one_of C_is_tuple C_is_within C_is_name
 have C_are_setups : Cal (Gam C_Shop) l.prog w K mg base "are_setups" 3 4 zbB := zg0 d30 B C_is_setup C_is_list C_are_unlike
 have C_is_link : Cal (Gam C_Shop) l.prog w K mg base "is_link" 3 3 zcv := zjT d31 B C_is_one_of C_is_tuple C_is_within
 have C_are_links : Cal (Gam C_Shop) l.prog w K mg base "are_links" 3 4 zbS := zib d32 B C_is_link C_is_list C_are_unlike
 have C_is_amount : Cal (Gam C_Shop) l.prog w K mg base "is_amount" 2 3 zbH := zh9 d33 B C_is_within C_is_one_of C_is_tuple
 have C_are_amounts : Cal (Gam C_Shop) l.prog w K mg base "are_amounts" 2 4 zbd := zgy d34 B C_is_amount C_is_list C_are_unlike
 have C_is_stock : Cal (Gam C_Shop) l.prog w K mg base "is_stock" 2 5 zb2 := zi5 d35 B C_is_name C_is_tuple C_is_within C_are_amounts
 have C_are_stocks : Cal (Gam C_Shop) l.prog w K mg base "are_stocks" 2 6 zbA := zgZ d36 B C_is_stock C_is_list C_are_unlike
 have C_first_bad_part : Cal (Gam C_Shop) l.prog w K mg base "first_bad_part" 7 7 za0 := zeQ d37 B C_is_within C_are_benches C_are_steps C_are_jobs C_are_setups C_are_links C_are_stocks
 have C_fresh : ∀ n, Cal (Gam C_Shop) l.prog w K mg base "fresh" 1 n (zda n) := fun n => by
  induction n with
  | zero => exact Dfn.none (ps := ["thing"]) d38 (fun _ _ _ _ _ _ us hl => match us, hl with | [_], _ => rfl)
  | succ n ih => exact zmQ d38 B ih
 replace C_fresh : Cal (Gam C_Shop) l.prog w K mg base "fresh" 1 8 zaR := C_fresh 8
 have C_Shop___init__ : CalI (Gam C_Shop) l.prog w K mg base "Shop" 7 9 za8 := zfi O_Shop d39 B C_first_bad_part C_fresh cf_Shop
 have C__law_shop : Cal (Gam C_Shop) l.prog w K mg base "_law_shop" 1 11 zbT := zic d40 B C_Shop___init__
 have C__law_gap : Cal (Gam C_Shop) l.prog w K mg base "_law_gap" 3 1 zbL := zjb d41 B
 have C_Shop_step_names : CalM (Gam C_Shop) l.prog w K mg base "Shop" "step_names" 1 1 zaT := zev O_Shop d42 B cf_Shop
 have C_Shop_job_rows : CalM (Gam C_Shop) l.prog w K mg base "Shop" "job_rows" 1 9 zaW := zfh O_Shop d43 B C_fresh cf_Shop
 have C_pairs_of : Cal (Gam C_Shop) l.prog w K mg base "pairs_of" 1 1 zby := zi2 d44 B
 have C_Shop_link_rows : CalM (Gam C_Shop) l.prog w K mg base "Shop" "link_rows" 1 9 zaP := zeR O_Shop d45 B C_fresh cf_Shop
 have C_greatest_gaps : Cal (Gam C_Shop) l.prog w K mg base "greatest_gaps" 1 10 za7 := zfg d46 B C_Shop_job_rows C_pairs_of C_Shop_link_rows
 have C_known_orders : CalO (Gam C_Shop) l.prog w K mg base "known_orders" 1 11 zaV := zfM d47 B C_Shop_step_names C_greatest_gaps
 have FL := zmk (st := zfZ) l48 c48 k48
 have ok : FnOk l.prog w K mg base CX0 12 fa _ ["_law_script"] (spF (Gam C_Shop) K 1 zsq) := FL.okD (k := 11) zd4 (zqw B C__law_cell C__law_lists C__law_more C__law_shop C__law_gap C_known_orders fa)
 refine ok.imp fun vs H Q E hq => ?_
 obtain ⟨a, ns, rfl, hS, hlen, k⟩ := hq
 exact ⟨H, [.scr ns], .bl true, zca.refl H, .cons (.scr hS) .nil, rfl, znQ ns hlen, fun v G' H' _ r => by rw [r.bl_inv]; exact k H'⟩
theorem walk {l : PySem.W.OpenLaw} {q : Program} {loose : List Str} {XP : (Str -> Option Value) -> Heap -> Prop} {YP : World -> Heap -> Prop} {d : DefRec} {K : Params -> PySem.W.Frag} (hn : l.most = some 63) (hdf : d.params.defaults = [])
  (hY : ∀ (w : World) (h : Heap), YP w h -> (K w.params).In h)
  (F : ∀ (w : World) (mg : Str -> Option Value) (fa : Addr) (h : Heap), (K w.params).In h -> h.Ns mainGlobals mg -> mg d.name = some (.ref fa) ->
   ∃ fd : FuncData, (∀ (s : Shared) (u : Value), BindsTo s fd ⟨[u], []⟩ [("_law_script", u)]) /\ ∀ base : Heap, (K w.params).In base -> base.Ns mainGlobals mg -> FnOk l.prog w (K w.params) mg base CX0 12 fa fd ["_law_script"] (zo3 (K w.params))) :
  PySem.W.WalkO q loose XP YP l.row.toRowW d [] (fun f vs => PySem.call f vs) :=
 L2.walk_of (n := 63) (k := 12) (x := "_law_script") (CX := fun _ => CX0) (sp := fun w => zo3 (K w.params)) hn (by decide) hdf ⟨rfl, by decide, by decide⟩ hY F (fun _ _ a ns hl _ hS => ⟨a, ns, rfl, hS, hl, fun _ => rfl⟩) fun _ _ _ _ _ z => z
end Law
def PySem.W.Fast.tw7684370016598011157 : Unit := ()
def PySem.W.Fast.tw15895139131049994371 : Unit := ()
def PySem.W.Fast.tw16039920813192354968 : Unit := ()
def PySem.W.Fast.tw3619160811344237836 : Unit := ()
def PySem.W.Fast.tw11446889593618966526 : Unit := ()
def PySem.W.Fast.tw12830183861224509727 : Unit := ()
def PySem.W.Fast.tw2983221465312253033 : Unit := ()
def PySem.W.Fast.tw12952722867687763394 : Unit := ()
def PySem.W.Fast.tw9768286471098739100 : Unit := ()
def PySem.W.Fast.tw10943958974203722104 : Unit := ()
def PySem.W.Fast.tw15617038845961496847 : Unit := ()
def PySem.W.Fast.tw11196637990338850305 : Unit := ()
def PySem.W.Fast.tw7109796203860167817 : Unit := ()
def PySem.W.Fast.tw6722014019468228194 : Unit := ()
def PySem.W.Fast.tw15101959209877771071 : Unit := ()
def PySem.W.Fast.tw451181282129283784 : Unit := ()
open PySem PySem.W PyProof.Rows L2
set_option maxRecDepth 100000 in
set_option maxHeartbeats 0 in
theorem PySem.Challenge.cw_shopbound_k26_known_orders_holds : PySem.Challenge.rw_shopbound_k26_known_orders.Holds := by
 w_on; o_law; k_head; (case hw => w_witness2)
 k_fill
 refine Law.walk (l := PySem.Challenge.rw_shopbound_k26_known_orders) rfl rfl (fun w h Y => PySem.W.kIn_of Y) ?F
 case F =>
  intro w mg fa h KX G hmg
  refine' Law.all_mk KX G hmg ?aC_Shop ?d0 ?d1 ?d2 ?d3 ?d4 ?d5 ?d6 ?d7 ?d8 ?d9 ?d10 ?d11 ?d12 ?d13 ?d14 ?d15 ?d16 ?d17 ?d18 ?d19 ?d20 ?d21 ?d22 ?d23 ?d24 ?d25 ?d26 ?d27 ?d28 ?d29 ?d30 ?d31 ?d32 ?d33 ?d34 ?d35 ?d36 ?d37 ?d38 ?d39 ?d40 ?d41 ?d42 ?d43 ?d44 ?d45 ?d46 ?d47 ?a48 ?l48 ?c48 ?k48 ?pg_Shop ?hd_Shop ?po_Shop ?sa_Shop ?mk_Shop ?kc_Shop ?n0_Shop ?n1_Shop ?n2_Shop ?n3_Shop ?n4_Shop ?n5_Shop ?n6_Shop ?n7_Shop ?n8_Shop ?n9_Shop ?n10_Shop ?z_abs ?z_all ?z_bool ?z_dict ?z_enumerate ?z_int ?z_isinstance ?z_len ?z_list ?z_max ?z_min ?z_range ?z_set ?z_str ?z_tuple ?z_LONGEST_NAME ?z_MOST_AMOUNT ?z_MOST_BENCHES ?z_MOST_BREAKS ?z_MOST_HORIZON ?z_MOST_JOBS ?z_MOST_LINKS ?z_MOST_SETUPS ?z_MOST_STEPS ?z_MOST_STOCKS ?z_MOST_WAYS
  (case aC_Shop => k_is)
  (case d0 => refine' Dfn.mk' KX G ?a ?l ?c ?k; (case a => k_is); (case l => k_is); (case c => k_is); (case k => k_is))
  (case d1 => refine' Dfn.mk' KX G ?a ?l ?c ?k; (case a => k_is); (case l => k_is); (case c => k_is); (case k => k_is))
  (case d2 => refine' Dfn.mk' KX G ?a ?l ?c ?k; (case a => k_is); (case l => k_is); (case c => k_is); (case k => k_is))
  (case d3 => refine' Dfn.mk' KX G ?a ?l ?c ?k; (case a => k_is); (case l => k_is); (case c => k_is); (case k => k_is))
  (case d4 => refine' Dfn.mk' KX G ?a ?l ?c ?k; (case a => k_is); (case l => k_is); (case c => k_is); (case k => k_is))
  (case d5 => refine' Dfn.mk' KX G ?a ?l ?c ?k; (case a => k_is); (case l => k_is); (case c => k_is); (case k => k_is))
  (case d6 => refine' Dfn.mk' KX G ?a ?l ?c ?k; (case a => k_is); (case l => k_is); (case c => k_is); (case k => k_is))
  (case d7 => refine' Dfn.mk' KX G ?a ?l ?c ?k; (case a => k_is); (case l => k_is); (case c => k_is); (case k => k_is))
  (case d8 => refine' Dfn.mk' KX G ?a ?l ?c ?k; (case a => k_is); (case l => k_is); (case c => k_is); (case k => k_is))
  (case d9 => refine' Dfn.mk' KX G ?a ?l ?c ?k; (case a => k_is); (case l => k_is); (case c => k_is); (case k => k_is))
  (case d10 => refine' Dfn.mk' KX G ?a ?l ?c ?k; (case a => k_is); (case l => k_is); (case c => k_is); (case k => k_is))
  (case d11 => refine' Dfn.mk' KX G ?a ?l ?c ?k; (case a => k_is); (case l => k_is); (case c => k_is); (case k => k_is))
  (case d12 => refine' Dfn.mk' KX G ?a ?l ?c ?k; (case a => k_is); (case l => k_is); (case c => k_is); (case k => k_is))
  (case d13 => refine' Dfn.mk' KX G ?a ?l ?c ?k; (case a => k_is); (case l => k_is); (case c => k_is); (case k => k_is))
  (case d14 => refine' Dfn.mk' KX G ?a ?l ?c ?k; (case a => k_is); (case l => k_is); (case c => k_is); (case k => k_is))
  (case d15 => refine' Dfn.mk' KX G ?a ?l ?c ?k; (case a => k_is); (case l => k_is); (case c => k_is); (case k => k_is))
  (case d16 => refine' Dfn.mk' KX G ?a ?l ?c ?k; (case a => k_is); (case l => k_is); (case c => k_is); (case k => k_is))
  (case d17 => refine' Dfn.mk' KX G ?a ?l ?c ?k; (case a => k_is); (case l => k_is); (case c => k_is); (case k => k_is))
  (case d18 => refine' Dfn.mk' KX G ?a ?l ?c ?k; (case a => k_is); (case l => k_is); (case c => k_is); (case k => k_is))
  (case d19 => refine' Dfn.mk' KX G ?a ?l ?c ?k; (case a => k_is); (case l => k_is); (case c => k_is); (case k => k_is))
  (case d20 => refine' Dfn.mk' KX G ?a ?l ?c ?k; (case a => k_is); (case l => k_is); (case c => k_is); (case k => k_is))
  (case d21 => refine' Dfn.mk' KX G ?a ?l ?c ?k; (case a => k_is); (case l => k_is); (case c => k_is); (case k => k_is))
  (case d22 => refine' Dfn.mk' KX G ?a ?l ?c ?k; (case a => k_is); (case l => k_is); (case c => k_is); (case k => k_is))
  (case d23 => refine' Dfn.mk' KX G ?a ?l ?c ?k; (case a => k_is); (case l => k_is); (case c => k_is); (case k => k_is))
  (case d24 => refine' Dfn.mk' KX G ?a ?l ?c ?k; (case a => k_is); (case l => k_is); (case c => k_is); (case k => k_is))
  (case d25 => refine' Dfn.mk' KX G ?a ?l ?c ?k; (case a => k_is); (case l => k_is); (case c => k_is); (case k => k_is))
  (case d26 => refine' Dfn.mk' KX G ?a ?l ?c ?k; (case a => k_is); (case l => k_is); (case c => k_is); (case k => k_is))
  (case d27 => refine' Dfn.mk' KX G ?a ?l ?c ?k; (case a => k_is); (case l => k_is); (case c => k_is); (case k => k_is))
  (case d28 => refine' Dfn.mk' KX G ?a ?l ?c ?k; (case a => k_is); (case l => k_is); (case c => k_is); (case k => k_is))
  (case d29 => refine' Dfn.mk' KX G ?a ?l ?c ?k; (case a => k_is); (case l => k_is); (case c => k_is); (case k => k_is))
  (case d30 => refine' Dfn.mk' KX G ?a ?l ?c ?k; (case a => k_is); (case l => k_is); (case c => k_is); (case k => k_is))
  (case d31 => refine' Dfn.mk' KX G ?a ?l ?c ?k; (case a => k_is); (case l => k_is); (case c => k_is); (case k => k_is))
  (case d32 => refine' Dfn.mk' KX G ?a ?l ?c ?k; (case a => k_is); (case l => k_is); (case c => k_is); (case k => k_is))
  (case d33 => refine' Dfn.mk' KX G ?a ?l ?c ?k; (case a => k_is); (case l => k_is); (case c => k_is); (case k => k_is))
  (case d34 => refine' Dfn.mk' KX G ?a ?l ?c ?k; (case a => k_is); (case l => k_is); (case c => k_is); (case k => k_is))
  (case d35 => refine' Dfn.mk' KX G ?a ?l ?c ?k; (case a => k_is); (case l => k_is); (case c => k_is); (case k => k_is))
  (case d36 => refine' Dfn.mk' KX G ?a ?l ?c ?k; (case a => k_is); (case l => k_is); (case c => k_is); (case k => k_is))
  (case d37 => refine' Dfn.mk' KX G ?a ?l ?c ?k; (case a => k_is); (case l => k_is); (case c => k_is); (case k => k_is))
  (case d38 => refine' Dfn.mk' KX G ?a ?l ?c ?k; (case a => k_is); (case l => k_is); (case c => k_is); (case k => k_is))
  (case d39 => refine' DfnM.mk' ?a ?i ?l ?c ?k; (case a => k_is); (case i => k_is); (case l => k_is); (case c => k_is); (case k => k_is))
  (case d40 => refine' Dfn.mk' KX G ?a ?l ?c ?k; (case a => k_is); (case l => k_is); (case c => k_is); (case k => k_is))
  (case d41 => refine' Dfn.mk' KX G ?a ?l ?c ?k; (case a => k_is); (case l => k_is); (case c => k_is); (case k => k_is))
  (case d42 => refine' DfnM.mk' ?a ?i ?l ?c ?k; (case a => k_is); (case i => k_is); (case l => k_is); (case c => k_is); (case k => k_is))
  (case d43 => refine' DfnM.mk' ?a ?i ?l ?c ?k; (case a => k_is); (case i => k_is); (case l => k_is); (case c => k_is); (case k => k_is))
  (case d44 => refine' Dfn.mk' KX G ?a ?l ?c ?k; (case a => k_is); (case l => k_is); (case c => k_is); (case k => k_is))
  (case d45 => refine' DfnM.mk' ?a ?i ?l ?c ?k; (case a => k_is); (case i => k_is); (case l => k_is); (case c => k_is); (case k => k_is))
  (case d46 => refine' Dfn.mk' KX G ?a ?l ?c ?k; (case a => k_is); (case l => k_is); (case c => k_is); (case k => k_is))
  (case d47 => refine' Dfn.mk' KX G ?a ?l ?c ?k; (case a => k_is); (case l => k_is); (case c => k_is); (case k => k_is))
  (case a48 => k_is)
  (case l48 => k_is)
  (case c48 => k_is)
  (case k48 => k_is)
  (case pg_Shop => k_is)
  (case hd_Shop => k_is)
  (case po_Shop => k_is)
  (case sa_Shop => k_is)
  (case mk_Shop => k_is)
  (case kc_Shop => k_is)
  (case n0_Shop => k_is)
  (case n1_Shop => k_is)
  (case n2_Shop => k_is)
  (case n3_Shop => k_is)
  (case n4_Shop => k_is)
  (case n5_Shop => k_is)
  (case n6_Shop => k_is)
  (case n7_Shop => k_is)
  (case n8_Shop => k_is)
  (case n9_Shop => k_is)
  (case n10_Shop => k_is)
  (case z_abs => k_is)
  (case z_all => k_is)
  (case z_bool => k_is)
  (case z_dict => k_is)
  (case z_enumerate => k_is)
  (case z_int => k_is)
  (case z_isinstance => k_is)
  (case z_len => k_is)
  (case z_list => k_is)
  (case z_max => k_is)
  (case z_min => k_is)
  (case z_range => k_is)
  (case z_set => k_is)
  (case z_str => k_is)
  (case z_tuple => k_is)
  (case z_LONGEST_NAME => k_is)
  (case z_MOST_AMOUNT => k_is)
  (case z_MOST_BENCHES => k_is)
  (case z_MOST_BREAKS => k_is)
  (case z_MOST_HORIZON => k_is)
  (case z_MOST_JOBS => k_is)
  (case z_MOST_LINKS => k_is)
  (case z_MOST_SETUPS => k_is)
  (case z_MOST_STEPS => k_is)
  (case z_MOST_STOCKS => k_is)
  (case z_MOST_WAYS => k_is)
end
end
